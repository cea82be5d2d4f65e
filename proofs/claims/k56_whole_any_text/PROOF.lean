import PyProof.Rows.All
import Wide.All
import OpenK.AllK
import Wide.FinOn
import HandS.ForMost
import HandS.Walk
import HandS.WideBits
import HandS.IsInst
import HandS.RaiseMore
import KE.GoesEnum
import HandS.TupAny
import HandS.Evl
import HandS.TupMul
import HandS.ExcInit
import HandS.ExcField
import HandS.ExcOwn
import HandS.TryOnly
import HandS.ForExc
import HandS.Strs
import HandS.SetBool
import HandS.TupLen
import HandS.Zip
import KE.KExcInit
import HandS.TryMany
import PyProof.Rows.SumAny
import HandS.Star
import KE.KDictZip
import HandS.Deep
import HandS.More
import HandS.Iter
import HandS.CallLocal
import HandS.Lambda
import HandS.ExcIs
import HandS.EndOwn
import HandS.Text
import HandS.DictComp
import HandS.Defaults
import PyProof.ReprRoads
import PyProof.StrOps2
import HandS.Style
import PySem.Challenge.RW_pedalrounds_k56_whole_any_text
set_option Elab.async false
set_option linter.all false
set_option maxRecDepth 100000
set_option maxHeartbeats 4000000
/-! Rules of my own for the laws of Pedalrounds: repr of data, enumerate of a tuple, great powers. -/
namespace PySem
section
open PySem.Spec PyProof.Rows Builtin
/-- enumerate(t), t a tuple: the two new cells -/
abbrev myIt (t : Addr) : Obj := { cls := .type "tuple_iterator", data := .fields #[.ref t, .int 0 0] }
abbrev myEn (i : Addr) : Obj := { cls := .type "enumerate", data := .fields #[.none, .bool false, .ref i, rawInt 0, .none, .none] }
theorem my_enum_meets (t : Addr) (items : Array Value) :
    Meets (Builtin.«enumerate.__new__» ⟨[.type "enumerate", .ref t], []⟩)
      (fun _ R s => s.heap.IsTuple t items ∧ R (.ok (.ret (.ref (s.heap.push (myIt t)).objs.size))) { s with heap := (s.heap.push (myIt t)).push (myEn s.heap.objs.size) }) :=
  .of_wp fun prog w A R s hh => by
    obtain ⟨hp, g, dd, tk, os⟩ := s
    obtain ⟨hT, hR⟩ := hh
    have hsub := sub_enumerate
    have go : ∀ {A' : Around} {E Q : Value → Shared → Prop},
        Q (.ref hp.objs.size) ⟨hp.push (myIt t), g, dd, tk, os⟩ → wpAny (model prog w) A' (pyIter (.ref t)) Q E ⟨hp, g, dd, tk, os⟩ :=
      fun q => (begins_tuple t items).iter prog w _ _ ⟨hp, g, dd, tk, os⟩ _ hT q
    wp_walk using go
    refine wpAny_stack_any fun st => wpAny_pure ?_
    split
    · rename_i cc _ _ _ _ _
      cases (cc == Value.type "enumerate") <;> (wp_walk using go; exact ⟨_, rfl, hR⟩)
    · wp_walk using go
      exact ⟨_, rfl, hR⟩
variable {prog : Program} {w : World} {A : Around} {E : Value → Shared → Prop} {s : Shared}
theorem my_call_enum {t : Addr} {items : Array Value} {Q : Value → Shared → Prop} (hT : s.heap.IsTuple t items)
    (k : ∀ h', IsEnum h' (s.heap.objs.size + 1) s.heap.objs.size 0 .none → h'.IsTupleIter s.heap.objs.size t 0 →
      (∀ b o, s.heap.get? b = some o → h'.get? b = some o) → Q (.ref (s.heap.objs.size + 1)) { s with heap := h' }) :
    wpAny (model prog w) A (call (.type "enumerate") [.ref t]) Q E s := by
  refine callType_new F.called_enumerate (by decide) (F.typeCall_enumerate_1 _) (F.newCall_enumerate_1 _)
    (fun obj => F.args_object_init_2 obj _) F.entry_enumerate_new (my_enum_meets t items) ⟨hT, ?_⟩
  have hz : (s.heap.push (myIt t)).objs.size = s.heap.objs.size + 1 := Heap.size_push ..
  show _ ∧ _
  rw [hz]
  have he : IsEnum ((s.heap.push (myIt t)).push (myEn s.heap.objs.size)) (s.heap.objs.size + 1) s.heap.objs.size 0 .none := by
    have q := Heap.get?_push_size (s.heap.push (myIt t)) (o := myEn s.heap.objs.size) rfl
    rw [hz] at q
    exact q
  have hi : ((s.heap.push (myIt t)).push (myEn s.heap.objs.size)).IsTupleIter s.heap.objs.size t 0 := by
    refine ⟨myIt t, ?_, rfl, rfl⟩
    exact Heap.get?_push_of_some _ (Heap.get?_push_size _ rfl)
  refine ⟨⟨_, he, rfl⟩, k _ he hi ?_⟩
  intro b o x
  exact Heap.get?_push_of_some _ (Heap.get?_push_of_some _ x)
end
end PySem
namespace L2
open PySem PySem.Spec PyProof.Rows
/-! ### repr of data -/
theorem my_repr {X : Cx} (hu : X.A.units + 64 < cLine) (hg : X.A.guards = some []) :
    CallR X (.builtin "repr") (fun xs H Q => ∃ x d, xs = [x] ∧ Dp X.K H x d ∧ (isDisplay d = true ∧ d.showable = true ∧ d.hasDict = false ∧ d.depth ≤ 8 ∧ d.shown.length ≤ sizeLine) ∧ Q (.str d.shown) H) := by
  intro pins s σ H xs us Q I r h
  obtain ⟨x, d, rfl, hd, ⟨h1, h2, h3, h4, h5⟩, q⟩ := h
  obtain ⟨u, rfl, ru⟩ := vals1 r
  obtain ⟨as, rd⟩ := Dp.reads I d x u hd ru
  obtain ⟨a, rfl⟩ := isRef_of_reads rd h1
  refine repr_of_reads' rd h2 (PyData.noDict_hsm h3) hg (by omega) (fun _ _ e => e) (fun h' v tk hk => ?_) h5
  exact ⟨.str _, H, I.kept hk, ⟨_, rfl⟩, q⟩
/-! ### great powers -/
def CPowX (i j : Int) : Prop := 0 ≤ j ∧ (Builtin.Int.intBits i : Int) * j ≤ 2 ^ 27
theorem op_powX {X : Cx} : OpR X (binaryOp .Pow) (rI CPowX fun i j => .int (i ^ j.toNat)) :=
  opI fun _ _ _ _ _ _ _ hc q => pow_int hc.1 hc.2 q
/-! ### the built-in names -/
theorem bt_range : bootBuiltins "range" = some (.type "range") := by decide +kernel
theorem bt_int : bootBuiltins "int" = some (.type "int") := by decide +kernel
theorem bt_list : bootBuiltins "list" = some (.type "list") := by decide +kernel
theorem bt_tuple : bootBuiltins "tuple" = some (.type "tuple") := by decide +kernel
theorem bt_bool : bootBuiltins "bool" = some (.type "bool") := by decide +kernel
theorem bt_enumerate : bootBuiltins "enumerate" = some (.type "enumerate") := by decide +kernel
theorem bt_zip : bootBuiltins "zip" = some (.type "zip") := by decide +kernel
theorem bt_str : bootBuiltins "str" = some (.type "str") := by decide +kernel
theorem bt_dict : bootBuiltins "dict" = some (.type "dict") := by decide +kernel
theorem bt_set : bootBuiltins "set" = some (.type "set") := by decide +kernel
theorem bt_len : bootBuiltins "len" = some (.builtin "len") := by decide +kernel
theorem bt_min : bootBuiltins "min" = some (.builtin "min") := by decide +kernel
theorem bt_max : bootBuiltins "max" = some (.builtin "max") := by decide +kernel
theorem bt_repr : bootBuiltins "repr" = some (.builtin "repr") := by decide +kernel
theorem bt_sum : bootBuiltins "sum" = some (.builtin "sum") := by decide +kernel
theorem bt_isinstance : bootBuiltins "isinstance" = some (.builtin "isinstance") := by decide +kernel
theorem bt_any : bootBuiltins "any" = some (.builtin "any") := by decide +kernel
theorem bt_all : bootBuiltins "all" = some (.builtin "all") := by decide +kernel
theorem bt_sorted : bootBuiltins "sorted" = some (.builtin "sorted") := by decide +kernel
theorem bt_abs : bootBuiltins "abs" = some (.builtin "abs") := by decide +kernel
end L2

namespace L2
open PySem PySem.Spec PyProof.Rows
/-! ### enumerate of a tuple, walked -/
def ItE (K : PySem.W.Frag) (a : Addr) : It where
  go := fun i H => ∃ (xs : List V) (x : V), SqT K H a xs ∧ xs[i]? = some x
  yld := fun i H v H' => ∃ T x, v = .ref T ∧ H T = none ∧ H' = upd H T (.tup [.int (i : Nat), x]) ∧
    ∀ xs, SqT K H a xs → xs[i]? = some x
  stop := fun i H => ∃ xs : List V, SqT K H a xs ∧ xs.length = i
def tnE (a e it : Addr) (i : Nat) (h : Heap) : Prop :=
  (∃ old, IsEnum h e it ((i : Nat) : Int) old) ∧ h.IsTupleIter it a i ∧ e ≠ it ∧ a ≠ it ∧ a ≠ e
theorem turn_enumT {P : Program} {w : World} {K : PySem.W.Frag} {elts : List Expr} {kk : Nat} {tpos : Pos} (a e it : Addr) :
    Turn P w K (.Tuple elts kk tpos) (ItE K a) [e, it] e (tnE a e it) where
  mem := by simp
  obj := fun i h st b hb => by
    obtain ⟨⟨old, he⟩, ⟨o, ho, _, hd⟩, _⟩ := st
    rcases (by simpa using hb : b = e ∨ b = it) with z | z <;> subst z
    · exact ⟨_, he, fun v q => nomatch q⟩
    · refine ⟨o, ho, fun v q => ?_⟩
      rw [hd] at q
      cases q
  keep := fun i h h' st k => by
    obtain ⟨⟨old, he⟩, hi, r⟩ := st
    exact ⟨⟨old, k e (by simp) _ he⟩, hi.at (fun o q => k it (by simp) o q), r⟩
  item := by
    intro X hP hw hK hc i pins s σ H E I hf st hg
    subst hP hw hK
    obtain ⟨⟨old, he⟩, hit, hne, hai, hae⟩ := st
    obtain ⟨xs, x, hq, hx⟩ := hg
    obtain ⟨its, rv, p, hz⟩ := I.tuple hq
    obtain ⟨u, hu, ru⟩ := rv.get hx
    have hTu : s.heap.IsTuple a its.toArray := p
    have hel : e < s.heap.objs.size := Heap.lt_size he
    have hil : it < s.heap.objs.size := by
      obtain ⟨_, q, _⟩ := hit
      exact Heap.lt_size q
    have hlt : i < its.toArray.size := by
      have := (List.getElem?_eq_some_iff.mp hu).1
      simpa using this
    have D := Draws.tuple (prog := X.prog) (w := X.w) (A := X.A.in1) (I.ok.hd hc) it a hai its.toArray
    refine wpAny_pyNext_enum_itemD D he ⟨hit, hTu⟩ hlt hne (by simp; exact ⟨hne, Ne.symm hae⟩) fun y h' tk hy ho st' hT hsz hk => ?_
    have ey : y = u := by
      have q : its.toArray[i]? = some u := by simpa using hu
      exact Option.some.inj (hy.symm.trans q)
    subst ey
    refine ⟨_, rfl, wpAny_letOwnedTupleGo_enum (s := { s with heap := h', toks := tk + 1 }) ho fun g he' sb => ?_⟩
    have hT2 : g.get? s.heap.objs.size = some { cls := .type "tuple", data := .seq #[.int i tk, y] } :=
      (sb.2 _ (Nat.ne_of_gt hel)).trans hT
    have new : ObjOk X.prog X.w (upd H s.heap.objs.size (.tup [.int (i : Nat), x])) g s.heap.objs.size (.tup [.int (i : Nat), x]) :=
      ⟨by show 2 ≤ sizeLine; decide, [.int i tk, y], .cons ⟨_, rfl⟩ (.cons ru .nil), ⟨_, hT2, rfl, _, rfl⟩⟩
    have kk : ∀ b ob, b ∉ [e, it] → s.heap.get? b = some ob → g.get? b = some ob := fun b ob hb q => by
      have b1 : b ≠ e := fun z => hb (by simp [z])
      have b2 : b ≠ it := fun z => hb (by simp [z])
      exact (sb.2 b b1).trans (hk b ob b1 b2 q)
    have I1 := I.turnedNew (t' := tk + 1) kk hf (Nat.le_refl _) new
    refine ⟨.ref s.heap.objs.size, _, I1, rfl, ⟨_, x, rfl, I.hok.fresh (Nat.le_refl _), rfl, fun ys hy => ?_⟩, ?_, fun b hb => ?_⟩
    · rw [I.tuple_inj hy hq]
      exact hx
    · refine ⟨⟨y, ?_⟩, st'.1.at (fun o q => (sb.2 it (Ne.symm hne)).trans q), hne, hai, hae⟩
      have e1 : ((i + 1 : Nat) : Int) = (i : Int) + 1 := by omega
      rw [e1]
      exact he'
    · have hb' : b < s.heap.objs.size := by
        rcases (by simpa using hb : b = e ∨ b = it) with z | z <;> (rw [z]; assumption)
      rw [upd_ne (Nat.ne_of_lt hb')]
      exact (hf b hb).1
  done := by
    intro X hP hw hK hc i pins s σ H E I hf st hg
    subst hP hw hK
    obtain ⟨⟨old, he⟩, hit, hne, hai, hae⟩ := st
    obtain ⟨xs, hq, hx⟩ := hg
    obtain ⟨its, rv, p, hz⟩ := I.tuple hq
    obtain ⟨f0, f1, f2, f3, f4, f5⟩ := hf it (by simp)
    have hTu : s.heap.IsTuple a its.toArray := p
    have hn : i = its.toArray.size := by
      have hl := rv.length
      simp
      omega
    have D := Draws.tuple (prog := X.prog) (w := X.w) (A := X.A.in1) (I.ok.hd hc) it a hai its.toArray
    refine wpAny_pyNext_enum_endD D he ⟨hn ▸ hit, hTu⟩ fun h' eb => ?_
    exact ⟨rfl, I.turned (t' := s.toks) (fun b o hb q => eb b o hb q) f0 f1 f3 f4 f5⟩
  self := fun A i s Q E st h => by
    obtain ⟨⟨old, he⟩, _⟩ := st
    exact wpAny_pyIter_enum he h
/-- enumerate(t) is walked -/
def iEnumT (K : PySem.W.Frag) (ta : TA) : TI := fun σ H R => ta σ H fun vs H1 => ∃ a xs, vs = [.ref a] ∧ SqT K H1 a xs ∧ R (ItE K a) H1
theorem pi_enumT {X : Cx} {e : Expr} {ta : TA} {p pos tpos : Pos} {elts : List Expr} {kk : Nat} (hg : Gl X "enumerate")
    (hm : X.mg "enumerate" = none) (ha : PA X [e] ta) (hs : starEach [e] X.env = [(false, eval e X.env)] := by rfl) :
    PI X (.Tuple elts kk tpos) (.Call (.Name "enumerate" p) [e] [] pos) (iEnumT X.K ta) := by
  refine ⟨fun pins s σ H R I h => ?_⟩
  have body : ∀ us s1, AP X pins σ (fun vs H1 => ∃ a xs, vs = [.ref a] ∧ SqT X.K H1 a xs ∧ R (ItE X.K a) H1) us s1 →
      wpAny (model X.prog X.w) X.A (call (.type "enumerate") us) (fun v s2 => wpAny (model X.prog X.w) X.A (pyIter v) (PIE X pins σ (.Tuple elts kk tpos) R) X.xe s2) X.xe s1 := by
    rintro us s1 ⟨vs, H1, I1, r1, a, xs, rfl, hq, q⟩
    obtain ⟨u, rfl, ru⟩ := vals1 r1
    cases ru
    obtain ⟨its, rv, p', hz⟩ := I1.tuple hq
    have hTu : s1.heap.IsTuple a its.toArray := p'
    obtain ⟨oa, hoa, _⟩ := id hTu
    have hal : a < s1.heap.objs.size := Heap.lt_size hoa
    refine my_call_enum hTu fun h' he hit hk => wpAny_pyIter_enum he ?_
    have I2 : Inv X pins σ H1 { s1 with heap := h' } := I1.kept (t' := s1.toks) hk
    refine ⟨s1.heap.objs.size + 1, [s1.heap.objs.size + 1, s1.heap.objs.size], _, _, H1, rfl, I2, turn_enumT a (s1.heap.objs.size + 1) s1.heap.objs.size, ?_, fun b hb => ?_, q⟩
    · exact ⟨⟨.none, he⟩, hit, Nat.succ_ne_self _, Nat.ne_of_lt hal, Nat.ne_of_lt (Nat.lt_succ_of_lt hal)⟩
    · have hle : s1.heap.objs.size ≤ b := by
        rcases (by simpa using hb : b = s1.heap.objs.size + 1 ∨ b = s1.heap.objs.size) with z | z <;> rw [z]
        · exact Nat.le_add_right _ _
        · exact Nat.le_refl _
      exact I1.fpOk hle (I1.hok.fresh hle)
  exact Call_ (ld_blt I hg hm boot_enumerate (PyProof.Rows.callWith_type1 (thn (ha.run pos pins s σ H _ I h) fun us s1 q => body us s1 q) hs rfl))
theorem walk_enumT {K : PySem.W.Frag} {a : Addr} {xs : List V} :
    Walk (ItE K a) xs.length (fun H => SqT K H a xs) (YPair (fun i => some (.int (i : Nat))) (fun i => xs[i]?)) where
  goes := fun i _ hi q => ⟨xs, xs[i], q, by simp [hi]⟩
  stops := fun _ q => ⟨xs, q, rfl⟩
  yields := by
    rintro i H v H' _ q ⟨T, x, h1, h2, h3, h4⟩
    exact ⟨T, .int (i : Nat), x, h1, h2, h3, rfl, h4 xs q⟩
end L2

namespace L2
open PySem PySem.Spec PyProof.Rows
/-! ### data that stand in a heap, and what keeps them -/
/-- tuples stay -/
def TK (K : PySem.W.Frag) (H H' : Hp) : Prop := ∀ a xs, SqT K H a xs → SqT K H' a xs
theorem TK.refl {K : PySem.W.Frag} {H : Hp} : TK K H H := fun _ _ h => h
theorem TK.trans {K : PySem.W.Frag} {H H1 H2 : Hp} (a : TK K H H1) (b : TK K H1 H2) : TK K H H2 := fun c xs h => b c xs (a c xs h)
theorem Same.tk {K : PySem.W.Frag} {H H' : Hp} (e : Same H H') : TK K H H' := fun a xs h => by
  rcases h with (h | ⟨o, h⟩) | h
  · exact .inl (.inl (e _ _ h))
  · exact .inl (.inr ⟨o, e _ _ h⟩)
  · exact .inr h
theorem same_upd {H : Hp} {p : Addr} (h : H p = none) (o : HO) : Same H (upd H p o) := fun b u q => by
  rw [upd_ne (ne_of_none q h)]
  exact q
theorem same_step {H H1 : Hp} {p : Addr} (e : Same H H1) (h : H1 p = none) (o : HO) : Same H (upd H1 p o) := e.trans (same_upd h o)
/-- only tuples, no lists -/
def tupOnly : PyData → Bool
  | .list _ => false
  | .dict _ => false
  | .tuple xs => go xs
  | _ => true
where go : List PyData → Bool
  | [] => true
  | x :: r => tupOnly x && go r
mutual
theorem Dp.keepT {K : PySem.W.Frag} {H H' : Hp} (k : TK K H H') : ∀ (d : PyData) (v : V), tupOnly d = true → Dp K H v d → Dp K H' v d
  | .none, _, _, h => by cases h; exact .non
  | .bool b, _, _, h => by cases h; exact .bl b
  | .int i, _, _, h => by cases h; exact .int i
  | .str x, _, _, h => by cases h; exact .str x
  | .list _, _, t, _ => by cases t
  | .dict _, _, t, _ => by cases t
  | .tuple ds, _, t, h => by
    cases h with
    | tup hs ha => exact .tup (k _ _ hs) (DpAll.keepT k ds _ t ha)
theorem DpAll.keepT {K : PySem.W.Frag} {H H' : Hp} (k : TK K H H') : ∀ (ds : List PyData) (vs : List V), tupOnly.go ds = true → DpAll K H vs ds → DpAll K H' vs ds
  | [], _, _, h => by cases h; exact .nil
  | d :: r, _, t, h => by
    cases h with
    | cons h1 h2 =>
      have t' := Bool.and_eq_true_iff.mp t
      exact .cons (Dp.keepT k d _ t'.1 h1) (DpAll.keepT k r _ t'.2 h2)
end
mutual
theorem Dp.same {K : PySem.W.Frag} {H H' : Hp} (e : Same H H') : ∀ (d : PyData) (v : V), Dp K H v d → Dp K H' v d
  | .none, _, h => by cases h; exact .non
  | .bool b, _, h => by cases h; exact .bl b
  | .int i, _, h => by cases h; exact .int i
  | .str x, _, h => by cases h; exact .str x
  | .dict _, _, h => by cases h
  | .list ds, _, h => by
    cases h with
    | lst hs ha => exact .lst (e.seq hs) (DpAll.same e ds _ ha)
  | .tuple ds, _, h => by
    cases h with
    | tup hs ha => exact .tup (Same.tk e _ _ hs) (DpAll.same e ds _ ha)
theorem DpAll.same {K : PySem.W.Frag} {H H' : Hp} (e : Same H H') : ∀ (ds : List PyData) (vs : List V), DpAll K H vs ds → DpAll K H' vs ds
  | [], _, h => by cases h; exact .nil
  | d :: r, _, h => by
    cases h with
    | cons h1 h2 => exact .cons (Dp.same e d _ h1) (DpAll.same e r _ h2)
end
theorem DpAll.len {K : PySem.W.Frag} {H : Hp} : ∀ {vs : List V} {ds : List PyData}, DpAll K H vs ds → vs.length = ds.length
  | _, _, .nil => rfl
  | _, _, .cons _ h => by simp [DpAll.len h]
theorem DpAll.get {K : PySem.W.Frag} {H : Hp} : ∀ {vs : List V} {ds : List PyData} {i : Nat} {v : V}, DpAll K H vs ds → vs[i]? = some v → ∃ d, ds[i]? = some d ∧ Dp K H v d
  | _, _, _, _, .nil, h => by cases h
  | _, _, 0, _, .cons h1 _, h => by
    cases h
    exact ⟨_, rfl, h1⟩
  | _, _, i + 1, _, .cons _ h2, h => DpAll.get (i := i) h2 h
theorem DpAll.app {K : PySem.W.Frag} {H : Hp} : ∀ {vs us : List V} {ds es : List PyData}, DpAll K H vs ds → DpAll K H us es → DpAll K H (vs ++ us) (ds ++ es)
  | _, _, _, _, .nil, h => h
  | _, _, _, _, .cons h1 h2, h => .cons h1 (DpAll.app h2 h)
theorem DpAll.ints {K : PySem.W.Frag} {H : Hp} : ∀ (ns : List Int), DpAll K H (ns.map V.int) (ns.map PyData.int)
  | [] => .nil
  | n :: r => .cons (.int n) (DpAll.ints r)
theorem DpAll.ints_inv {K : PySem.W.Frag} {H : Hp} : ∀ {ns : List Int} {vs : List V}, DpAll K H vs (ns.map PyData.int) → vs = ns.map V.int
  | [], _, h => by cases h; rfl
  | n :: r, _, h => by
    cases h with
    | cons h1 h2 =>
      cases h1
      rw [DpAll.ints_inv h2]
      rfl
/-- a tuple of ints -/
abbrev dInts (ns : List Int) : PyData := .tuple (ns.map PyData.int)
/-- loops -/
abbrev dLoops (ls : List (List Int)) : PyData := .tuple (ls.map dInts)
theorem Dp.ints {K : PySem.W.Frag} {H : Hp} {v : V} {ns : List Int} (h : Dp K H v (dInts ns)) : ∃ a, v = .ref a ∧ SqT K H a (ns.map V.int) := by
  cases h with
  | tup hs ha =>
    rw [DpAll.ints_inv ha] at hs
    exact ⟨_, rfl, hs⟩
theorem Dp.ofInts {K : PySem.W.Frag} {H : Hp} {a : Addr} {ns : List Int} (h : SqT K H a (ns.map V.int)) : Dp K H (.ref a) (dInts ns) := .tup h (DpAll.ints ns)
theorem Dp.tuple {K : PySem.W.Frag} {H : Hp} {v : V} {ds : List PyData} (h : Dp K H v (.tuple ds)) : ∃ a xs, v = .ref a ∧ SqT K H a xs ∧ DpAll K H xs ds := by
  cases h with
  | tup hs ha => exact ⟨_, _, rfl, hs, ha⟩
theorem to_ints : ∀ ns : List Int, tupOnly.go (ns.map PyData.int) = true
  | [] => rfl
  | n :: r => by
    show (true && tupOnly.go (r.map PyData.int)) = true
    rw [to_ints r]
    rfl
theorem to_loops : ∀ ls : List (List Int), tupOnly.go (ls.map dInts) = true
  | [] => rfl
  | l :: r => by
    show (tupOnly.go (l.map PyData.int) && tupOnly.go (r.map dInts)) = true
    rw [to_loops r, to_ints l]
    rfl
theorem SqT.ty {K : PySem.W.Frag} {H : Hp} {a : Addr} {xs : List V} (h : SqT K H a xs) : TyX K H (.ref a) (.type "tuple") := by
  rcases h with (h | ⟨o, h⟩) | ⟨o, its, n, h1, h2, _⟩
  · exact .base (.tup h)
  · exact .fTuple h
  · exact .kTuple h1 h2
/-! ### the rules with the written part named -/
section
variable {X : Cx} {K : PySem.W.Frag}
theorem k_len (e : X.K = K := by rfl) : CallR X (.builtin "len") (Evl.rLenS K) := by
  subst e
  exact call_len_seq
def rTupS (K : PySem.W.Frag) : List V → Hp → VK → Prop := fun xs H Q => ∃ p ys, xs = [.ref p] ∧ ((SqL K H p ys ∧ ∀ l, H l = none → Q (.ref l) (upd H l (.tup ys))) ∨ (SqT K H p ys ∧ Q (.ref p) H))
theorem k_tuple (e : X.K = K := by rfl) : CallR X (.type "tuple") (rTupS K) := by
  subst e
  exact call_tuple_of
theorem k_list (e : X.K = K := by rfl) : CallR X (.type "list") (Evl.rListS K) := by
  subst e
  exact call_list_of
theorem k_sum (hc : X.calm = true) (e : X.K = K := by rfl) : CallR X (.builtin "sum") (rSum K) := by
  subst e
  exact cr_sum hc
theorem k_isi (e : X.K = K := by rfl) : CallR X (.builtin "isinstance") (rIsi K) := by
  subst e
  exact call_isi
theorem k_slL (e : X.K = K := by rfl) : SlR X (rSlL K) := by
  subst e
  exact sl_list
theorem k_slT (e : X.K = K := by rfl) : SlR X (rSlA K) := by
  subst e
  exact sl_tupA
theorem k_ixL (e : X.K = K := by rfl) : IxR X (rIxL K) := by
  subst e
  exact ix_list
theorem k_ixT (e : X.K = K := by rfl) : IxR X (rIxT K) := by
  subst e
  exact ix_tup
theorem k_eqD (hu : X.A.units + 64 < cLine) (e : X.K = K := by rfl) : OpR X (compareOp .Eq) (rEqD K) := by
  subst e
  exact op_eqD hu
theorem k_neD (hu : X.A.units + 64 < cLine) (e : X.K = K := by rfl) : OpR X (compareOp .NotEq) (rNeD K) := by
  subst e
  exact op_neD hu
theorem k_catT (e : X.K = K := by rfl) : OpR X (binaryOp .Add) (rCatA K) := by
  subst e
  exact op_catA
def rReprD (K : PySem.W.Frag) : List V → Hp → VK → Prop := fun xs H Q => ∃ x d, xs = [x] ∧ Dp K H x d ∧ (isDisplay d = true ∧ d.showable = true ∧ d.hasDict = false ∧ d.depth ≤ 8 ∧ d.shown.length ≤ sizeLine) ∧ Q (.str d.shown) H
theorem k_repr (hu : X.A.units + 64 < cLine) (hg : X.A.guards = some []) (e : X.K = K := by rfl) : CallR X (.builtin "repr") (rReprD K) := by
  subst e
  exact my_repr hu hg
theorem k_piL {tg l : Expr} {tl : TE} (hl : PE X l tl) (e : X.K = K := by rfl) : PI X tg l (iList K tl) := by
  subst e
  exact pi_list hl
theorem k_piT {tg l : Expr} {tl : TE} (hl : PE X l tl) (e : X.K = K := by rfl) : PI X tg l (iTup K tl) := by
  subst e
  exact pi_tup hl
theorem k_piET {e : Expr} {ta : TA} {p pos tpos : Pos} {elts : List Expr} {kk : Nat} (hg : Gl X "enumerate")
    (hm : X.mg "enumerate" = none) (ha : PA X [e] ta) (hs : starEach [e] X.env = [(false, eval e X.env)] := by rfl) (ek : X.K = K := by rfl) :
    PI X (.Tuple elts kk tpos) (.Call (.Name "enumerate" p) [e] [] pos) (iEnumT K ta) := by
  subst ek
  exact pi_enumT hg hm ha hs
theorem k_piEL {e : Expr} {ta : TA} {p pos tpos : Pos} {elts : List Expr} {kk : Nat} (hg : Gl X "enumerate")
    (hm : X.mg "enumerate" = none) (ha : PA X [e] ta) (hs : starEach [e] X.env = [(false, eval e X.env)] := by rfl) (ek : X.K = K := by rfl) :
    PI X (.Tuple elts kk tpos) (.Call (.Name "enumerate" p) [e] [] pos) (iEnum K ta) := by
  subst ek
  exact pi_enum hg hm ha hs
end
end L2
namespace My
open PySem PySem.Spec PyProof.Rows L2
/-! ### the state of the draws -/

abbrev kCells : Key := .inr "cells"
abbrev kLeft : Key := .inr "left"
abbrev kAt : Key := .inr "at"
def mKvs (c l : Addr) (n : Nat) : List (Key × V) := [(kCells, .ref c), (kLeft, .ref l), (kAt, .int (n : Int))]
structure MAt (H : Hp) (m c l : Addr) (n : Nat) : Prop where
  dk : H m = some (.dK (mKvs c l n))
  cs : ∃ cs : List Int, H c = some (.lst (cs.map V.int)) ∧ cs.length ≤ 63
  ls : ∃ ls : List Int, H l = some (.lst (ls.map V.int)) ∧ ls.length ≤ 63 ∧ ∀ z ∈ ls, 0 ≤ z
  cl : c ≠ l
/-- b is a part of the state: the list of the cells, or that of what is left -/
def Lf (H : Hp) (m b : Addr) : Prop := ∃ kvs k, H m = some (.dK kvs) ∧ valV kvs k = some (.ref b)
/-- the state of the draws stands at m, n mixed numbers drawn -/
def MS (H : Hp) (m : Addr) (n : Nat) : Prop := ∃ c l, MAt H m c l n
theorem e12 : ¬ (Str.ofString "cells" = Str.ofString "left") := by decide +kernel
theorem e13 : ¬ (Str.ofString "cells" = Str.ofString "at") := by decide +kernel
theorem e23 : ¬ (Str.ofString "left" = Str.ofString "at") := by decide +kernel
theorem e21 : ¬ (Str.ofString "left" = Str.ofString "cells") := by decide +kernel
theorem e31 : ¬ (Str.ofString "at" = Str.ofString "cells") := by decide +kernel
theorem e32 : ¬ (Str.ofString "at" = Str.ofString "left") := by decide +kernel
theorem k12 : ¬ kCells = kLeft := by decide +kernel
theorem k13 : ¬ kCells = kAt := by decide +kernel
theorem k23 : ¬ kLeft = kAt := by decide +kernel
theorem k21 : ¬ kLeft = kCells := by decide +kernel
theorem k31 : ¬ kAt = kCells := by decide +kernel
theorem k32 : ¬ kAt = kLeft := by decide +kernel
theorem mKvs_cells (c l : Addr) (n : Nat) : valV (mKvs c l n) kCells = some (.ref c) := by
  unfold mKvs
  rw [valV_pos rfl]
theorem mKvs_left (c l : Addr) (n : Nat) : valV (mKvs c l n) kLeft = some (.ref l) := by
  unfold mKvs
  rw [valV_neg k12, valV_pos rfl]
theorem mKvs_at (c l : Addr) (n : Nat) : valV (mKvs c l n) kAt = some (.int (n : Int)) := by
  unfold mKvs
  rw [valV_neg k13, valV_neg k23, valV_pos rfl]
theorem put3_2 {x y z w : V} : putK [(kCells, x), (kLeft, y), (kAt, z)] kLeft w = [(kCells, x), (kLeft, w), (kAt, z)] := by
  simp [putK, e12, e21, e23, e32]
theorem put3_3 {x y z w : V} : putK [(kCells, x), (kLeft, y), (kAt, z)] kAt w = [(kCells, x), (kLeft, y), (kAt, w)] := by
  simp [putK, e13, e31, e23, e32]
theorem merge3 {x y z : V} : mergeK [] [(kCells, x), (kLeft, y), (kAt, z)] = [(kCells, x), (kLeft, y), (kAt, z)] := by
  simp [mergeK, putK, e12, e21, e13, e31, e23, e32]
theorem mKvs_ref {c l b : Addr} {n : Nat} {k : Key} (h : valV (mKvs c l n) k = some (.ref b)) : b = c ∨ b = l := by
  unfold mKvs at h
  by_cases h1 : kCells = k
  · rw [valV_pos h1] at h
    cases h
    exact .inl rfl
  · rw [valV_neg h1] at h
    by_cases h2 : kLeft = k
    · rw [valV_pos h2] at h
      cases h
      exact .inr rfl
    · rw [valV_neg h2] at h
      by_cases h3 : kAt = k
      · rw [valV_pos h3] at h
        cases h
      · rw [valV_neg h3] at h
        cases h
theorem MAt.lf {H : Hp} {m c l : Addr} {n : Nat} (M : MAt H m c l n) {b : Addr} (h : Lf H m b) : b = c ∨ b = l := by
  obtain ⟨kvs, k, h1, h2⟩ := h
  rw [M.dk] at h1
  cases h1
  exact mKvs_ref h2
theorem MAt.ownC {H : Hp} {m c l : Addr} {n : Nat} (M : MAt H m c l n) : Lf H m c := ⟨_, kCells, M.dk, mKvs_cells c l n⟩
theorem MAt.ownL {H : Hp} {m c l : Addr} {n : Nat} (M : MAt H m c l n) : Lf H m l := ⟨_, kLeft, M.dk, mKvs_left c l n⟩
/-- what a draw may change: the state itself and what is left -/
structure Ef (m : Addr) (H H' : Hp) : Prop where
  keep : ∀ b o, H b = some o → b ≠ m → ¬ Lf H m b → H' b = some o
  new : ∀ b, Lf H' m b → Lf H m b ∨ H b = none
  st : ∀ o, H m = some o → ∃ o', H' m = some o'
theorem Ef.trans {m : Addr} {H H1 H2 : Hp} (a : Ef m H H1) (b : Ef m H1 H2) : Ef m H H2 where
  keep := fun c o h h1 h2 => b.keep c o (a.keep c o h h1 h2) h1 fun z => by
    rcases a.new c z with q | q
    · exact h2 q
    · rw [h] at q
      cases q
  new := fun c z => by
    rcases b.new c z with q | q
    · exact a.new c q
    · cases e : H c with
      | none => exact .inr rfl
      | some o =>
        refine .inl (Classical.byContradiction fun w => ?_)
        by_cases cm : c = m
        · subst cm
          obtain ⟨o', e'⟩ := a.st o e
          rw [q] at e'
          cases e'
        · rw [a.keep c o e cm w] at q
          cases q
  st := fun o h => by
    obtain ⟨o1, h1⟩ := a.st o h
    exact b.st o1 h1
theorem Ef.refl {m : Addr} {H : Hp} : Ef m H H := ⟨fun _ _ h _ _ => h, fun _ h => .inl h, fun o h => ⟨o, h⟩⟩
theorem Ef.ofSame {m : Addr} {H H' : Hp} {n : Nat} (M : MS H m n) (e : Same H H') : Ef m H H' where
  keep := fun b o h _ _ => e b o h
  new := fun b z => by
    obtain ⟨c, l, M⟩ := M
    obtain ⟨kvs, k, h1, h2⟩ := z
    rw [e _ _ M.dk] at h1
    cases h1
    exact .inl ⟨_, k, M.dk, h2⟩
  st := fun o h => ⟨o, e _ _ h⟩
theorem MS.same {m : Addr} {H H' : Hp} {n : Nat} (M : MS H m n) (e : Same H H') : MS H' m n := by
  obtain ⟨c, l, dk, ⟨cs, h1, h2⟩, ⟨ls, h3, h4, h5⟩, cl⟩ := M
  exact ⟨c, l, e _ _ dk, ⟨cs, e _ _ h1, h2⟩, ⟨ls, e _ _ h3, h4, h5⟩, cl⟩
theorem Ef.tk {K : PySem.W.Frag} {m : Addr} {H H' : Hp} {n : Nat} (e : Ef m H H') (M : MS H m n) : TK K H H' := fun a xs h => by
  obtain ⟨c, l, M⟩ := M
  obtain ⟨ls, hl, _⟩ := M.ls
  obtain ⟨cs, hc, _⟩ := M.cs
  have go : ∀ u : HO, H a = some u → (∀ kvs, u ≠ .dK kvs) → (∀ ys, u ≠ .lst ys) → H' a = some u := fun u hu h1 h2 => by
    refine e.keep a u hu (fun z => ?_) (fun z => ?_)
    · subst z
      rw [M.dk] at hu
      exact h1 _ (Option.some.inj hu).symm
    · rcases M.lf z with q | q
      · rw [q, hc] at hu
        exact h2 _ (Option.some.inj hu).symm
      · rw [q, hl] at hu
        exact h2 _ (Option.some.inj hu).symm
  rcases h with (h | ⟨o, h⟩) | h
  · exact .inl (.inl (go _ h (by intro _ z; cases z) (by intro _ z; cases z)))
  · exact .inl (.inr ⟨o, go _ h (by intro _ z; cases z) (by intro _ z; cases z)⟩)
  · exact .inr h
theorem Ef.lst {m : Addr} {H H' : Hp} {p : Addr} {xs : List V} {n : Nat} (e : Ef m H H') (M : MS H m n) (h : H p = some (.lst xs)) (nl : ¬ Lf H m p) : H' p = some (.lst xs) ∧ ¬ Lf H' m p := by
  have pm : p ≠ m := fun z => by
    obtain ⟨c, l, M⟩ := M
    rw [z, M.dk] at h
    cases h
  refine ⟨e.keep _ _ h pm nl, fun z => ?_⟩
  rcases e.new _ z with q | q
  · exact nl q
  · rw [h] at q
    cases q
theorem MS.notLf {m : Addr} {H : Hp} {n : Nat} (M : MS H m n) {p : Addr} (h : H p = none) : ¬ Lf H m p := fun z => by
  obtain ⟨c, l, M⟩ := M
  obtain ⟨ls, hl, _⟩ := M.ls
  obtain ⟨cs, hc, _⟩ := M.cs
  rcases M.lf z with q | q
  · rw [q, hc] at h
    cases h
  · rw [q, hl] at h
    cases h
theorem map_int_get {ns : List Int} {i : Nat} {x : V} (h : (ns.map V.int)[i]? = some x) : ∃ z, ns[i]? = some z ∧ x = V.int z := by
  rw [List.getElem?_map] at h
  cases e : ns[i]? with
  | none =>
    rw [e] at h
    cases h
  | some z =>
    rw [e] at h
    exact ⟨z, rfl, (Option.some.inj h).symm⟩
theorem MAt.left {H : Hp} {m c l : Addr} {n : Nat} (M : MAt H m c l n) : DGet H m (.str "left") (some (.ref l)) := by
  have h := DGet.k (k := kLeft) M.dk
  rw [mKvs_left] at h
  exact h
theorem MAt.cells {H : Hp} {m c l : Addr} {n : Nat} (M : MAt H m c l n) : DGet H m (.str "cells") (some (.ref c)) := by
  have h := DGet.k (k := kCells) M.dk
  rw [mKvs_cells] at h
  exact h
theorem MAt.at {H : Hp} {m c l : Addr} {n : Nat} (M : MAt H m c l n) : DGet H m (.str "at") (some (.int (n : Int))) := by
  have h := DGet.k (k := kAt) M.dk
  rw [mKvs_at] at h
  exact h
theorem eqv_nil : ∀ ls : List Int, PyData.eqv (.list (ls.map PyData.int)) (.list []) = ls.isEmpty
  | [] => rfl
  | _ :: _ => rfl
/-- xs != [] -/
theorem rd_ne_nil {K : PySem.W.Frag} {H : Hp} {l : Addr} {ls : List Int} {σ : L2.St} {Q : VK} (hl : H l = some (.lst (ls.map V.int)))
    (k : ∀ p, H p = none → Q (.bl (!ls.isEmpty)) (upd H p (.lst []))) : tLst tNil σ H fun y H2 => rNeD K (.ref l) y H2 Q := by
  refine ⟨(by show 0 ≤ sizeLine; decide), fun p hp => ?_⟩
  have lp : l ≠ p := ne_of_none hl hp
  refine ⟨.list (ls.map PyData.int), .list [], .lst (SqL.of (by rw [upd_ne lp]; exact hl)) (DpAll.ints ls), .lst (SqL.of upd_same) .nil, PySem.W.shaped_ints ls, by decide +kernel, ?_⟩
  rw [eqv_nil]
  exact k p hp
theorem cut_tail (z : Int) (r : List Int) : cutV ((z :: r).map V.int) (some 1) none = r.map V.int := by
  simp only [cutV, HT.sIx, List.map_cons, List.length_cons, List.length_map]
  rw [if_neg (by omega)]
  have e : min (1 : Int).toNat (r.length + 1) = 1 := by
    show min 1 (r.length + 1) = 1
    omega
  rw [e]
  show ((r.map V.int).take (r.length + 1 - 1)) = _
  rw [List.take_of_length_le (by rw [List.length_map]; omega)]
theorem map_int_inj : ∀ {xs ys : List Int}, xs.map V.int = ys.map V.int → xs = ys
  | [], [], _ => rfl
  | [], _ :: _, h => by simp at h
  | _ :: _, [], h => by simp at h
  | x :: xs, y :: ys, h => by
    simp only [List.map_cons, List.cons.injEq, V.int.injEq] at h
    rw [h.1, map_int_inj h.2]
theorem at_zero {x : V} {r : List V} : atI (x :: r) 0 = some x := at_of (j := 0) rfl rfl
/-- what is known of a value and its heap, for all that follows -/
theorem te_cut {te : TE} {σ : L2.St} {H : Hp} {Q : VK} (R : V → Hp → Prop) (h : ∀ Q', (∀ v H', R v H' → Q' v H') → te σ H Q') (k : ∀ v H', R v H' → Q v H') : te σ H Q := h Q k
theorem tt_cut {tt : TT} {σ : L2.St} {H : Hp} {Q : Bool → Hp → Prop} (R : Bool → Hp → Prop) (h : ∀ Q', (∀ b H', R b H' → Q' b H') → tt σ H Q') (k : ∀ b H', R b H' → Q b H') : tt σ H Q := h Q k
theorem MAt.same {m c l : Addr} {H H' : Hp} {n : Nat} (M : MAt H m c l n) (e : Same H H') : MAt H' m c l n := by
  obtain ⟨dk, ⟨cs, h1, h2⟩, ⟨ls, h3, h4, h5⟩, cl⟩ := M
  exact ⟨e _ _ dk, ⟨cs, e _ _ h1, h2⟩, ⟨ls, e _ _ h3, h4, h5⟩, cl⟩
theorem at_mod (k : Int) {xs : List Int} (h : (0 : Int) < ((xs.map V.int).length : Int)) : ∃ v : Int, atI (xs.map V.int) (k.fmod ((xs.map V.int).length : Int)) = some (.int v) := by
  have h1 := Int.fmod_nonneg_of_pos k h
  have h2 := Int.fmod_lt_of_pos k h
  rw [List.length_map] at h h1 h2 ⊢
  have hk : (k.fmod (xs.length : Int)).toNat < xs.length := by omega
  refine ⟨xs[(k.fmod (xs.length : Int)).toNat], at_of (j := (k.fmod (xs.length : Int)).toNat) (by omega) ?_⟩
  rw [List.getElem?_map, List.getElem?_eq_getElem hk]
  all_goals rfl
theorem seq_asg {te : TE} {g : TG} {u : TS} {D : Ends} {σ : L2.St} {H : Hp} (h : te σ H fun x H1 => g x σ H1 (u D)) : tSeq (tAsg te g) u D σ H := h
/-- name = e, what is known of the value told once -/
theorem seq_cut {te : TE} {g : TG} {u : TS} {D : Ends} {σ : L2.St} {H : Hp} (R : V → Hp → Prop) (h : ∀ Q', (∀ v H', R v H' → Q' v H') → te σ H Q')
    (k : ∀ v H', R v H' → g v σ H' (u D)) : tSeq (tAsg te g) u D σ H := h _ k
theorem ret_cut {te : TE} {D : Ends} {σ : L2.St} {H : Hp} (R : V → Hp → Prop) (h : ∀ Q', (∀ v H', R v H' → Q' v H') → te σ H Q') (k : ∀ v H', R v H' → D.rt v H') : tRet te D σ H := h _ k
/-- another list than those of the state is written -/
theorem MS.upd {m : Addr} {H : Hp} {n : Nat} {D : Addr} {xs : List V} {o : HO} (M : MS H m n) (h : H D = some (.lst xs)) (nl : ¬ Lf H m D) : MS (upd H D o) m n := by
  obtain ⟨c, l, M⟩ := M
  have Dm : m ≠ D := fun z => by
    rw [← z, M.dk] at h
    cases h
  have Dc : c ≠ D := fun z => nl (z ▸ M.ownC)
  have Dl : l ≠ D := fun z => nl (z ▸ M.ownL)
  obtain ⟨dk, ⟨cs, h1, h2⟩, ⟨ls, h3, h4, h5⟩, cl⟩ := M
  exact ⟨c, l, by rw [upd_ne Dm]; exact dk, ⟨cs, by rw [upd_ne Dc]; exact h1, h2⟩, ⟨ls, by rw [upd_ne Dl]; exact h3, h4, h5⟩, cl⟩
theorem Lf.upd {m : Addr} {H : Hp} {D b : Addr} {o : HO} (Dm : m ≠ D) (h : Lf (upd H D o) m b) : Lf H m b := by
  obtain ⟨kvs, k, h1, h2⟩ := h
  rw [upd_ne Dm] at h1
  exact ⟨kvs, k, h1, h2⟩
/-- a list that was new at H0 is written -/
theorem Ef.upd {m : Addr} {H0 H : Hp} {D : Addr} {o : HO} (e : Ef m H0 H) (h0 : H0 D = none) (Dm : m ≠ D) : Ef m H0 (upd H D o) where
  keep := fun b u h h1 h2 => by
    rw [upd_ne (ne_of_none h h0)]
    exact e.keep b u h h1 h2
  new := fun b z => e.new b (z.upd Dm)
  st := fun u h => by
    rw [upd_ne Dm]
    exact e.st u h
theorem log_ok {many : Int} (h0 : 0 < many) (h : many ≤ 10 ^ 31) : many.natAbs.log2 < 9000 := by
  have e : many.natAbs < 2 ^ 104 := by
    have : (10 : Int) ^ 31 < 2 ^ 104 := by decide
    omega
  have := (Nat.log2_lt (by omega)).mpr e
  omega
theorem MS.mne {m : Addr} {H : Hp} {n : Nat} (M : MS H m n) {D : Addr} (h : H D = none) : m ≠ D := fun z => by
  obtain ⟨c, l, M⟩ := M
  rw [← z, M.dk] at h
  cases h
theorem MS.mneL {m : Addr} {H : Hp} {n : Nat} (M : MS H m n) {D : Addr} {xs : List V} (h : H D = some (.lst xs)) : m ≠ D := fun z => by
  obtain ⟨c, l, M⟩ := M
  rw [← z, M.dk] at h
  cases h
/-- a list is written: tuples stay -/
theorem tk_upd {K : PySem.W.Frag} {H : Hp} {D : Addr} {xs : List V} {o : HO} (h : H D = some (.lst xs)) : TK K H (upd H D o) := fun a ys q => by
  rcases q with (q | ⟨u, q⟩) | q
  · exact .inl (.inl (by rw [upd_ne (ne_of q h (by intro w; cases w))]; exact q))
  · exact .inl (.inr ⟨u, by rw [upd_ne (ne_of q h (by intro w; cases w))]; exact q⟩)
  · exact .inr q
theorem take_more {α : Type} {l : List α} {i : Nat} {x : α} (h : l[i]? = some x) : l.take (i + 1) = l.take i ++ [x] := by
  rw [List.take_add_one, h]
  rfl
end My

/-! Which data repr tells, and how long its text may be. -/
namespace L2
open PySem PySem.Spec PyProof.Rows
/-- ints of at most k digits, no dict -/
def fits (k : Nat) : PyData → Bool
  | .int i => decide (i.natAbs < 10 ^ k)
  | .none => true
  | .bool _ => true
  | .str x => decide ((reprText x).length ≤ 1000)
  | .list xs => go xs
  | .tuple xs => go xs
  | .dict _ => false
where go : List PyData → Bool
  | [] => true
  | x :: r => fits k x && go r
/-- a bound of the text's length -/
def room (k : Nat) : PyData → Nat
  | .int _ => k + 1
  | .none => 10
  | .bool _ => 10
  | .str _ => 1000
  | .list xs => go xs + 4
  | .tuple xs => go xs + 4
  | .dict _ => 0
where go : List PyData → Nat
  | [] => 0
  | x :: r => room k x + 2 + go r
theorem list_text_le (ts : List Str) : (listText ts).length ≤ piled ts + 4 := by
  cases ts with
  | nil => decide +kernel
  | cons t r =>
    have h := textFrom_length_pos r 1 (("[" : Str) ++ (if (0 : Nat) > 0 then ", " else "" : String) ++ t) (Nat.succ_pos 0)
    have e : (("[" : Str) ++ (if (0 : Nat) > 0 then ", " else "" : String) ++ t).length = 1 + t.length := by
      rw [strLen_append, strLen_append]
      rfl
    have f : (listText (t :: r)).length = (textFrom 1 (("[" : Str) ++ (if (0 : Nat) > 0 then ", " else "" : String) ++ t) r).length + 1 := by
      show (textFrom 0 "[" (t :: r) ++ "]").length = _
      rw [strLen_append]
      rfl
    rw [f, h, e, piled_cons]
    omega
theorem tuple_text_le (ts : List Str) : (tupleText ts).length ≤ piled ts + 4 := by
  have e : (tupleText ts).length ≤ (Str.join ", " ts).length + 3 := by
    unfold tupleText
    rw [strLen_append, strLen_append]
    have e1 : (("(" : String) : Str).length = 1 := by decide +kernel
    have e2 : ((if (ts.length == 1) = true then ",)" else ")" : String) : Str).length ≤ 2 := by
      split
      · decide +kernel
      · decide +kernel
    omega
  cases ts with
  | nil => exact Nat.le_trans e (by decide +kernel)
  | cons t r =>
    have q := join_length_add (t :: r) (by simp)
    omega
mutual
theorem room_ok {k : Nat} (hk : 0 < k) : ∀ d : PyData, fits k d = true → d.shown.length ≤ room k d
  | .none, _ => (by decide +kernel : PyData.none.shown.length ≤ 10)
  | .bool true, _ => (by decide +kernel : (PyData.bool true).shown.length ≤ 10)
  | .bool false, _ => (by decide +kernel : (PyData.bool false).shown.length ≤ 10)
  | .int i, h => by
    have q := int_text_length_le10 hk (of_decide_eq_true h)
    show (Str.ofString (toString i)).length ≤ k + 1
    rw [PySem.ofString_length]
    exact q
  | .str x, h => of_decide_eq_true h
  | .list xs, h => by
    have q := rooms_ok hk xs h
    exact Nat.le_trans (list_text_le _) (Nat.add_le_add_right q 4)
  | .tuple xs, h => by
    have q := rooms_ok hk xs h
    exact Nat.le_trans (tuple_text_le _) (Nat.add_le_add_right q 4)
  | .dict _, h => by cases h
theorem rooms_ok {k : Nat} (hk : 0 < k) : ∀ ds : List PyData, fits.go k ds = true → piled (PyData.shownAll ds) ≤ room.go k ds
  | [], _ => Nat.le_refl _
  | d :: r, h => by
    have h' := Bool.and_eq_true_iff.mp h
    have q1 := room_ok hk d h'.1
    have q2 := rooms_ok hk r h'.2
    show piled (d.shown :: PyData.shownAll r) ≤ room k d + 2 + room.go k r
    rw [piled_cons]
    omega
end
mutual
theorem fits_show {k : Nat} (hk : k ≤ 500) : ∀ d : PyData, fits k d = true → d.showable = true ∧ d.hasDict = false
  | .none, _ => ⟨rfl, rfl⟩
  | .bool _, _ => ⟨rfl, rfl⟩
  | .int i, h => by
    refine ⟨decide_eq_true ?_, rfl⟩
    have h1 : i.natAbs < 10 ^ k := of_decide_eq_true h
    have h2 : (10 : Nat) ^ k ≤ 10 ^ 500 := Nat.pow_le_pow_right (by decide) hk
    have h3 : (10 : Nat) ^ 500 < 2 ^ 1900 := by decide +kernel
    by_cases z : i.natAbs = 0
    · rw [z]
      decide
    · have := (Nat.log2_lt z).mpr (Nat.lt_trans (Nat.lt_of_lt_of_le h1 h2) h3)
      omega
  | .str _, _ => ⟨rfl, rfl⟩
  | .list xs, h => fits_shows hk xs h
  | .tuple xs, h => fits_shows hk xs h
  | .dict _, h => by cases h
theorem fits_shows {k : Nat} (hk : k ≤ 500) : ∀ ds : List PyData, fits.go k ds = true → PyData.showableAll ds = true ∧ PyData.hasDictAll ds = false
  | [], _ => ⟨rfl, rfl⟩
  | d :: r, h => by
    have h' := Bool.and_eq_true_iff.mp h
    obtain ⟨a, b⟩ := fits_show hk d h'.1
    obtain ⟨a', b'⟩ := fits_shows hk r h'.2
    refine ⟨?_, ?_⟩
    · show (d.showable && PyData.showableAll r) = true
      rw [a, a']
      rfl
    · show (d.hasDict || PyData.hasDictAll r) = false
      rw [b, b']
      rfl
end
/-- what repr asks -/
abbrev Tells (d : PyData) : Prop := isDisplay d = true ∧ d.showable = true ∧ d.hasDict = false ∧ d.depth ≤ 8 ∧ d.shown.length ≤ sizeLine
theorem tells (k : Nat) {d : PyData} (h0 : 0 < k) (h1 : k ≤ 500) (hd : isDisplay d = true) (hf : fits k d = true) (hp : d.depth ≤ 8) (hr : room k d ≤ 16000000) :
    Tells d := by
  obtain ⟨a, b⟩ := fits_show h1 d hf
  refine ⟨hd, a, b, hp, Nat.le_trans (room_ok h0 d hf) (Nat.le_trans hr ?_)⟩
  rw [sizeLine_eq]
  decide
/-! ### ints and loops -/
theorem fits_ints {k : Nat} : ∀ {ns : List Int}, (∀ z ∈ ns, z.natAbs < 10 ^ k) → fits.go k (ns.map PyData.int) = true
  | [], _ => rfl
  | n :: r, h => by
    have q := fits_ints (k := k) (ns := r) fun z hz => h z (List.mem_cons_of_mem _ hz)
    show (decide (n.natAbs < 10 ^ k) && fits.go k (r.map PyData.int)) = true
    rw [q, decide_eq_true (h n List.mem_cons_self)]
    rfl
theorem room_ints (k : Nat) : ∀ ns : List Int, room.go k (ns.map PyData.int) = (k + 3) * ns.length
  | [] => rfl
  | n :: r => by
    have q := room_ints k r
    show (k + 1) + 2 + room.go k (r.map PyData.int) = (k + 3) * (r.length + 1)
    rw [q, Nat.mul_add]
    omega
theorem depth_ints : ∀ ns : List Int, PyData.depthAll (ns.map PyData.int) = 0
  | [] => rfl
  | n :: r => by
    show max 0 (PyData.depthAll (r.map PyData.int)) = 0
    rw [depth_ints r]
    rfl
theorem tells_ints (k : Nat) {ns : List Int} (h0 : 0 < k) (h1 : k ≤ 500) (hz : ∀ z ∈ ns, z.natAbs < 10 ^ k) (hl : (k + 3) * ns.length + 4 ≤ 16000000) :
    Tells (dInts ns) := by
  refine tells k h0 h1 rfl (fits_ints hz) ?_ ?_
  · show PyData.depthAll (ns.map PyData.int) + 1 ≤ 8
    rw [depth_ints]
    decide
  · show room.go k (ns.map PyData.int) + 4 ≤ _
    rw [room_ints]
    exact hl
abbrev dList (ns : List Int) : PyData := .list (ns.map PyData.int)
theorem tells_list (k : Nat) {ns : List Int} (h0 : 0 < k) (h1 : k ≤ 500) (hz : ∀ z ∈ ns, z.natAbs < 10 ^ k) (hl : (k + 3) * ns.length + 4 ≤ 16000000) :
    Tells (dList ns) := by
  refine tells k h0 h1 rfl (fits_ints hz) ?_ ?_
  · show PyData.depthAll (ns.map PyData.int) + 1 ≤ 8
    rw [depth_ints]
    decide
  · show room.go k (ns.map PyData.int) + 4 ≤ _
    rw [room_ints]
    exact hl
theorem fits_loops {k : Nat} : ∀ {ls : List (List Int)}, (∀ l ∈ ls, ∀ z ∈ l, z.natAbs < 10 ^ k) → fits.go k (ls.map dInts) = true
  | [], _ => rfl
  | l :: r, h => by
    have q := fits_loops (k := k) (ls := r) fun z hz => h z (List.mem_cons_of_mem _ hz)
    show (fits.go k (l.map PyData.int) && fits.go k (r.map dInts)) = true
    rw [q, fits_ints (h l List.mem_cons_self)]
    rfl
theorem room_loops (k b : Nat) : ∀ ls : List (List Int), (∀ l ∈ ls, l.length ≤ b) → room.go k (ls.map dInts) ≤ ((k + 3) * b + 6) * ls.length
  | [], _ => Nat.le_refl _
  | l :: r, h => by
    have q := room_loops k b r fun z hz => h z (List.mem_cons_of_mem _ hz)
    have e := Nat.mul_le_mul_left (k + 3) (h l List.mem_cons_self)
    show room.go k (l.map PyData.int) + 4 + 2 + room.go k (r.map dInts) ≤ ((k + 3) * b + 6) * (r.length + 1)
    rw [room_ints, Nat.mul_add]
    omega
theorem depth_loops : ∀ ls : List (List Int), PyData.depthAll (ls.map dInts) ≤ 1
  | [] => by decide
  | l :: r => by
    have q := depth_loops r
    show max (PyData.depthAll (l.map PyData.int) + 1) (PyData.depthAll (r.map dInts)) ≤ 1
    rw [depth_ints]
    omega
theorem tells_loops (k b : Nat) {ls : List (List Int)} (h0 : 0 < k) (h1 : k ≤ 500) (hz : ∀ l ∈ ls, ∀ z ∈ l, z.natAbs < 10 ^ k) (hb : ∀ l ∈ ls, l.length ≤ b) (hl : ((k + 3) * b + 6) * ls.length + 4 ≤ 16000000) :
    Tells (dLoops ls) := by
  refine tells k h0 h1 rfl (fits_loops hz) ?_ ?_
  · have q := depth_loops ls
    show PyData.depthAll (ls.map dInts) + 1 ≤ 8
    omega
  · have q := room_loops k b ls hb
    show room.go k (ls.map dInts) + 4 ≤ _
    omega
end L2

/-! Defs that ask repr of a container: they are called where no repr is under way. -/
namespace L2
open PySem PySem.Spec PyProof.Rows
/-- as FnOk, where no guard stands -/
structure FnG (P : Program) (w : World) (K : PySem.W.Frag) (mg : Str → Option Value) (base : Heap) (k : Nat) (f : Addr) (fd : FuncData)
    (ps : List Str) (sp : Sp) : Prop where
  len : ∀ vs H Q E, sp vs H Q E → vs.length = ps.length
  go : ∀ (A : Around) (outer : List Env) (s : Shared) (H : Hp) (args : Args) (us : List Value) (vs : List V) (Q : VK) (E : XK),
    Room k A → A.guards = some [] → Env0 P w K mg base A outer s H → BindsTo s fd args (ps.zip us) → Vals vs us → sp vs H Q E →
    codeAny (model P w) A (.call (.ref f) args) (CR CX0 outer P w H s Q E) s
section
variable {P : Program} {w : World} {K : PySem.W.Frag} {mg : Str → Option Value} {base : Heap}
/-- a def whose body asks for no guard -/
theorem _root_.L2.Fun.okG {x qual : Str} {st : Stmt} {f : Addr} {fd : FuncData} {N ps : List Str} {k : Nat} {sp : Sp} (F : Fun K x qual st f fd)
    (S : FnScope N ps (defScope st)) (len : ∀ vs H Q E, sp vs H Q E → vs.length = ps.length)
    (body : ∀ (cdv : Value) (A : Around) (outer : List Env) (s : Shared) (H : Hp) (vs : List V) (Q : VK) (E : XK),
      Room k (A.deeper (envOfC qual (defScope st) s.heap.objs.size f cdv)) → A.guards = some [] → sp vs H Q E →
      ∃ t, PSs (cxOf CX0 P w K mg base N qual (defScope st) f cdv A outer s H E).nox (defBody st) t ∧
        t { nx := fun _ H' => Q .non H', rt := Q } (start N vs) H) : FnG P w K mg base (k + 1) f fd ps sp := by
  obtain ⟨oc, od, kV, doc, pm, an, cdv, ct, osl, rfl, lk, hcd⟩ := F.ex
  constructor
  · exact len
  intro A outer s H args us vs Q E room hg env binds rel ask
  have room' := room.deeper (envOfC qual (defScope st) s.heap.objs.size f cdv)
  obtain ⟨t, walk, want⟩ := body cdv A outer s H vs Q E room' hg ask
  have kin : K.In s.heap := env.mod.kin.keeps fun b o e => (env.bs b o e).1
  have kinds : ∀ y ∈ ps.zip us, (defScope st).names.lookup y.1 = some .local ∨
      ((defScope st).names.lookup y.1 = some .cell ∧ ((cellsFrom (s.heap.objs.size + 1) (defScope st).names []).lookup y.1).isSome = true) := by
    rintro ⟨n, v⟩ hy
    have hn := S.par n (List.of_mem_zip hy).1
    rcases hn with q | q
    · exact Or.inl q
    · exact Or.inr ⟨q, PySem.W.cellsFrom_some _ _ _ (Or.inl q)⟩
  refine codeAny_call_function room.depth (kin _ _ lk) rfl S.co S.gen rfl (PySem.W.codeRec_of kin hcd) (binds _ _ _ _ ?_)
  refine wpAny_newFunctionEnv_cells S.kind kinds fun e he s1 begun => ?_
  subst he
  have lim : s.heap.NoLimit := env.mod.nolimit.keeps fun b o e => (env.bs b o e).1
  refine And.intro (lim.keeps begun.toInCall.keep) (codeAny_func ?_)
  have inv := inv_start (CX := CX0) (E := E) S room.hd env (len _ _ _ _ ask) rel begun
  have over : ∀ {σ' : St} {H' : Hp} {v : V} {u : Value} {s' : Shared},
      Inv (cxOf CX0 P w K mg base N qual (defScope st) f cdv A outer s H E) [] σ' H' s' → RelV v u → Q v H' → CE outer P w H s Q u s' :=
    fun J r q => ⟨_, _, J.os, J.bare, J.base, J.hok, r, q⟩
  refine wpAny_mono (walk.nox.run [] s1 (start N vs) H _ inv want) ?_ (fun _ _ z => z)
  intro fl s' ends
  cases fl with
  | next =>
    obtain ⟨_, _, J, q⟩ := ends
    exact over (v := V.non) (u := Value.none) J rfl q
  | ret u =>
    obtain ⟨_, _, _, J, r, q⟩ := ends
    exact over J r q
  | brk =>
    obtain ⟨_, _, _, q⟩ := ends
    cases q
  | cont =>
    obtain ⟨_, _, _, q⟩ := ends
    cases q
/-- a def that keeps a promise everywhere keeps it where no guard stands -/
theorem FnOk.toG {k : Nat} {f : Addr} {fd : FuncData} {ps : List Str} {sp : Sp} (F : FnOk P w K mg base CX0 k f fd ps sp) : FnG P w K mg base k f fd ps sp :=
  ⟨F.len, fun A outer s H args us vs Q E r _ => F.run A outer s H args us vs Q E r⟩
end
section
variable {X : Cx} {k : Nat} {f : Addr} {fd : FuncData} {ps : List Str} {sp : Sp} {dvs : List V} {ds : List Value} {E : XK} {x : Str}
/-- f(e, ..), f such a def -/
theorem pe_callG {p pos : Pos} {e : Expr} {es : List Expr} {t : TA} (F : FnG X.prog X.w X.K X.mg X.base k f fd ps sp) (hr : Room k X.A) (hG : X.A.guards = some [])
    (hg : Gl X x) (hm : X.mg x = some (.ref f)) (hk : PySem.W.keepIn X.K (.ref f) = true) (hb : Binds X.K fd ps ds) (hd : Vals dvs ds) (hx : Passes CX0 X E)
    (ha : PA X (e :: es) t) (hdb : (x == ("__debug__" : Str)) = false := by decide)
    (he : starEach (e :: es) X.env = (false, eval e X.env) :: starEach es X.env := by rfl) (hpl : (backTo pos (starEach es X.env)).any (·.1) = false := by rfl) :
    PE X (.Call (.Name x p) (e :: es) [] pos) (tCall sp dvs E t) := by
  constructor
  intro pins s σ H Q I h
  have run : ∀ us s1, AP X pins σ (fun vs H1 => sp (vs ++ dvs) H1 Q E) us s1 →
      X.K.In s1.heap ∧ wpAny (model X.prog X.w) X.A (call (.ref f) us) (EP X pins σ Q) X.xe s1 := by
    rintro us s1 ⟨vs, H1, I1, r, q⟩
    have r2 := r.append hd
    have hl : (us ++ ds).length = ps.length := by
      rw [← r2.length]
      exact F.len _ _ _ _ q
    refine ⟨I1.kIn, wpAny_call (codeAny_mono (F.go X.A X.stack s1 H1 ⟨us, []⟩ (us ++ ds) (vs ++ dvs) Q E hr hG I1.env0 (hb s1 us I1.kIn hl) r2 q) ?_)⟩
    intro res s2 z
    cases res with
    | error er => exact hx pins σ H1 s1 er s2 I1 z
    | ok fl =>
      cases fl with
      | ret u => exact I1.after z
      | next => cases z
      | brk => cases z
      | cont => cases z
  exact wpAny_Call_Name_kw (ld_glob I hg hm (PySem.W.callWith_K (h₀ := X.base) I.ok.mod.kin hk
    (thn (ha.run pos pins s σ H _ I h) fun us s1 q => run us s1 q) he hpl) hdb)
end
end L2

/-! A law's end where its def asks repr of a container. -/
namespace L2
open PySem PySem.Spec PyProof.Rows
section
variable {P : Program} {w : World} {K : PySem.W.Frag} {mg mb : Str → Option Value} {k : Nat} {fa a : Addr} {fd : FuncData} {x : Str} {sp : Sp}
  {z : Shared} {vs : List Value} {ns : List Int}
def endsTrue (z : Shared) (r : Result) (s' : Shared) : Prop :=
  r = .ok (.ret (.bool true)) ∧ OldK z.heap s'.heap ∧ s'.os = z.os ∧ AllBare s'.gens
/-- from an abstract heap that tracks the script at most -/
theorem my_core (kin : K.In z.heap) (hns : z.heap.Ns mainGlobals mg) (hb : z.heap.Ns builtinsNs mb) (hbb : ∀ x : Str, x ≠ "__name__" → mb x = bootBuiltins x)
    (hlim : z.heap.NoLimit) (hg : z.gens = #[]) (ha : z.heap.get? a = some { cls := .type "list", data := .seq vs.toArray }) (hr : Room k callerA)
    (F : ∀ base : Heap, K.In base → base.Ns mainGlobals mg → FnG P w K mg base k fa fd [x] sp) (bind : ∀ (s : Shared) (u : Value), BindsTo s fd ⟨[u], []⟩ [(x, u)])
    (H : Hp) (ask : sp [.ref a] H (fun v _ => v = .bl true) fun _ _ _ => False) (ok : HOk P w H z.heap) (only : Only H) (atA : ∀ b, H b ≠ none → b = a)
    (notK : H a ≠ none → K.lookup a = none) : codeAny (model P w) callerA (.call (.ref fa) ⟨[.ref a], []⟩) (endsTrue z) z := by
  -- the base: all that H does not track
  have stays : ∀ {b : Addr} {o : Obj}, z.heap.get? b = some o → (b ≠ a ∨ H a = none) → (hidT z.heap H).get? b = some o := by
    intro b o e h
    refine hidT_get e ?_
    cases q : H b with
    | none => rfl
    | some u =>
      have eb := atA b (by rw [q]; exact Option.some_ne_none u)
      rcases h with h | h
      · exact absurd eb h
      · rw [eb, h] at q
        cases q
  have names : ∀ {b : Addr} {m : Str → Option Value}, z.heap.Ns b m → (hidT z.heap H).Ns b m := by
    rintro b m ⟨o, es, ep, e, d, r⟩
    refine ⟨o, es, ep, stays e (.inl fun eb => ?_), d, r⟩
    rw [eb, ha] at e
    cases e
    cases d
  have kinB : K.In (hidT z.heap H) := by
    intro b o e
    refine stays (kin b o e) ?_
    by_cases eb : b = a
    · refine .inr ?_
      cases q : H a with
      | none => rfl
      | some u =>
        rw [eb, notK (by rw [q]; exact Option.some_ne_none u)] at e
        cases e
    · exact .inl eb
  obtain ⟨mc, l1, l2⟩ := hlim
  have M : Mod K mg (hidT z.heap H) := ⟨kinB, names hns, ⟨mb, names hb, hbb⟩, ⟨mc, names l1, l2⟩⟩
  have env : Env0 P w K mg (hidT z.heap H) callerA [] z H := by
    refine ⟨rfl, M, fun b o e => of_hidT e, Nat.le_of_eq (hidT_size _ _), trivial, ?_, ok, .of_eq hg⟩
    intro b hm
    cases hm
  refine codeAny_mono ((F _ kinB (names hns)).go callerA [] z H ⟨[.ref a], []⟩ [.ref a] [.ref a] _ _ hr rfl env (bind z (.ref a)) (.cons rfl .nil) ask) ?_
  intro r s' res
  cases r with
  | error e => cases res
  | ok fl =>
    cases fl with
    | ret u =>
      obtain ⟨v, H', os, bare, un, ok', rel, ev⟩ := res
      have ev' : v = .bl true := ev
      subst ev'
      have eu : u = Value.bool true := rel
      subst eu
      refine ⟨rfl, OldK.of_keep fun b o e => ?_, os, bare⟩
      rcases only b with q | ⟨ob, xs, q⟩
      · exact un.keep b o e q (fun m => by cases m) (fun m => by cases m)
      · obtain ⟨e1, _⟩ := ok b _ q
        obtain ⟨e2, _⟩ := ok' b _ (un.frzs b ob _ q)
        rw [e] at e1
        cases e1
        exact e2
    | next => cases res
    | brk => cases res
    | cont => cases res
theorem my_law_call (kin : K.In z.heap) (hns : z.heap.Ns mainGlobals mg) (hb : z.heap.Ns builtinsNs mb) (hbb : ∀ x : Str, x ≠ "__name__" → mb x = bootBuiltins x)
    (hlim : z.heap.NoLimit) (hg : z.gens = #[]) (ha : z.heap.get? a = some { cls := .type "list", data := .seq vs.toArray }) (hi : IntsAre vs ns) (hl : ns.length ≤ sizeLine)
    (hr : Room k callerA) (F : ∀ base : Heap, K.In base → base.Ns mainGlobals mg → FnG P w K mg base k fa fd [x] sp)
    (bind : ∀ (s : Shared) (u : Value), BindsTo s fd ⟨[u], []⟩ [(x, u)])
    (ask : ∀ H : Hp, Only H → SqL K H a (ns.map V.int) → sp [.ref a] H (fun v _ => v = .bl true) fun _ _ _ => False) :
    codeAny (model P w) callerA (.call (.ref fa) ⟨[.ref a], []⟩) (endsTrue z) z := by
  have rv := vals_ints hi
  have lv := hi.length
  cases hk : K.lookup a with
  | none =>
    let H0 : Hp := fun b => if b = a then some (.frz { cls := .type "list", data := .seq vs.toArray } (.lst (ns.map V.int))) else none
    have at0 : H0 a = some (.frz { cls := .type "list", data := .seq vs.toArray } (.lst (ns.map V.int))) := if_pos rfl
    have else0 : ∀ b, b ≠ a → H0 b = none := fun b h => if_neg h
    have only : Only H0 := fun b => by
      by_cases h : b = a
      · rw [h]
        exact .inr ⟨_, _, at0⟩
      · exact .inl (else0 b h)
    refine my_core kin hns hb hbb hlim hg ha hr F bind H0 (ask H0 only (.inl (.inr ⟨_, at0⟩))) ?_ only ?_ (fun _ => hk)
    · intro b u h
      by_cases hba : b = a
      · subst hba
        rw [at0] at h
        cases h
        exact ⟨ha, by rw [List.length_map]; exact hl, vs, _, rv, ha⟩
      · rw [else0 b hba] at h
        cases h
    · intro b h
      exact Classical.byContradiction fun n => h (else0 b n)
  | some o =>
    have e := kin a o hk
    rw [ha] at e
    cases e
    have only : Only fun _ => none := fun _ => .inl rfl
    refine my_core kin hns hb hbb hlim hg ha hr F bind (fun _ => none) (ask _ only ?_) ?_ only ?_ ?_
    · exact .inr ⟨_, vs.toArray, _, hk, rfl, rfl, rfl, by rw [List.size_toArray, lv]; exact hl, by simpa using rv⟩
    · intro b u h
      cases h
    · intro b h
      exact absurd rfl h
    · intro h
      exact absurd rfl h
end
theorem my_walk {l : PySem.W.OpenLaw} {k : Nat} {q : Program} {loose : List Str} {XP : (Str → Option Value) → Heap → Prop} {YP : World → Heap → Prop} {d : DefRec}
    {K : Params → PySem.W.Frag} {sp : PySem.W.Frag → Sp} (hn : l.most = some 63) (hdf : d.params.defaults = []) (hr : Room k callerA)
    (hY : ∀ (w : World) (h : Heap), YP w h → (K w.params).In h)
    (F : ∀ (w : World) (mg : Str → Option Value) (fa : Addr) (h : Heap), (K w.params).In h → h.Ns mainGlobals mg → mg d.name = some (.ref fa) →
      ∃ fd : FuncData, (∀ (s : Shared) (u : Value), BindsTo s fd ⟨[u], []⟩ [("script", u)]) ∧
        ∀ base : Heap, (K w.params).In base → base.Ns mainGlobals mg → FnG l.prog w (K w.params) mg base k fa fd ["script"] (sp (K w.params)))
    (ask : ∀ (K : PySem.W.Frag) (H : Hp) (a : Addr) (ns : List Int), ns.length ≤ 63 → SqL K H a (ns.map V.int) → sp K [.ref a] H (fun v _ => v = .bl true) fun _ _ _ => False) :
    PySem.W.WalkO q loose XP YP l.row.toRowW d [] (fun f vs => PySem.call f vs) := by
  refine Att.attach_call hn hdf fun w s0 z mg mb fa o pm cd doc a vs ns G Y ho hd hcd hmg hobj hints hlen hg => ?_
  have kin := hY w _ Y
  obtain ⟨fd, bind, hF⟩ := F w mg fa _ kin G.T.g hmg
  exact my_law_call kin G.T.g G.T.b G.T.builtins G.T.nolimit hg hobj hints (Nat.le_trans hlen (by decide)) hr hF bind
    fun H only hS => ask (K w.params) H a ns hlen hS
end L2

/-! Data compared, cut, and told. -/
namespace L2
open PySem PySem.Spec PyProof.Rows
theorem eqv_ints : ∀ xs ys : List Int, PyData.eqvAll (xs.map PyData.int) (ys.map PyData.int) = decide (xs = ys)
  | [], [] => rfl
  | [], _ :: _ => rfl
  | _ :: _, [] => rfl
  | x :: xs, y :: ys => by
    have q := eqv_ints xs ys
    show ((x == y) && PyData.eqvAll (xs.map PyData.int) (ys.map PyData.int)) = decide (x :: xs = y :: ys)
    rw [q]
    by_cases h : x = y
    · subst h
      by_cases h2 : xs = ys
      · subst h2
        simp
      · simp [h2]
    · simp [h]
theorem eqv_dInts (xs ys : List Int) : PyData.eqv (dInts xs) (dInts ys) = decide (xs = ys) := eqv_ints xs ys
theorem shaped_dInts (ns : List Int) : SeqAt.shaped (dInts ns) = true := by
  have e : SeqAt.shaped (dInts ns) = SeqAt.shaped (.list (ns.map PyData.int)) := rfl
  rw [e]
  exact PySem.W.shaped_ints ns
/-- a list of ints that stands -/
theorem Dp.ofList {K : PySem.W.Frag} {H : Hp} {a : Addr} {ns : List Int} (h : H a = some (.lst (ns.map V.int))) : Dp K H (.ref a) (dList ns) :=
  .lst (SqL.of h) (DpAll.ints ns)
def cutD (ds : List PyData) (lo hi : Option Int) : List PyData := (ds.drop (HT.sIx ds.length 0 lo)).take (HT.sIx ds.length ds.length hi - HT.sIx ds.length 0 lo)
theorem DpAll.drop {K : PySem.W.Frag} {H : Hp} : ∀ {vs : List V} {ds : List PyData} (n : Nat), DpAll K H vs ds → DpAll K H (vs.drop n) (ds.drop n)
  | _, _, 0, h => h
  | _, _, _ + 1, .nil => .nil
  | _, _, n + 1, .cons _ h => DpAll.drop n h
theorem DpAll.take {K : PySem.W.Frag} {H : Hp} : ∀ {vs : List V} {ds : List PyData} (n : Nat), DpAll K H vs ds → DpAll K H (vs.take n) (ds.take n)
  | _, _, 0, _ => .nil
  | _, _, _ + 1, .nil => .nil
  | _, _, n + 1, .cons h1 h => .cons h1 (DpAll.take n h)
/-- t[lo:hi] of a tuple of data -/
theorem rd_cut {K : PySem.W.Frag} {H : Hp} {v : V} {ds : List PyData} {lo hi : Option Int} {Q : VK} (h : Dp K H v (.tuple ds))
    (k : ∀ w H', Same H H' → Dp K H' w (.tuple (cutD ds lo hi)) → Q w H') : rSlA K v lo hi H Q := by
  obtain ⟨a, xs, rfl, hT, hX⟩ := h.tuple
  have hl := hX.len
  have hc : DpAll K H (cutV xs lo hi) (cutD ds lo hi) := by
    unfold cutV cutD
    rw [← hl]
    exact (hX.drop _).take _
  refine ⟨a, xs, rfl, hT, fun w => ?_, fun _ p hp => ?_⟩
  · refine k _ H (Same.refl H) (.tup hT ?_)
    have e : cutV xs lo hi = xs := by
      unfold cutV
      rw [w.1, w.2, List.drop_zero, Nat.sub_zero, List.take_length]
    rw [e] at hc
    exact hc
  · exact k _ _ (same_upd hp _) (.tup (SqT.of upd_same) (DpAll.same (same_upd hp _) _ _ hc))
theorem cutD_map {α : Type} (f : α → PyData) (xs : List α) (n : Nat) : cutD (xs.map f) none (some (n : Int)) = (xs.take n).map f := by
  unfold cutD
  rw [HT.sIx_none, HT.sIx_nat, List.drop_zero, Nat.sub_zero, List.length_map, ← List.map_take]
  congr 1
  by_cases h : n ≤ xs.length
  · rw [Nat.min_eq_left h]
  · rw [Nat.min_eq_right (by omega), List.take_length, List.take_of_length_le (by omega)]
end L2

/-! The promises of the defs that several laws share, and what is known of them. -/
namespace My
open PySem PySem.Spec PyProof.Rows L2
def sp__law_begun (K : PySem.W.Frag) : Sp := fun vs H Q _ => ∃ (a : Addr) (ns : List Int), vs = [.ref a] ∧ SqL K H a (ns.map V.int) ∧ ns.length ≤ 63 ∧
  ∀ m H', Same H H' → MS H' m 0 → Q (.ref m) H'
def sp__law_next (K : PySem.W.Frag) : Sp := fun vs H Q _ => ∃ (m : Addr) (many : Int) (n : Nat), vs = [.ref m, .int many] ∧ MS H m n ∧ 0 < many ∧ many ≤ 10 ^ 31 ∧ n < 2 ^ 40 ∧
  ∀ (r : Int) (n' : Nat) H', 0 ≤ r → r < many → n' ≤ n + 1 → MS H' m n' → Ef m H H' → Q (.int r) H'
def NB (r : Int) : Prop := -(10 ^ 30) ≤ r ∧ r ≤ 10 ^ 30
def sp__law_number (K : PySem.W.Frag) : Sp := fun vs H Q _ => ∃ (m : Addr) (n : Nat), vs = [.ref m] ∧ MS H m n ∧ n + 2 ≤ 2 ^ 40 ∧
  ∀ (r : Int) (n' : Nat) H', NB r → n' ≤ n + 2 → MS H' m n' → Ef m H H' → Q (.int r) H'
def sp__law_lengths (K : PySem.W.Frag) : Sp := fun vs H Q _ => ∃ (m : Addr) (many most : Int) (n : Nat), vs = [.ref m, .int many, .int most] ∧ MS H m n ∧ 0 ≤ many ∧ many ≤ 100 ∧ 1 ≤ most ∧ most ≤ 1000 ∧ n + 200 ≤ 2 ^ 40 ∧
  ∀ (v : V) (ls : List Int) (n' : Nat) H', Dp K H' v (dInts ls) → (ls.length : Int) ≤ many → (∀ z ∈ ls, 1 ≤ z ∧ z ≤ most) → n' ≤ n + 200 → MS H' m n' → Ef m H H' → Q v H'
def sp__law_loops_of (K : PySem.W.Frag) : Sp := fun vs H Q _ => ∃ (m : Addr) (v : V) (lens : List Int) (n : Nat), vs = [.ref m, v] ∧ Dp K H v (dInts lens) ∧ lens.length ≤ 100 ∧ (∀ z ∈ lens, 0 ≤ z ∧ z ≤ 1000) ∧ MS H m n ∧ n + 300000 ≤ 2 ^ 40 ∧
  ∀ (v : V) (ls : List (List Int)) (n' : Nat) H', Dp K H' v (dLoops ls) → ls.map (fun l => (l.length : Int)) = lens → (∀ l ∈ ls, ∀ z ∈ l, NB z) → n' ≤ n + 200000 → MS H' m n' → Ef m H H' → Q v H'
def sp_is_whole (K : PySem.W.Frag) : Sp := fun vs H Q _ => ∃ (x : V) (t : Value) (b1 b2 : Bool), vs = [x] ∧ TyX K H x t ∧ PySem.W.kitOne K t (.type "int") = some b1 ∧ PySem.W.kitOne K t (.type "bool") = some b2 ∧ Q (.bl (b1 && !b2)) H
def sp_is_tick (K : PySem.W.Frag) : Sp := fun vs H Q _ => ∃ (i : Int), vs = [.int i] ∧ Q (.bl (decide (0 ≤ i) && decide (i ≤ 10 ^ 30))) H
def sp_need_tick (K : PySem.W.Frag) : Sp := fun vs H Q _ => ∃ (i : Int), vs = [.int i] ∧ 0 ≤ i ∧ i ≤ 10 ^ 30 ∧ Q .non H
def sp_need_many (K : PySem.W.Frag) : Sp := fun vs H Q _ => ∃ (i : Int), vs = [.int i] ∧ 0 ≤ i ∧ i ≤ 1000 ∧ Q .non H
def OkL (ls : List (List Int)) : Prop := ls.length ≤ 6 ∧ ∀ l ∈ ls, 1 ≤ l.length ∧ l.length ≤ 64
def sp_need_loops (K : PySem.W.Frag) : Sp := fun vs H Q _ => ∃ (v : V) (ls : List (List Int)), vs = [v] ∧ Dp K H v (dLoops ls) ∧ OkL ls ∧ ∀ H', Same H H' → Q v H'
def hAt (l : List Int) (t : Int) : Int := l.getD (t.fmod (l.length : Int)).toNat 0
def hd (ls : List (List Int)) (t : Int) : Int := (ls.map fun l => hAt l t).sum
def hrow (ls : List (List Int)) (t : Int) (n : Nat) : List Int := (List.range n).map fun i => hd ls (t + (i : Nat))
def sp_sum_at (K : PySem.W.Frag) : Sp := fun vs H Q _ => ∃ (v : V) (ls : List (List Int)) (t : Int), vs = [v, .int t] ∧ Dp K H v (dLoops ls) ∧ OkL ls ∧ ∀ H', Same H H' → Q (.int (hd ls t)) H'
def sp__law_heard (K : PySem.W.Frag) : Sp := fun vs H Q _ => ∃ (v : V) (ls : List (List Int)) (t : Int), vs = [v, .int t] ∧ Dp K H v (dLoops ls) ∧ OkL ls ∧ ∀ H', Same H H' → Q (.int (hd ls t)) H'
def sp_heard (K : PySem.W.Frag) : Sp := fun vs H Q _ => ∃ (v : V) (ls : List (List Int)) (t : Int), vs = [v, .int t] ∧ Dp K H v (dLoops ls) ∧ OkL ls ∧ 0 ≤ t ∧ t ≤ 10 ^ 30 ∧ ∀ H', Same H H' → Q (.int (hd ls t)) H'
def sp_heard_row (K : PySem.W.Frag) : Sp := fun vs H Q _ => ∃ (v : V) (ls : List (List Int)) (t n : Int), vs = [v, .int t, .int n] ∧ Dp K H v (dLoops ls) ∧ OkL ls ∧ 0 ≤ t ∧ t ≤ 10 ^ 30 ∧ 0 ≤ n ∧ n ≤ 1000 ∧
  ∀ w H', Same H H' → Dp K H' w (dInts (hrow ls t n.toNat)) → Q w H'
def sp__law_heard_row (K : PySem.W.Frag) : Sp := fun vs H Q _ => ∃ (v : V) (ls : List (List Int)) (t n : Int), vs = [v, .int t, .int n] ∧ Dp K H v (dLoops ls) ∧ OkL ls ∧ 0 ≤ n ∧ n ≤ 1000 ∧
  ∀ w H', Same H H' → Dp K H' w (dInts (hrow ls t n.toNat)) → Q w H'
theorem loops_get {K : PySem.W.Frag} {H : Hp} {xs : List V} {ls : List (List Int)} {i : Nat} {x : V} (h : DpAll K H xs (ls.map dInts)) (hx : xs[i]? = some x) :
    ∃ l a, ls[i]? = some l ∧ x = .ref a ∧ SqT K H a (l.map V.int) := by
  obtain ⟨d, hd, hD⟩ := h.get hx
  rw [List.getElem?_map] at hd
  cases e : ls[i]? with
  | none =>
    rw [e] at hd
    cases hd
  | some l =>
    rw [e] at hd
    cases hd
    obtain ⟨a, rfl, hT⟩ := hD.ints
    exact ⟨l, a, rfl, rfl, hT⟩
theorem iteP {p A B : Prop} [Decidable p] (h : p) (a : A) : if decide p = true then A else B := by
  rw [decide_eq_true h]
  exact iteT a
theorem iteN {p A B : Prop} [Decidable p] (h : ¬ p) (b : B) : if decide p = true then A else B := by
  rw [decide_eq_false h]
  exact iteF b
theorem kit_ii {K : PySem.W.Frag} : PySem.W.kitOne K (.type "int") (.type "int") = some true := kit_ty (by decide +kernel)
theorem kit_ib {K : PySem.W.Frag} : PySem.W.kitOne K (.type "int") (.type "bool") = some false := kit_ty (by decide +kernel)
theorem kit_tt {K : PySem.W.Frag} : PySem.W.kitOne K (.type "tuple") (.type "tuple") = some true := kit_ty (by decide +kernel)
theorem _root_.L2.Dp.same_at {K : PySem.W.Frag} {H H' : Hp} {v : V} {d : PyData} (h : Dp K H v d) (e : Same H H') : Dp K H' v d := Dp.same e d v h
theorem hAt_ix {l : List Int} (t : Int) (h : 1 ≤ l.length) : atI (l.map V.int) (t.fmod ((l.map V.int).length : Int)) = some (.int (hAt l t)) := by
  rw [List.length_map]
  have hp : (0 : Int) < (l.length : Int) := by omega
  have h1 := Int.fmod_nonneg_of_pos t hp
  have h2 := Int.fmod_lt_of_pos t hp
  have hk : (t.fmod (l.length : Int)).toNat < l.length := by omega
  refine at_of (j := (t.fmod (l.length : Int)).toNat) (by omega) ?_
  rw [List.getElem?_map, List.getElem?_eq_getElem hk]
  unfold hAt
  rw [List.getD_eq_getElem?_getD, List.getElem?_eq_getElem hk]
  rfl
theorem hrow_len (ls : List (List Int)) (t : Int) (n : Nat) : (hrow ls t n).length = n := by
  unfold hrow
  rw [List.length_map, List.length_range]
theorem hrow_more (ls : List (List Int)) (t : Int) (n : Nat) : hrow ls t (n + 1) = hrow ls t n ++ [hd ls (t + (0 + (n : Int)))] := by
  unfold hrow
  rw [List.range_succ, List.map_append, Int.zero_add]
  rfl
def sp_law (K : PySem.W.Frag) : Sp := fun vs H Q _ => ∃ (a : Addr) (ns : List Int), vs = [.ref a] ∧ SqL K H a (ns.map V.int) ∧ ns.length ≤ 63 ∧ ∀ H', Q (.bl true) H'
def NBL (ls : List (List Int)) : Prop := ∀ l ∈ ls, ∀ z ∈ l, NB z
theorem hAt_nb {l : List Int} (t : Int) (h : ∀ z ∈ l, NB z) : NB (hAt l t) := by
  unfold hAt
  rw [List.getD_eq_getElem?_getD]
  cases e : l[(t.fmod (l.length : Int)).toNat]? with
  | none => exact ⟨by decide, by decide⟩
  | some z => exact h z (List.mem_of_getElem? e)
theorem hd_nb : ∀ {ls : List (List Int)} (t : Int), NBL ls → -(10 ^ 30) * (ls.length : Int) ≤ hd ls t ∧ hd ls t ≤ 10 ^ 30 * (ls.length : Int)
  | [], _, _ => ⟨(by decide : -(10 ^ 30) * ((0 : Nat) : Int) ≤ 0), (by decide : (0 : Int) ≤ 10 ^ 30 * ((0 : Nat) : Int))⟩
  | l :: r, t, h => by
    have q := hd_nb (ls := r) t fun x hx => h x (List.mem_cons_of_mem _ hx)
    have e : hd (l :: r) t = hAt l t + hd r t := by
      unfold hd
      rw [List.map_cons, List.sum_cons]
    obtain ⟨a, b⟩ := hAt_nb t (h l List.mem_cons_self)
    rw [e, List.length_cons]
    obtain ⟨c, d⟩ := q
    constructor <;> omega
theorem hd_small {ls : List (List Int)} (t : Int) (h : NBL ls) (hl : ls.length ≤ 6) : (hd ls t).natAbs < 10 ^ 40 := by
  obtain ⟨a, b⟩ := hd_nb t h
  have c : ((ls.length : Nat) : Int) ≤ 6 := by omega
  have e : (10 : Int) ^ 30 * (ls.length : Int) ≤ 10 ^ 31 := by omega
  have f : -(10 ^ 31) ≤ -(10 : Int) ^ 30 * (ls.length : Int) := by omega
  have g : (10 : Nat) ^ 40 = 10000000000000000000000000000000000000000 := by decide
  omega
theorem hrow_small {ls : List (List Int)} (t : Int) (n : Nat) (h : NBL ls) (hl : ls.length ≤ 6) : ∀ z ∈ hrow ls t n, z.natAbs < 10 ^ 40 := by
  intro z hz
  unfold hrow at hz
  obtain ⟨i, _, rfl⟩ := List.mem_map.mp hz
  exact hd_small _ h hl
theorem nb_small {z : Int} (h : NB z) : z.natAbs < 10 ^ 40 := by
  obtain ⟨a, b⟩ := h
  have g : (10 : Nat) ^ 40 = 10000000000000000000000000000000000000000 := by decide
  omega
theorem tells_row {ls : List (List Int)} (t : Int) (n : Nat) (h : NBL ls) (hl : ls.length ≤ 6) (hn : n ≤ 1000) : Tells (dInts (hrow ls t n)) :=
  tells_ints (ns := hrow ls t n) 40 (by decide) (by decide) (hrow_small t n h hl) (by rw [hrow_len]; omega)
theorem tells_two {x : Int} (h : x.natAbs < 10 ^ 40) : Tells (dList [x, x]) := tells_list (ns := [x, x]) 40 (by decide) (by decide)
  (by intro z hz; simp at hz; rw [hz]; exact h) (by show (40 + 3) * 2 + 4 ≤ 16000000; decide)
theorem tells_ok {ls : List (List Int)} (h : NBL ls) (ok : OkL ls) : Tells (dLoops ls) := tells_loops (ls := ls) 40 64 (by decide) (by decide)
  (fun l hl z hz => nb_small (h l hl z hz)) (fun l hl => (ok.2 l hl).2) (by have := ok.1; omega)
/-- one of two -/
theorem pick2 {x y : Int} {r : Int} (h0 : 0 ≤ r) (h1 : r < 2) : ∃ b : Int, atI ([x, y].map V.int) r = some (.int b) ∧ (b = x ∨ b = y) := by
  rcases (by omega : r = 0 ∨ r = 1) with e | e
  · rw [e]
    exact ⟨x, at_of (j := 0) rfl rfl, .inl rfl⟩
  · rw [e]
    exact ⟨y, at_of (j := 1) rfl rfl, .inr rfl⟩
theorem pick3 {x y w : Int} {r : Int} (h0 : 0 ≤ r) (h1 : r < 3) : ∃ b : Int, atI ([x, y, w].map V.int) r = some (.int b) ∧ (b = x ∨ b = y ∨ b = w) := by
  rcases (by omega : r = 0 ∨ r = 1 ∨ r = 2) with e | e | e
  · rw [e]
    exact ⟨x, at_of (j := 0) rfl rfl, .inl rfl⟩
  · rw [e]
    exact ⟨y, at_of (j := 1) rfl rfl, .inr (.inl rfl)⟩
  · rw [e]
    exact ⟨w, at_of (j := 2) rfl rfl, .inr (.inr rfl)⟩
theorem min4 (z : Int) (h : 0 ≤ z) : 0 ≤ (if (4 : Int) < z then 4 else z) ∧ (if (4 : Int) < z then 4 else z) ≤ 4 := by
  split <;> omega
abbrev farL : List (List Int) := [[(10 ^ 62) ^ 16, 1 - (10 ^ 62) ^ 16], [5]]
theorem far_row : hrow farL (10 ^ 30) 2 = [(10 ^ 62) ^ 16 + 5, 6 - (10 ^ 62) ^ 16] := by decide +kernel
theorem iteB {b : Bool} {A B : Prop} (h : b = true) (k : B) : if (!b) = true then A else B := by
  rw [h]
  exact iteF k
theorem far_eq : PyData.eqv (dInts (hrow farL (10 ^ 30) 2)) (dInts [(10 ^ 62) ^ 16 + 5, 6 - (10 ^ 62) ^ 16]) = true := by
  rw [eqv_dInts, far_row]
  exact decide_eq_true rfl
theorem far_ok : OkL farL := by
  refine ⟨by decide, fun l hl => ?_⟩
  simp at hl
  rcases hl with h | h <;> (rw [h]; decide)
theorem OkL.take {ls : List (List Int)} (h : OkL ls) (n : Nat) : OkL (ls.take n) :=
  ⟨by rw [List.length_take]; have := h.1; omega, fun l hl => h.2 l (List.mem_of_mem_take hl)⟩
theorem NBL.take {ls : List (List Int)} (h : NBL ls) (n : Nat) : NBL (ls.take n) := fun l hl => h l (List.mem_of_mem_take hl)
/-! ### loops turned -/
def turnL (l : List Int) (k : Nat) : List Int := l.drop k ++ l.take k
def lat (ls : List (List Int)) (t : Int) : List (List Int) := ls.map fun l => turnL l (t.fmod (l.length : Int)).toNat
def lensI (ls : List (List Int)) : List Int := ls.map fun l => (l.length : Int)
def sp_lengths_of (K : PySem.W.Frag) : Sp := fun vs H Q _ => ∃ (v : V) (ls : List (List Int)), vs = [v] ∧ Dp K H v (dLoops ls) ∧ OkL ls ∧ ∀ w H', Same H H' → Dp K H' w (dInts (lensI ls)) → Q w H'
def sp_begun_at (K : PySem.W.Frag) : Sp := fun vs H Q _ => ∃ (v : V) (l : List Int) (i : Int), vs = [v, .int i] ∧ Dp K H v (dInts l) ∧ 0 ≤ i ∧ i < (l.length : Int) ∧ l.length ≤ 64 ∧ ∀ w H', Same H H' → Dp K H' w (dInts (turnL l i.toNat)) → Q w H'
def sp__law_turned (K : PySem.W.Frag) : Sp := fun vs H Q _ => ∃ (v : V) (l : List Int) (t : Int), vs = [v, .int t] ∧ Dp K H v (dInts l) ∧ 1 ≤ l.length ∧ l.length ≤ 64 ∧ ∀ w H', Same H H' → Dp K H' w (dInts (turnL l (t.fmod (l.length : Int)).toNat)) → Q w H'
def sp_later (K : PySem.W.Frag) : Sp := fun vs H Q _ => ∃ (v : V) (ls : List (List Int)) (t : Int), vs = [v, .int t] ∧ Dp K H v (dLoops ls) ∧ OkL ls ∧ 0 ≤ t ∧ t ≤ 10 ^ 30 ∧ ∀ w H', Same H H' → Dp K H' w (dLoops (lat ls t)) → Q w H'
theorem fm {t : Int} {n : Nat} (h : 1 ≤ n) : t.fmod (n : Int) = t % (n : Int) := Int.fmod_eq_emod_of_nonneg t (by omega)
theorem fm_lt {t : Int} {n : Nat} (h : 1 ≤ n) : (t.fmod (n : Int)).toNat < n := by
  have a := Int.fmod_nonneg_of_pos t (show (0 : Int) < (n : Int) by omega)
  have b := Int.fmod_lt_of_pos t (show (0 : Int) < (n : Int) by omega)
  omega
theorem turn_len (l : List Int) (k : Nat) : (turnL l k).length = l.length := by
  unfold turnL
  rw [List.length_append, List.length_drop, List.length_take]
  omega
theorem turn_get {l : List Int} {k i : Nat} (hk : k < l.length) (hi : i < l.length) : (turnL l k)[i]? = l[(k + i) % l.length]? := by
  unfold turnL
  by_cases h : i < l.length - k
  · rw [List.getElem?_append_left (by rw [List.length_drop]; exact h), List.getElem?_drop, Nat.mod_eq_of_lt (by omega)]
  · rw [List.getElem?_append_right (by rw [List.length_drop]; omega), List.length_drop, List.getElem?_take_of_lt (by omega)]
    congr 1
    rw [Nat.mod_eq_sub_mod (by omega), Nat.mod_eq_of_lt (by omega)]
    omega
theorem turn_turn {l : List Int} {a b : Nat} (ha : a < l.length) (hb : b < l.length) : turnL (turnL l a) b = turnL l ((a + b) % l.length) := by
  refine List.ext_getElem? fun i => ?_
  by_cases hi : i < l.length
  · rw [turn_get (by rw [turn_len]; exact hb) (by rw [turn_len]; exact hi), turn_len, turn_get ha (Nat.mod_lt _ (by omega)), turn_get (Nat.mod_lt _ (by omega)) hi]
    congr 1
    rw [Nat.add_mod_mod, Nat.mod_add_mod, Nat.add_assoc]
  · rw [List.getElem?_eq_none (by rw [turn_len, turn_len]; omega), List.getElem?_eq_none (by rw [turn_len]; omega)]
theorem fm_add {a b : Int} {n : Nat} (h : 1 ≤ n) : ((a.fmod (n : Int)).toNat + (b.fmod (n : Int)).toNat) % n = ((a + b).fmod (n : Int)).toNat := by
  rw [fm h, fm h, fm h]
  have a0 := Int.emod_nonneg a (show (n : Int) ≠ 0 by omega)
  have b0 := Int.emod_nonneg b (show (n : Int) ≠ 0 by omega)
  have c0 := Int.emod_nonneg (a + b) (show (n : Int) ≠ 0 by omega)
  have e : ((((a % (n : Int)).toNat + (b % (n : Int)).toNat) % n : Nat) : Int) = (a + b) % (n : Int) := by
    rw [Int.natCast_emod, Int.natCast_add, Int.toNat_of_nonneg a0, Int.toNat_of_nonneg b0, ← Int.add_emod]
  omega
theorem hAt_turn {l : List Int} (a t : Int) (h : 1 ≤ l.length) : hAt (turnL l (a.fmod (l.length : Int)).toNat) t = hAt l (a + t) := by
  unfold hAt
  rw [turn_len, List.getD_eq_getElem?_getD, List.getD_eq_getElem?_getD, turn_get (fm_lt h) (fm_lt h), fm_add h]
theorem hd_lat {ls : List (List Int)} (a t : Int) (h : ∀ l ∈ ls, 1 ≤ l.length) : hd (lat ls a) t = hd ls (a + t) := by
  unfold hd lat
  rw [List.map_map]
  congr 1
  exact List.map_congr_left fun l hl => hAt_turn a t (h l hl)
theorem lat_lat {ls : List (List Int)} (a b : Int) (h : ∀ l ∈ ls, 1 ≤ l.length) : lat (lat ls a) b = lat ls (a + b) := by
  unfold lat
  rw [List.map_map]
  refine List.map_congr_left fun l hl => ?_
  show turnL (turnL l (a.fmod (l.length : Int)).toNat) (b.fmod ((turnL l (a.fmod (l.length : Int)).toNat).length : Int)).toNat = _
  rw [turn_len, turn_turn (fm_lt (h l hl)) (fm_lt (h l hl)), fm_add (h l hl)]
theorem lat_id {ls : List (List Int)} (a : Int) (h : ∀ l ∈ ls, 1 ≤ l.length ∧ a % (l.length : Int) = 0) : lat ls a = ls := by
  unfold lat
  have e : ls.map (fun l => turnL l (a.fmod (l.length : Int)).toNat) = ls.map fun l => l := by
    refine List.map_congr_left fun l hl => ?_
    rw [fm (h l hl).1, (h l hl).2]
    show l.drop 0 ++ l.take 0 = l
    rw [List.drop_zero, List.take_zero, List.append_nil]
  rw [e, List.map_id']
theorem lat_ok {ls : List (List Int)} (a : Int) (h : OkL ls) : OkL (lat ls a) := by
  refine ⟨by unfold lat; rw [List.length_map]; exact h.1, fun l hl => ?_⟩
  obtain ⟨l', hl', rfl⟩ := List.mem_map.mp hl
  rw [turn_len]
  exact h.2 l' hl'
theorem lat_nb {ls : List (List Int)} (a : Int) (h : NBL ls) : NBL (lat ls a) := fun l hl z hz => by
  obtain ⟨l', hl', rfl⟩ := List.mem_map.mp hl
  unfold turnL at hz
  rcases List.mem_append.mp hz with q | q
  · exact h l' hl' z (List.mem_of_mem_drop q)
  · exact h l' hl' z (List.mem_of_mem_take q)
theorem lens_lat (ls : List (List Int)) (a : Int) : lensI (lat ls a) = lensI ls := by
  unfold lensI lat
  rw [List.map_map]
  exact List.map_congr_left fun l _ => by rw [Function.comp, turn_len]
theorem hrow_lat {ls : List (List Int)} (a t : Int) (n : Nat) (h : ∀ l ∈ ls, 1 ≤ l.length) : hrow (lat ls a) t n = hrow ls (a + t) n := by
  unfold hrow
  refine List.map_congr_left fun i _ => ?_
  rw [hd_lat a _ h, Int.add_assoc]
/-- two tuples of data, one behind the other -/
theorem rd_cat {K : PySem.W.Frag} {H : Hp} {v u : V} {ds es : List PyData} {Q : VK} (h1 : Dp K H v (.tuple ds)) (h2 : Dp K H u (.tuple es)) (hz : ds.length + es.length ≤ sizeLine)
    (k : ∀ w H', Same H H' → Dp K H' w (.tuple (ds ++ es)) → Q w H') : rCatA K v u H Q := by
  obtain ⟨a, xs, rfl, hT, hX⟩ := h1.tuple
  obtain ⟨b, ys, rfl, hU, hY⟩ := h2.tuple
  have l1 := hX.len
  have l2 := hY.len
  refine ⟨a, b, xs, ys, rfl, rfl, hT, hU, by rw [l1, l2]; exact hz, fun e => ?_, fun _ e => ?_, fun _ _ p hp => ?_⟩
  · subst e
    cases hX
    exact k _ H (Same.refl H) (.tup hU hY)
  · subst e
    cases hY
    rw [List.append_nil] at k
    exact k _ H (Same.refl H) (.tup hT hX)
  · exact k _ _ (same_upd hp _) (.tup (SqT.of upd_same) (DpAll.same (same_upd hp _) _ _ (hX.app hY)))
theorem cutD_from {α : Type} (f : α → PyData) (xs : List α) {i : Int} (h : 0 ≤ i) (h2 : i ≤ (xs.length : Int)) : cutD (xs.map f) (some i) none = (xs.drop i.toNat).map f := by
  have e : i = ((i.toNat : Nat) : Int) := by omega
  rw [e]
  unfold L2.cutD
  rw [HT.sIx_none, HT.sIx_nat, List.length_map, Int.toNat_natCast, Nat.min_eq_left (by omega), ← List.map_drop]
  rw [List.take_of_length_le (by rw [List.length_map, List.length_drop]; omega)]
theorem cutD_to {α : Type} (f : α → PyData) (xs : List α) {i : Int} (h : 0 ≤ i) : cutD (xs.map f) none (some i) = (xs.take i.toNat).map f := by
  have e : i = ((i.toNat : Nat) : Int) := by omega
  rw [e, cutD_map, Int.toNat_natCast]
end My

/-! A tuple times any int; a tuple compared with the empty one. -/
namespace L2
open PySem PySem.Spec PyProof.Rows
section
theorem my_mul_same (l : Addr) (items : Array Value) (n : Nat) (dd : Option Addr) (sl : Array (Option Value)) (x : Int) (u : Tok)
    (c0 : (decide (x < -(2 ^ 63)) || decide (x ≥ 2 ^ 63)) = false) (c1 : (items.isEmpty || x == 1) = true) :
    Meets (Builtin.«tuple.__mul__» ⟨[.ref l, .int x u], []⟩) (fun _ R s =>
      s.heap.get? l = some { cls := .type "tuple", dict := dd, data := .seq items n, slots := sl } ∧ R (.ok (.ret (Value.ref l))) s) :=
  .of_wp fun prog w A R s h => by
    obtain ⟨hp, g, d, tk, os⟩ := s
    obtain ⟨hl, h⟩ := h
    have f1 := AutoSeq1.idx_int
    have c1' := c1
    wp_walk using wpAny_loadPart' hl
    refine wpAny_ite_false (decide_eq_false (by rw [c0]; exact Bool.false_ne_true)) ?_
    wp_walk using wpAny_loadPart' hl
    exact ⟨_, rfl, h⟩
theorem my_mul_none (l : Addr) (items : Array Value) (n : Nat) (dd : Option Addr) (sl : Array (Option Value)) (x : Int) (u : Tok)
    (c0 : (decide (x < -(2 ^ 63)) || decide (x ≥ 2 ^ 63)) = false) (c1 : (items.isEmpty || x == 1) = false) (c2 : (decide (x ≤ 0) || items.isEmpty) = true) :
    Meets (Builtin.«tuple.__mul__» ⟨[.ref l, .int x u], []⟩) (fun _ R s =>
      s.heap.get? l = some { cls := .type "tuple", dict := dd, data := .seq items n, slots := sl } ∧
      R (.ok (.ret (Value.ref s.heap.objs.size))) { s with heap := s.heap.push { cls := Value.type "tuple", data := Data.seq #[] } }) :=
  .of_wp fun prog w A R s h => by
    obtain ⟨hp, g, d, tk, os⟩ := s
    obtain ⟨hl, h⟩ := h
    have f1 := AutoSeq1.idx_int
    wp_walk using wpAny_loadPart' hl
    repeat (first
      | exact ⟨_, rfl, h⟩
      | (refine wpAny_ite_false (decide_eq_false (by rw [c0]; decide)) ?_; wp_walk using wpAny_loadPart' hl)
      | (refine wpAny_ite_false (decide_eq_false (by rw [c1]; decide)) ?_; wp_walk using wpAny_loadPart' hl)
      | (refine wpAny_ite_true (decide_eq_true c2) ?_; wp_walk using wpAny_loadPart' hl))
end
/-- t * k, any t, any k -/
def rRepA (K : PySem.W.Frag) : R2 := fun x y H Q => ∃ l k xs, x = .ref l ∧ y = .int k ∧ SqT K H l xs ∧ -1000 ≤ k ∧ k ≤ 1000 ∧ xs.length ≤ 1000 ∧
  ((xs = [] ∨ k = 1) → Q (.ref l) H) ∧ (¬ (xs = [] ∨ k = 1) → ∀ p, H p = none → Q (.ref p) (upd H p (.tup (List.replicate k.toNat xs).flatten)))
theorem op_repA {X : Cx} {K : PySem.W.Frag} (e : X.K = K := by rfl) : OpR X (binaryOp .Mult) (rRepA K) := by
  subst e
  intro pins s σ H x y v u Q I rx ry h
  obtain ⟨l, k, xs, rfl, rfl, hT, h1, h2, hz, q0, q1⟩ := h
  by_cases same : xs = [] ∨ k = 1
  · have q := q0 same
    cases rx
    obtain ⟨t, rfl⟩ := ry
    obtain ⟨its, r, ⟨⟨cls, dd, data, sl⟩, ho, hc, n, hd⟩, hs⟩ := I.tuple hT
    simp only at hc hd
    subst hc hd
    have c0 : (decide (k < -(2 ^ 63)) || decide (k ≥ 2 ^ 63)) = false := by
      rw [decide_eq_false (by omega), decide_eq_false (by omega)]
      rfl
    have c1 : (its.toArray.isEmpty || k == 1) = true := by
      rcases same with e | e
      · subst e
        cases r
        rfl
      · subst e
        simp
    refine wpAny_binaryOp_repeat_ref (T := "tuple") (U := "int") (by decide) ⟨_, ho, rfl⟩ (fun s' => typeIs_int s' k t) noFill_tuple_mul F.fills_int_mul F.slot_int_rmul repeat_tuple F.slot_int_index.lookup
      (call_meets F.slot_int_rmul (typeIs_int s k t) F.entry_int_rmul (F.args_int_rmul_2 _ _) (int_rmul_tuple k t l its.toArray n dd sl) ⟨ho, rfl, ⟨_, ho, rfl⟩, ?_⟩)
    exact call_meets F.slot_tuple_mul ⟨_, ho, rfl⟩ F.entry_tuple_mul (F.args_tuple_mul_2 _ _) (my_mul_same l its.toArray n dd sl k t c0 c1) ⟨ho, .ref l, H, I, rfl, q⟩
  · have q := q1 same
    have hne : xs ≠ [] := fun z => same (.inl z)
    by_cases h3 : 2 ≤ k
    · exact op_repT pins s σ H (.ref l) (.int k) v u Q I rx ry ⟨l, k, xs, rfl, rfl, hT, hne, h3, h2, hz, q⟩
    · cases rx
      obtain ⟨t, rfl⟩ := ry
      obtain ⟨its, r, ⟨⟨cls, dd, data, sl⟩, ho, hc, n, hd⟩, hs⟩ := I.tuple hT
      simp only at hc hd
      subst hc hd
      have k0 : k ≤ 0 := by
        have : k ≠ 1 := fun z => same (.inr z)
        omega
      have c0 : (decide (k < -(2 ^ 63)) || decide (k ≥ 2 ^ 63)) = false := by
        rw [decide_eq_false (by omega), decide_eq_false (by omega)]
        rfl
      have c1 : (its.toArray.isEmpty || k == 1) = false := by
        have e1 : its.toArray.isEmpty = false := by
          cases r with
          | nil => exact absurd rfl hne
          | cons _ _ => rfl
        rw [e1, Bool.false_or]
        exact beq_eq_false_iff_ne.mpr (by omega)
      have c2 : (decide (k ≤ 0) || its.toArray.isEmpty) = true := by
        rw [decide_eq_true k0]
        rfl
      have ek : k.toNat = 0 := by omega
      rw [ek] at q
      refine wpAny_binaryOp_repeat_ref (T := "tuple") (U := "int") (by decide) ⟨_, ho, rfl⟩ (fun s' => typeIs_int s' k t) noFill_tuple_mul F.fills_int_mul F.slot_int_rmul repeat_tuple F.slot_int_index.lookup
        (call_meets F.slot_int_rmul (typeIs_int s k t) F.entry_int_rmul (F.args_int_rmul_2 _ _) (int_rmul_tuple k t l its.toArray n dd sl) ⟨ho, rfl, ⟨_, ho, rfl⟩, ?_⟩)
      refine call_meets F.slot_tuple_mul ⟨_, ho, rfl⟩ F.entry_tuple_mul (F.args_tuple_mul_2 _ _) (my_mul_none l its.toArray n dd sl k t c0 c1 c2) ⟨ho, ?_⟩
      have J : Inv X pins σ (upd H s.heap.objs.size (.tup [])) { s with heap := s.heap.push { cls := .type "tuple", data := .seq #[] } } :=
        I.laid (t' := s.toks) (fun b ob z => Heap.get?_push_of_some _ z) (Nat.le_refl _) ⟨Nat.zero_le _, [], .nil, IsTup.new _ _⟩
      exact ⟨.ref s.heap.objs.size, _, J, rfl, q _ (I.hok.fresh (Nat.le_refl _))⟩
end L2

/-! Own errors with one field; things of many kinds. -/
namespace L2
open PySem PySem.Spec PyProof.Rows
/-! ### t == () -/
def rEqT0 (K : PySem.W.Frag) : R2 := fun x y H Q => ∃ a b xs, x = .ref a ∧ y = .ref b ∧ SqT K H a xs ∧ SqT K H b [] ∧ Q (.bl xs.isEmpty) H
theorem op_eqT0 {X : Cx} {K : PySem.W.Frag} (hu : X.A.units + 64 < cLine) (ek : X.K = K := by rfl) : OpR X (compareOp .Eq) (rEqT0 K) := by
  subst ek
  intro pins s σ H x y v u Q I rx ry h
  obtain ⟨a, b, xs, rfl, rfl, ha, hb, q⟩ := h
  cases rx
  cases ry
  obtain ⟨us, r1, p1, z1⟩ := I.tuple ha
  obtain ⟨ws, r2, p2, z2⟩ := I.tuple hb
  have t1 : s.heap.IsTuple a us.toArray := p1
  have t2 : s.heap.IsTuple b ws.toArray := p2
  have l1 := r1.length
  cases r2
  have go := SeqAt.RcAt.tuples (A := X.A) (e := fun _ => true) t1 t2 (by omega) (fun j _ h2 => absurd h2 (by simp))
  refine go X.prog X.w _ _ ⟨.bl _, H, I, ?_, q⟩
  show Value.bool _ = Value.bool _
  cases xs with
  | nil =>
    cases r1
    rfl
  | cons x r =>
    cases r1
    rfl
/-! ### (a, b) = t, the written part named -/
theorem k_pgt {X : Cx} {K : PySem.W.Frag} {es : List Expr} {k : Nat} {t : TGs} {n : Nat} {pos : Pos} (hc : X.calm = true) (h : PGs X es t)
    (hn : (assignEach es X.env).length = n := by rfl) (hst : (assignEach es X.env).findIdx? (·.1) = none := by rfl)
    (e : X.K = K := by rfl) : PG X (.Tuple es k pos) (gTup K n t) := by
  subst e
  exact pg_tup hc h hn hst
/-! ### repr of data, of None and ints too -/
def TellsA (d : PyData) : Prop := Tells d ∨ d = .none ∨ ∃ i : Int, d = .int i ∧ i.natAbs.log2 < 1920
def rReprA (K : PySem.W.Frag) : List V → Hp → VK → Prop := fun xs H Q => ∃ x d, xs = [x] ∧ Dp K H x d ∧ TellsA d ∧ Q (.str d.shown) H
theorem k_reprA {X : Cx} {K : PySem.W.Frag} (hu : X.A.units + 64 < cLine) (hg : X.A.guards = some []) (e : X.K = K := by rfl) : CallR X (.builtin "repr") (rReprA K) := by
  intro pins s σ H xs us Q I r h
  obtain ⟨x, d, rfl, hd, ht, q⟩ := h
  rcases ht with ht | rfl | ⟨i, rfl, hi⟩
  · exact k_repr hu hg e pins s σ H [x] us Q I r ⟨x, d, rfl, hd, ht, q⟩
  · obtain ⟨u, rfl, ru⟩ := vals1 r
    cases hd
    cases ru
    exact PySem.P.repr_of_none ⟨.str _, H, I.tok _, ⟨_, rfl⟩, q⟩
  · obtain ⟨u, rfl, ru⟩ := vals1 r
    cases hd
    obtain ⟨t, rfl⟩ := ru
    exact PySem.P.repr_of_int hi ⟨.str _, H, I.tok _, ⟨_, rfl⟩, q⟩
end L2
namespace My
open PySem PySem.Spec PyProof.Rows L2
/-! ### an own error whose __init__ keeps its one argument -/
def sp_exc (C : Addr) (fld : Str) : Sp := fun vs H Q _ => ∃ (a : Addr) (w : V), vs = [.ref a, w] ∧ H a = some (exo a C none) ∧
  ∀ dx, H dx = none → dx ≠ a → Q .non (upd (upd H dx (exd dx [(fld, w)])) a (exo a C (some dx)))
structure ExcT (K : PySem.W.Frag) (mg : Str → Option Value) (name qual fld : Str) (st : Stmt) where
  C : Addr
  f : Addr
  d : FuncData
  m : mg name = some (.ref C)
  ox : OexC K C
  iC : PySem.W.findIn K (.ref C) "__init__" = some (some (.ref f))
  tI : PySem.W.typeIn K (.ref f) = some (.type "function")
  F : Fun K "__init__" qual st f d
  b : Binds K d ["self", fld] []
  nf : PySem.W.findIn K (.ref C) fld = some none
  xf : XfC K C
  te : PySem.W.exmOne K (.ref C) (.ref C) = some true
theorem exm_me {K : PySem.W.Frag} {C : Addr} (h1 : PySem.W.subIn K (.ref C) (.type "BaseException") = some true) (h2 : PySem.W.isClsIn K C = true)
    (h3 : PySem.W.typeIn K (.ref C) = some (.type "type")) (h4 : PySem.W.subIn K (.ref C) (.ref C) = some true) : PySem.W.exmOne K (.ref C) (.ref C) = some true := by
  have h2' : (PySem.W.clsIn K C).isSome = true := h2
  simp [PySem.W.exmOne, PySem.W.kitCls, h1, h2', h3, h4]
/-- what the top has written of such a class -/
def exc_mk {K : PySem.W.Frag} {h : Heap} {mg : Str → Option Value} {name qual fld : Str} {st : Stmt} (X : K.In h) (G : h.Ns mainGlobals mg) {C f : Addr} {d : FuncData} {nm q : Str} {N : Addr} {bs : List Value} {sn : List Str} {sub : List Value}
    {ab : Bool} {col : Option Bool} {dd : Option Addr} {m0 m1 m2 m3 m5 : Option Value} (F : Fun K "__init__" qual st f d) (b : Binds K d ["self", fld] [])
    (aC : PySem.W.nsIn K mainGlobals name = some (some (.ref C)))
    (xL : K.lookup C = some (excClassObj nm q C N bs [.type "ValueError", .type "Exception", .type "BaseException", .type "object"] true sn sub ab col dd m0 m1 m2 m3 m5 "ValueError.__new__"))
    (sa : PySem.W.findIn K (.ref C) "__setattr__" = some (some (.builtin "object.__setattr__")))
    (ga : PySem.W.findIn K (.ref C) "__getattribute__" = some (some (.builtin "BaseException.__getattribute__")))
    (gg : PySem.W.findIn K (.ref C) "__getattr__" = some none) (nb : PySem.W.findIn K (.ref C) fld = some none)
    (a1 : PySem.W.findIn K (.ref C) "__init__" = some (some (.ref f))) (t1 : PySem.W.typeIn K (.ref f) = some (.type "function"))
    (kC : PySem.W.keepIn K (.ref C) = true) (eC : PySem.W.subIn K (.ref C) (.type "BaseException") = some true) (tC : PySem.W.typeIn K (.ref C) = some (.type "type"))
    (hC : PySem.W.hasDictIn K C = true) (iC : PySem.W.isClsIn K C = true) (sC : PySem.W.subIn K (.ref C) (.ref C) = some true) : ExcT K mg name qual fld st where
  C := C
  f := f
  d := d
  m := PySem.W.mg_of X G aC
  ox := ⟨⟨nm, q, N, bs, _, sn, sub, ab, col, dd, m0, m1, m2, m3, m5, xL, by decide +kernel⟩, sa, eC, tC, kC⟩
  iC := a1
  tI := t1
  F := F
  b := b
  nf := nb
  xf := ⟨ga, gg, eC, hC⟩
  te := exm_me eC iC tC sC
/-- such an error made: what its maker wants -/
theorem exc_made {C : Addr} {fld : Str} {w : V} {H : Hp} {Q : XK} (k : ∀ d H', Same H H' → H' d = some (.xd [(fld, w)]) → Q (.ref C) (some d) H') :
    ∀ a, H a = none → sp_exc C fld (.ref a :: ([w] ++ [])) (upd H a (exo a C none)) (fun v H2 => v = .non ∧ ∃ (d : Addr) (fs : List (Str × V)),
      H2 a = some (exo a C (some d)) ∧ H2 d = some (exd d fs) ∧ H d = none ∧ Q (.ref C) (some d) (upd (del H2 a) d (.xd fs))) (fun _ _ _ => False) := by
  intro a ha
  refine ⟨a, w, rfl, upd_same, fun dx hdx hne => ⟨rfl, dx, [(fld, w)], upd_same, by rw [upd_ne hne, upd_same], ?_, ?_⟩⟩
  · rw [upd_ne hne] at hdx
    exact hdx
  · rw [upd_ne hne] at hdx
    refine k dx _ (fun b o q => ?_) upd_same
    have b1 := ne_of_none q ha
    have b2 := ne_of_none q hdx
    rw [upd_ne b2, del_ne b1, upd_ne b1, upd_ne b2, upd_ne b1]
    exact q
/-! ### things of many kinds -/
inductive Dt where
  | int (i : Int)
  | oth (n : String)
  | tup (ds : List Dt)
def tyOf : Dt → String
  | .int _ => "int"
  | .oth n => n
  | .tup _ => "tuple"
mutual
/-- v is a thing d; lists and dicts in it lie at allowed places -/
inductive Rp (K : PySem.W.Frag) (H : Hp) (ok : Addr → Prop) : V → Dt → Prop
  | int (i : Int) (h : i.natAbs < 10 ^ 40) : Rp K H ok (.int i) (.int i)
  | bl (b : Bool) : Rp K H ok (.bl b) (.oth "bool")
  | non : Rp K H ok .non (.oth "NoneType")
  | str (x : Str) : Rp K H ok (.str x) (.oth "str")
  | lst {a : Addr} {xs : List V} (h : H a = some (.lst xs)) (ho : ok a) : Rp K H ok (.ref a) (.oth "list")
  | dct {a : Addr} {kvs : List (Key × V)} (h : H a = some (.dK kvs)) (ho : ok a) : Rp K H ok (.ref a) (.oth "dict")
  | tup {a : Addr} {xs : List V} {ds : List Dt} (h : SqT K H a xs) (hx : RpAll K H ok xs ds) : Rp K H ok (.ref a) (.tup ds)
inductive RpAll (K : PySem.W.Frag) (H : Hp) (ok : Addr → Prop) : List V → List Dt → Prop
  | nil : RpAll K H ok [] []
  | cons {v : V} {vs : List V} {d : Dt} {ds : List Dt} (h : Rp K H ok v d) (r : RpAll K H ok vs ds) : RpAll K H ok (v :: vs) (d :: ds)
end
variable {K : PySem.W.Frag} {H H' : Hp} {ok ok' : Addr → Prop}
mutual
theorem Rp.keep (tk : TK K H H') (kp : ∀ a o, ok a → H a = some o → H' a = some o) (oo : ∀ a o, H a = some o → ok a → ok' a) : ∀ (d : Dt) (v : V), Rp K H ok v d → Rp K H' ok' v d
  | .int i, _, h => by
    cases h with
    | int _ h => exact .int i h
  | .oth _, _, h => by
    cases h with
    | bl b => exact .bl b
    | non => exact .non
    | str x => exact .str x
    | lst h ho => exact .lst (kp _ _ ho h) (oo _ _ h ho)
    | dct h ho => exact .dct (kp _ _ ho h) (oo _ _ h ho)
  | .tup ds, _, h => by
    cases h with
    | tup h hx => exact .tup (tk _ _ h) (RpAll.keep tk kp oo ds _ hx)
theorem RpAll.keep (tk : TK K H H') (kp : ∀ a o, ok a → H a = some o → H' a = some o) (oo : ∀ a o, H a = some o → ok a → ok' a) : ∀ (ds : List Dt) (vs : List V), RpAll K H ok vs ds → RpAll K H' ok' vs ds
  | [], _, h => by
    cases h
    exact .nil
  | d :: r, _, h => by
    cases h with
    | cons h1 h2 => exact .cons (Rp.keep tk kp oo d _ h1) (RpAll.keep tk kp oo r _ h2)
end
theorem Rp.same {v : V} {d : Dt} (h : Rp K H ok v d) (e : Same H H') : Rp K H' ok v d := Rp.keep (Same.tk e) (fun a o _ q => e a o q) (fun _ _ _ q => q) d v h
theorem RpAll.same {vs : List V} {ds : List Dt} (h : RpAll K H ok vs ds) (e : Same H H') : RpAll K H' ok vs ds := RpAll.keep (Same.tk e) (fun a o _ q => e a o q) (fun _ _ _ q => q) ds vs h
theorem Rp.any {v : V} {d : Dt} (h : Rp K H ok v d) : Rp K H (fun _ => True) v d := Rp.keep TK.refl (fun _ _ _ q => q) (fun _ _ _ _ => trivial) d v h
theorem RpAll.len : ∀ {vs : List V} {ds : List Dt}, RpAll K H ok vs ds → vs.length = ds.length
  | _, _, .nil => rfl
  | _, _, .cons _ h => by simp [RpAll.len h]
theorem RpAll.get : ∀ {vs : List V} {ds : List Dt} {i : Nat} {v : V}, RpAll K H ok vs ds → vs[i]? = some v → ∃ d, ds[i]? = some d ∧ Rp K H ok v d
  | _, _, _, _, .nil, h => by cases h
  | _, _, 0, _, .cons h1 _, h => by
    cases h
    exact ⟨_, rfl, h1⟩
  | _, _, i + 1, _, .cons _ h2, h => RpAll.get (i := i) h2 h
theorem RpAll.app : ∀ {vs us : List V} {ds es : List Dt}, RpAll K H ok vs ds → RpAll K H ok us es → RpAll K H ok (vs ++ us) (ds ++ es)
  | _, _, _, _, .nil, h => h
  | _, _, _, _, .cons h1 h2, h => .cons h1 (RpAll.app h2 h)
theorem RpAll.take : ∀ {vs : List V} {ds : List Dt} (n : Nat), RpAll K H ok vs ds → RpAll K H ok (vs.take n) (ds.take n)
  | _, _, 0, _ => .nil
  | _, _, _ + 1, .nil => .nil
  | _, _, n + 1, .cons h1 h => .cons h1 (RpAll.take n h)
theorem RpAll.drop : ∀ {vs : List V} {ds : List Dt} (n : Nat), RpAll K H ok vs ds → RpAll K H ok (vs.drop n) (ds.drop n)
  | _, _, 0, h => h
  | _, _, _ + 1, .nil => .nil
  | _, _, n + 1, .cons _ h => RpAll.drop n h
theorem RpAll.rep {vs : List V} {ds : List Dt} (h : RpAll K H ok vs ds) : ∀ k : Nat, RpAll K H ok (List.replicate k vs).flatten (List.replicate k ds).flatten
  | 0 => .nil
  | k + 1 => by
    rw [List.replicate_succ, List.replicate_succ, List.flatten_cons, List.flatten_cons]
    exact h.app (RpAll.rep h k)
theorem Rp.ty {v : V} {d : Dt} (h : Rp K H ok v d) : TyX K H v (.type (tyOf d)) := by
  cases h with
  | int i _ => exact .base (.int i)
  | bl b => exact .base (.bl b)
  | non => exact .base .non
  | str x => exact .base (.str x)
  | lst h _ => exact .base (.lst h)
  | dct h _ => exact .base (.dK h)
  | tup h _ => exact h.ty
def isTup : Dt → Bool
  | .tup _ => true
  | _ => false
def isNum : Dt → Bool
  | .int _ => true
  | _ => false
theorem Rp.kitTup {v : V} {d : Dt} (h : Rp K H ok v d) : PySem.W.kitOne K (.type (tyOf d)) (.type "tuple") = some (isTup d) := by
  cases h
  · exact (kit_ty (a := "int") (b := "tuple") (r := false) (by decide +kernel))
  · exact (kit_ty (a := "bool") (b := "tuple") (r := false) (by decide +kernel))
  · exact (kit_ty (a := "NoneType") (b := "tuple") (r := false) (by decide +kernel))
  · exact (kit_ty (a := "str") (b := "tuple") (r := false) (by decide +kernel))
  · exact (kit_ty (a := "list") (b := "tuple") (r := false) (by decide +kernel))
  · exact (kit_ty (a := "dict") (b := "tuple") (r := false) (by decide +kernel))
  · exact (kit_ty (a := "tuple") (b := "tuple") (r := true) (by decide +kernel))
theorem Rp.kitInt {v : V} {d : Dt} (h : Rp K H ok v d) : ∃ b1 b2, PySem.W.kitOne K (.type (tyOf d)) (.type "int") = some b1 ∧ PySem.W.kitOne K (.type (tyOf d)) (.type "bool") = some b2 ∧ (b1 && !b2) = isNum d := by
  cases h
  · exact ⟨true, false, (kit_ty (a := "int") (b := "int") (by decide +kernel)), (kit_ty (a := "int") (b := "bool") (by decide +kernel)), rfl⟩
  · exact ⟨true, true, (kit_ty (a := "bool") (b := "int") (by decide +kernel)), (kit_ty (a := "bool") (b := "bool") (by decide +kernel)), rfl⟩
  · exact ⟨false, false, (kit_ty (a := "NoneType") (b := "int") (by decide +kernel)), (kit_ty (a := "NoneType") (b := "bool") (by decide +kernel)), rfl⟩
  · exact ⟨false, false, (kit_ty (a := "str") (b := "int") (by decide +kernel)), (kit_ty (a := "str") (b := "bool") (by decide +kernel)), rfl⟩
  · exact ⟨false, false, (kit_ty (a := "list") (b := "int") (by decide +kernel)), (kit_ty (a := "list") (b := "bool") (by decide +kernel)), rfl⟩
  · exact ⟨false, false, (kit_ty (a := "dict") (b := "int") (by decide +kernel)), (kit_ty (a := "dict") (b := "bool") (by decide +kernel)), rfl⟩
  · exact ⟨false, false, (kit_ty (a := "tuple") (b := "int") (by decide +kernel)), (kit_ty (a := "tuple") (b := "bool") (by decide +kernel)), rfl⟩
theorem Rp.tuple {v : V} {ds : List Dt} (h : Rp K H ok v (.tup ds)) : ∃ a xs, v = .ref a ∧ SqT K H a xs ∧ RpAll K H ok xs ds := by
  cases h with
  | tup h hx => exact ⟨_, _, rfl, h, hx⟩
/-! ### what is wrong of things -/
def badLoop : Dt → Bool
  | .tup ds => !(decide (1 ≤ ds.length) && decide (ds.length ≤ 64))
  | _ => true
def badNum (d : Dt) : Bool := !isNum d
def firstBad : Dt → Option Nat
  | .tup xs => xs.findIdx? badNum
  | _ => none
def faultOf : Dt → Option (List Nat)
  | .tup ds => if 6 < ds.length then some [] else match ds.findIdx? badLoop with
    | some k => some [k]
    | none => match ds.findIdx? (fun d => (firstBad d).isSome) with
      | some k => some [k, ((ds[k]?).bind firstBad).getD 0]
      | none => none
  | _ => some []
theorem fi_some {p : Dt → Bool} : ∀ {xs : List Dt} {i : Nat} {x : Dt}, xs[i]? = some x → p x = true → (∀ (j : Nat) (y : Dt), j < i → xs[j]? = some y → p y = false) → xs.findIdx? p = some i
  | [], i, x, h, _, _ => by simp at h
  | a :: r, 0, x, h, hp, _ => by
    simp at h
    subst h
    simp [List.findIdx?_cons, hp]
  | a :: r, i + 1, x, h, hp, hb => by
    have h0 := hb 0 a (Nat.succ_pos i) rfl
    have ih := fi_some (p := p) (xs := r) (i := i) (x := x) h hp fun j y hj hy => hb (j + 1) y (Nat.succ_lt_succ hj) hy
    simp [List.findIdx?_cons, h0, ih]
theorem fi_none {p : Dt → Bool} : ∀ {xs : List Dt}, (∀ (j : Nat) (y : Dt), xs[j]? = some y → p y = false) → xs.findIdx? p = none
  | [], _ => rfl
  | a :: r, hb => by
    have h0 := hb 0 a rfl
    have ih := fi_none (p := p) (xs := r) fun j y hy => hb (j + 1) y hy
    simp [List.findIdx?_cons, h0, ih]
abbrev placeD (p : List Nat) : PyData := dInts (p.map fun n : Nat => (n : Int))
/-! ### things cut and put together -/
def cutT (ds : List Dt) (lo hi : Option Int) : List Dt := (ds.drop (HT.sIx ds.length 0 lo)).take (HT.sIx ds.length ds.length hi - HT.sIx ds.length 0 lo)
theorem rd_cutR {v : V} {ds : List Dt} {lo hi : Option Int} {Q : VK} (h : Rp K H ok v (.tup ds)) (k : ∀ w H', Same H H' → Rp K H' ok w (.tup (cutT ds lo hi)) → Q w H') : rSlA K v lo hi H Q := by
  obtain ⟨a, xs, rfl, hT, hX⟩ := h.tuple
  have hl := hX.len
  have hc : RpAll K H ok (cutV xs lo hi) (cutT ds lo hi) := by
    unfold cutV cutT
    rw [← hl]
    exact (hX.drop _).take _
  refine ⟨a, xs, rfl, hT, fun w => ?_, fun _ p hp => ?_⟩
  · refine k _ H (Same.refl H) (.tup hT ?_)
    have e : cutV xs lo hi = xs := by
      unfold cutV
      rw [w.1, w.2, List.drop_zero, Nat.sub_zero, List.take_length]
    rw [e] at hc
    exact hc
  · exact k _ _ (same_upd hp _) (.tup (SqT.of upd_same) (hc.same (same_upd hp _)))
theorem rd_catR {v u : V} {ds es : List Dt} {Q : VK} (h1 : Rp K H ok v (.tup ds)) (h2 : Rp K H ok u (.tup es)) (hz : ds.length + es.length ≤ sizeLine)
    (k : ∀ w H', Same H H' → Rp K H' ok w (.tup (ds ++ es)) → Q w H') : rCatA K v u H Q := by
  obtain ⟨a, xs, rfl, hT, hX⟩ := h1.tuple
  obtain ⟨b, ys, rfl, hU, hY⟩ := h2.tuple
  have l1 := hX.len
  have l2 := hY.len
  refine ⟨a, b, xs, ys, rfl, rfl, hT, hU, by rw [l1, l2]; exact hz, fun e => ?_, fun _ e => ?_, fun _ _ p hp => ?_⟩
  · subst e
    cases hX
    exact k _ H (Same.refl H) (.tup hU hY)
  · subst e
    cases hY
    rw [List.append_nil] at k
    exact k _ H (Same.refl H) (.tup hT hX)
  · exact k _ _ (same_upd hp _) (.tup (SqT.of upd_same) ((hX.app hY).same (same_upd hp _)))
theorem rd_repR {v : V} {ds : List Dt} {n : Int} {Q : VK} (h : Rp K H ok v (.tup ds)) (hz : ds.length ≤ 1000) (h0 : -1000 ≤ n) (h1 : n ≤ 1000)
    (k : ∀ w H', Same H H' → Rp K H' ok w (.tup (List.replicate n.toNat ds).flatten) → Q w H') : rRepA K v (.int n) H Q := by
  obtain ⟨a, xs, rfl, hT, hX⟩ := h.tuple
  have hl := hX.len
  refine ⟨a, n, xs, rfl, rfl, hT, h0, h1, by omega, fun w => ?_, fun _ p hp => ?_⟩
  · refine k _ H (Same.refl H) (.tup hT ?_)
    rcases w with w | w
    · subst w
      cases hX
      have e : (List.replicate n.toNat ([] : List Dt)).flatten = [] := by simp
      rw [e]
      exact .nil
    · subst w
      have e : (List.replicate (1 : Int).toNat ds).flatten = ds := by
        show (List.replicate 1 ds).flatten = ds
        simp
      rw [e]
      exact hX
  · exact k _ _ (same_upd hp _) (.tup (SqT.of upd_same) ((hX.rep _).same (same_upd hp _)))
theorem cutT_to (xs : List Dt) {i : Int} (h : 0 ≤ i) : cutT xs none (some i) = xs.take i.toNat := by
  have e : i = ((i.toNat : Nat) : Int) := by omega
  rw [e]
  unfold cutT
  rw [HT.sIx_none, HT.sIx_nat, List.drop_zero, Nat.sub_zero, Int.toNat_natCast]
  by_cases h : i.toNat ≤ xs.length
  · rw [Nat.min_eq_left h]
  · rw [Nat.min_eq_right (by omega), List.take_length, List.take_of_length_le (by omega)]
theorem cutT_from (xs : List Dt) {i : Int} (h : 0 ≤ i) (h2 : i ≤ (xs.length : Int)) : cutT xs (some i) none = xs.drop i.toNat := by
  have e : i = ((i.toNat : Nat) : Int) := by omega
  rw [e]
  unfold cutT
  rw [HT.sIx_none, HT.sIx_nat, Int.toNat_natCast, Nat.min_eq_left (by omega), List.take_of_length_le (by rw [List.length_drop]; omega)]
/-- a new tuple of things -/
theorem Rp.new {a : Addr} {xs : List V} {ds : List Dt} (hp : H a = none) (h : RpAll K H ok xs ds) : Rp K (upd H a (.tup xs)) ok (.ref a) (.tup ds) := .tup (SqT.of upd_same) (h.same (same_upd hp _))
/-- loops are things -/
def loopsT (ls : List (List Int)) : List Dt := ls.map fun l => .tup (l.map Dt.int)
theorem ints_rp : ∀ {ns : List Int}, (∀ z ∈ ns, z.natAbs < 10 ^ 40) → RpAll K H ok (ns.map V.int) (ns.map Dt.int)
  | [], _ => .nil
  | n :: r, h => .cons (.int n (h n List.mem_cons_self)) (ints_rp fun z hz => h z (List.mem_cons_of_mem _ hz))
theorem loops_rp : ∀ {ls : List (List Int)} {xs : List V}, DpAll K H xs (ls.map dInts) → (∀ l ∈ ls, ∀ z ∈ l, z.natAbs < 10 ^ 40) → RpAll K H ok xs (loopsT ls)
  | [], _, h, _ => by
    cases h
    exact .nil
  | l :: r, _, h, hz => by
    cases h with
    | cons h1 h2 =>
      obtain ⟨a, rfl, hT⟩ := h1.ints
      exact .cons (.tup hT (ints_rp (hz l List.mem_cons_self))) (loops_rp h2 fun l hl => hz l (List.mem_cons_of_mem _ hl))
/-- things that are only ints are ints -/
theorem nums_of : ∀ {ds : List Dt} {xs : List V}, RpAll K H ok xs ds → ds.findIdx? badNum = none → ∃ ns : List Int, xs = ns.map V.int ∧ (∀ z ∈ ns, z.natAbs < 10 ^ 40) ∧ ns.length = ds.length
  | [], _, h, _ => by
    cases h
    exact ⟨[], rfl, (by intro z hz; cases hz), rfl⟩
  | d :: r, _, h, hf => by
    cases h with
    | cons h1 h2 =>
      rw [List.findIdx?_cons] at hf
      cases eb : badNum d with
      | true =>
        rw [eb] at hf
        simp at hf
      | false =>
        rw [eb] at hf
        have hf' : r.findIdx? badNum = none := by
          cases q : r.findIdx? badNum with
          | none => rfl
          | some j =>
            rw [q] at hf
            simp at hf
        obtain ⟨ns, rfl, hz, hl⟩ := nums_of h2 hf'
        cases h1 with
        | int i hi =>
          refine ⟨i :: ns, rfl, ?_, by simp [hl]⟩
          intro z hz'
          rcases List.mem_cons.mp hz' with q | q
          · rw [q]
            exact hi
          · exact hz z q
        | bl b => cases eb
        | non => cases eb
        | str x => cases eb
        | lst _ _ => cases eb
        | dct _ _ => cases eb
        | tup _ _ => cases eb
/-- an if whose test is known in part -/
theorem if_cut {c : TT} {t u w : TS} {D : Ends} {σ : L2.St} {H : Hp} (R : Bool → Hp → Prop) (h : ∀ Q' : Bool → Hp → Prop, (∀ b H', R b H' → Q' b H') → c σ H Q')
    (k1 : ∀ H', R true H' → t { D with nx := w D } σ H') (k2 : ∀ H', R false H' → u { D with nx := w D } σ H') : tSeq (tIfS c t u) w D σ H := by
  refine h _ fun b H' r => ?_
  cases b with
  | true => exact iteT (k1 H' r)
  | false => exact iteF (k2 H' r)
/-- places that are no part of the draws' state -/
abbrev off (H : Hp) (m : Addr) : Addr → Prop := fun a => a ≠ m ∧ ¬ Lf H m a
theorem Rp.ef {K : PySem.W.Frag} {H H' : Hp} {m : Addr} {n : Nat} (M : MS H m n) (e : Ef m H H') {v : V} {d : Dt} (h : Rp K H (off H m) v d) : Rp K H' (off H' m) v d := by
  refine Rp.keep (e.tk M) (fun a o q z => e.keep a o z q.1 q.2) (fun a o z q => ⟨q.1, fun w => ?_⟩) d v h
  rcases e.new a w with r | r
  · exact q.2 r
  · rw [z] at r
    cases r
theorem noLf_same {B H : Hp} {m a : Addr} {n : Nat} (M : MS B m n) (s : Same B H) (q : ¬ Lf B m a) : ¬ Lf H m a := fun w => q (by
  obtain ⟨c, l, M0⟩ := M
  obtain ⟨kvs, k, h1, h2⟩ := w
  rw [s _ _ M0.dk] at h1
  cases h1
  exact ⟨_, k, M0.dk, h2⟩)
/-- from a base, behind steps that only lay new things, and draws -/
theorem RpAll.out {K : PySem.W.Frag} {B H H' : Hp} {m : Addr} {n n' : Nat} (MB : MS B m n) (s : Same B H) (M : MS H m n') (e : Ef m H H') {vs : List V} {ds : List Dt} (h : RpAll K H (off B m) vs ds) : RpAll K H' (off H' m) vs ds := by
  have noL : ∀ a, ¬ Lf B m a → ¬ Lf H m a := fun a q w => q (by
    obtain ⟨c, l, M0⟩ := MB
    obtain ⟨kvs, k, h1, h2⟩ := w
    rw [s _ _ M0.dk] at h1
    cases h1
    exact ⟨_, k, M0.dk, h2⟩)
  refine RpAll.keep (e.tk M) (fun a o q z => e.keep a o z q.1 (noL a q.2)) (fun a o z q => ⟨q.1, fun w => ?_⟩) ds vs h
  rcases e.new a w with r | r
  · exact noL a q.2 r
  · rw [z] at r
    cases r
theorem off_new {B H : Hp} {m p : Addr} {n : Nat} (M : MS B m n) (s : Same B H) (hp : H p = none) : off B m p := by
  have b := s.free hp
  refine ⟨fun z => ?_, M.notLf b⟩
  obtain ⟨c, l, M0⟩ := M
  rw [z, M0.dk] at b
  cases b
theorem pickR {K : PySem.W.Frag} {H : Hp} {ok : Addr → Prop} {vs : List V} {ds : List Dt} {r : Int} (h : RpAll K H ok vs ds) (h0 : 0 ≤ r) (h1 : r < (ds.length : Int)) :
    ∃ v d, atI vs r = some v ∧ d ∈ ds ∧ Rp K H ok v d ∧ vs[r.toNat]? = some v ∧ ds[r.toNat]? = some d := by
  have hl := h.len
  have hr : r.toNat < vs.length := by omega
  obtain ⟨d, hd, hR⟩ := h.get (List.getElem?_eq_getElem hr)
  exact ⟨_, d, at_of (j := r.toNat) (by omega) (List.getElem?_eq_getElem hr), List.mem_of_getElem? hd, hR, List.getElem?_eq_getElem hr, hd⟩
theorem Rp.ef' {K : PySem.W.Frag} {B H : Hp} {m : Addr} {n : Nat} {v : V} {d : Dt} (h : Rp K H (off B m) v d) (M : MS B m n) (s : Same B H) : Rp K H (off H m) v d :=
  Rp.keep TK.refl (fun _ _ _ q => q) (fun a o _ q => ⟨q.1, noLf_same M s q.2⟩) d v h
theorem Rp.keep2 {K : PySem.W.Frag} {B H H' : Hp} {m : Addr} {n : Nat} {v : V} {d : Dt} (h : Rp K H (off B m) v d) (M : MS B m n) (s : Same B H') (s2 : Same H H' := by assumption) : Rp K H' (off H' m) v d :=
  (h.same s2).ef' M s
end My

/-! {f for x in xs for y in ys}, whole numbers; len of such a set. -/
namespace L2
open PySem PySem.Spec PyProof.Rows
/-- a set comprehension of two clauses without tests -/
abbrev twoFor (f a0 b0 a1 b1 : Expr) (sc : Scope) (ps : Pos) : Expr := .SetComp f [⟨a0, b0, [], 0⟩, ⟨a1, b1, [], 0⟩] sc ps
def turnBy (p : Pos) (tgt : Expr) (en : Env) (src : Value) (rest : Sem Fin) : Sem Fin := do
  standAt p
  match ← pyNext src with
  | none => pure (.done .next)
  | some v => do
    letOwnedTupleGo tgt src v
    assign tgt en v
    rest
section
variable {P : Program} {w : World} {A : Around} {R : Result → Shared → Prop} {f a0 b0 a1 b1 : Expr} {sc : Scope} {ps : Pos} {src D : Value} {en : Env}
def inner (f a0 b0 a1 b1 : Expr) (sc : Scope) (ps : Pos) (src D : Value) (en : Env) : Sem Fin := do
  let x ← eval b1 en
  standAt b1.pos
  let x ← foldedSetIterable b1 en x
  let _ ← runOwn (.compStart (twoFor f a0 b0 a1 b1 sc ps) 1 (← holding [x] (pyIter x)) D en) en
  again (.compLoop (twoFor f a0 b0 a1 b1 sc ps) 0 src D en)
def added (f a0 b0 a1 b1 : Expr) (sc : Scope) (ps : Pos) (src D : Value) (en : Env) : Sem Fin := do
  (do let v ← eval f en; standAt f.pos; let _ ← call (.builtin "set.add") [D, v])
  again (.compLoop (twoFor f a0 b0 a1 b1 sc ps) 1 src D en)
theorem turn0_eq : compTurn (twoFor f a0 b0 a1 b1 sc ps) 0 src D en = turnBy b0.pos a0 en src (inner f a0 b0 a1 b1 sc ps src D en) := by rfl
theorem turn1_eq : compTurn (twoFor f a0 b0 a1 b1 sc ps) 1 src D en = turnBy b1.pos a1 en src (added f a0 b0 a1 b1 sc ps src D en) := by rfl
abbrev Hurt (P : Program) (w : World) (A : Around) (R : Result → Shared → Prop) (en : Env) : Value → Shared → Prop := notedBy (model P w) A en fun x s' => R (.error x) s'
abbrev Goes2 (R : Result → Shared → Prop) (c : Code) (J : Nat → Shared → Prop) (n : Nat) : Fin → Shared → Prop := fun fin s' => match fin with
  | .done z => R (.ok z) s'
  | .again c' => c' = c ∧ ∃ m, m < n ∧ J m s'
theorem loopBy {k : Nat} {p : Pos} {tgt : Expr} {rest : Sem Fin} {s : Shared} (e : compTurn (twoFor f a0 b0 a1 b1 sc ps) k src D en = turnBy p tgt en src rest) (J : Nat → Shared → Prop)
    (turn : ∀ n s, J n s → wpAny (model P w) A (pyNext src) (fun r s1 => match r with
      | none => R (.ok .next) s1
      | some v => wpAny (model P w) A (letOwnedTupleGo tgt src v) (fun _ s2 => wpAny (model P w) A (assign tgt en v) (fun _ s3 =>
          wpAny (model P w) A rest (Goes2 R (.compLoop (twoFor f a0 b0 a1 b1 sc ps) k src D en) J n) (Hurt P w A R en) s3) (Hurt P w A R en) s2) (Hurt P w A R en) s1) (Hurt P w A R en) s)
    (n : Nat) (h : J n s) : codeAny (model P w) A (.compLoop (twoFor f a0 b0 a1 b1 sc ps) k src D en) R s := by
  refine codeAny_loop rfl J (fun n s hJ => ?_) n h
  show wpAny _ A ((compTurn _ k src D en).onRaise _) _ _ s
  refine wpAny_noted ?_
  rw [e]
  unfold turnBy
  refine wpAny_bind (wpAny_standAt (wpAny_bind (wpAny_mono (turn n s hJ) (fun r s1 h1 => ?_) fun _ _ z => z)))
  cases r with
  | none => exact wpAny_pure h1
  | some v => exact wpAny_bind (wpAny_mono h1 (fun _ s2 h2 => wpAny_bind (wpAny_mono h2 (fun _ s3 h3 => h3) fun _ _ z => z)) fun _ _ z => z)
theorem inner_ok {n : Nat} {J : Nat → Shared → Prop} {s : Shared} (hs : ∀ x, foldedSetIterable b1 en x = pure x)
    (h : wpAny (model P w) A (eval b1 en) (fun x s1 => wpAny (model P w) A (pyIter x) (fun i1 s2 =>
      codeAny (model P w) A (.compStart (twoFor f a0 b0 a1 b1 sc ps) 1 i1 D en) (fun r s' => match r with
        | .ok _ => ∃ m, m < n ∧ J m s'
        | .error _ => False) s2) (Hurt P w A R en) s1) (Hurt P w A R en) s) :
    wpAny (model P w) A (inner f a0 b0 a1 b1 sc ps src D en) (Goes2 R (.compLoop (twoFor f a0 b0 a1 b1 sc ps) 0 src D en) J n) (Hurt P w A R en) s := by
  unfold inner
  refine wpAny_bind (wpAny_mono h (fun x s1 h1 => ?_) fun _ _ z => z)
  refine wpAny_bind (wpAny_standAt (wpAny_bind (wpAny_of_eq (hs x) ?_)))
  refine wpAny_bind (wpAny_holding (wpAny_mono h1 (fun i1 s2 h2 => ?_) fun _ _ z => z))
  refine wpAny_bind (wpAny_runOwn ?_)
  rw [Around.mark_none]
  refine codeAny_mono h2 fun r s' hr => ?_
  cases r with
  | ok z =>
    first
      | exact wpAny_pure ⟨rfl, hr⟩
      | exact wpAny_bind (wpAny_pure (wpAny_pure ⟨rfl, hr⟩))
  | error z => exact hr.elim
theorem added_ok {n : Nat} {J : Nat → Shared → Prop} {s : Shared}
    (h : wpAny (model P w) A (eval f en) (fun x s1 => wpAny (model P w) A (call (.builtin "set.add") [D, x]) (fun _ s2 => ∃ m, m < n ∧ J m s2) (Hurt P w A R en) s1) (Hurt P w A R en) s) :
    wpAny (model P w) A (added f a0 b0 a1 b1 sc ps src D en) (Goes2 R (.compLoop (twoFor f a0 b0 a1 b1 sc ps) 1 src D en) J n) (Hurt P w A R en) s := by
  unfold added
  refine wpAny_bind (wpAny_bind (wpAny_mono h (fun x s1 h1 => ?_) fun _ _ z => z))
  refine wpAny_bind (wpAny_standAt (wpAny_bind (wpAny_mono h1 (fun _ s2 h2 => ?_) fun _ _ z => z)))
  exact wpAny_pure (wpAny_pure ⟨rfl, h2⟩)
/-- where clause k starts -/
theorem started {k : Nat} {b : Expr} {s : Shared} (hk : (clausesOf (twoFor f a0 b0 a1 b1 sc ps))[k]? = some ⟨a0, b, [], 0⟩ ∨ (clausesOf (twoFor f a0 b0 a1 b1 sc ps))[k]? = some ⟨a1, b, [], 0⟩)
    (h0 : codeAny (model P w) A (.compLoop (twoFor f a0 b0 a1 b1 sc ps) k src D en) R s)
    (h : wpAny (model P w) A (pyIter src) (fun i s' => codeAny (model P w) A (.compLoop (twoFor f a0 b0 a1 b1 sc ps) k i D en) R s') (Hurt P w A R en) s) :
    codeAny (model P w) A (.compStart (twoFor f a0 b0 a1 b1 sc ps) k src D en) R s := by
  refine codeAny_of_tree ?_
  show wpAny _ _ ((compStart _ k src D en).onRaise _) _ _ s
  refine wpAny_notedAt ?_
  unfold compStart
  have hq : (((clausesOf (twoFor f a0 b0 a1 b1 sc ps))[k]?).elim false (·.is_async != 0)) = false := by
    rcases hk with z | z <;> rw [z] <;> rfl
  rw [hq]
  show wpAny _ _ (ask >>= _) _ _ s
  refine wpAny_bind (wpAny_askSetting (wpAny_ite ?_))
  split
  · first
      | exact wpAny_bind (wpAny_pure (wpAny_pure (And.intro rfl h0)))
      | exact wpAny_pure (And.intro rfl h0)
  · refine wpAny_bind (wpAny_rule ?_)
    rcases hk with z | z <;> rw [z]
    · exact wpAny_bind (wpAny_standAt (wpAny_bind (wpAny_mono h (fun i s' h' => wpAny_pure (And.intro rfl h')) fun _ _ x => x)))
    · exact wpAny_bind (wpAny_standAt (wpAny_bind (wpAny_mono h (fun i s' h' => wpAny_pure (And.intro rfl h')) fun _ _ x => x)))
end
end L2

/-! {f for x in xs for y in ys}: the rule. -/
namespace L2
open PySem PySem.Spec PyProof.Rows
def putI (w : World) (H : Hp) (D : Addr) (S : Int → Bool) (n : Nat) (c : Int) : Hp := upd H D (SetO w D (fun j => S j || decide (j = c)) (if S c = true then n else n + 1))
abbrev noneI (w : World) (H : Hp) (D : Addr) : Hp := upd H D (SetO w D (fun _ => false) 0)
/-- a walk: Wk is what holds ahead of each turn; stop, and step, which leads to the next -/
def Wlk (J : It) (St : Hp → Prop) (Go : (Hp → Prop) → V → Hp → Prop) (H0 : Hp) : Prop := ∃ Wk : Nat → Nat → Hp → Prop, (∃ m, Wk 0 m H0) ∧ ∀ i m H, Wk i m H →
  (J.stop i H ∧ St H) ∨ (J.go i H ∧ ∃ Nx : Hp → Prop, (∀ H', Nx H' → ∃ m', m' < m ∧ Wk (i + 1) m' H') ∧ ∀ x H', J.yld i H x H' → Go Nx x H')
def tSc2 (w : World) (wa : TI) (ga : TG) (wb : TI) (gb : TG) (tf : TE) (vs us : List Nat) : TE := fun σ H Q => wa σ H fun J H1 => ∀ D, H1 D = none →
  Wlk J (fun H => Q (.ref D) H) (fun Nx x H => ga x (wipe σ vs) H fun σ2 H2 => wipe σ2 vs = wipe σ vs ∧ wb σ2 H2 fun J1 H4 =>
    Wlk J1 Nx (fun Nx1 x1 H => gb x1 (wipe σ2 us) H fun σ3 H5 => wipe σ3 us = wipe σ2 us ∧ tf σ3 H5 fun y H7 =>
      ∃ (c : Int) (S : Int → Bool) (n : Nat), y = .int c ∧ H7 D = some (SetO w D S n) ∧ n + 1 < scanBound ∧ Nx1 (putI w H7 D S n c)) H4) (noneI w H1 D)
section
variable {X : Cx}
theorem addI_ok {pins : List (Addr × Obj)} {σ : St} {H : Hp} {s : Shared} {E : Value → Shared → Prop} {D : Addr} {S : Int → Bool} {n : Nat} {c : Int} {v : Value} {Q : Value → Shared → Prop} (I : Inv X pins σ H s) (hD : H D = some (SetO X.w D S n)) (hr : n + 1 < scanBound) (rv : RelV (.int c) v)
    (h : ∀ s', Inv X pins σ (putI X.w H D S n c) s' → Q .none s') : wpAny (model X.prog X.w) X.A (call (.builtin "set.add") [.ref D, v]) Q E s := by
  obtain ⟨tk, rfl⟩ := rv
  refine setR_add (setO_get I hD) hr fun g sb new => ?_
  have he : ∃ u, g.get? D = some u := let ⟨o, _, _, _, ho, _⟩ := new; ⟨o, ho⟩
  exact h _ (I.write (e := D) (t' := s.toks + 1) (by rw [hD]; trivial) (.inl rfl) (fun b u hb z => (sb.2 b hb).trans z) he (setO_new new))
variable {pins : List (Addr × Obj)} {s : Shared} {σ : St} {H : Hp} {Q : VK} {f ta sa tb sb : Expr} {sc : Scope} {own : List (Str × Nat)} {us : List Nat} {ps : Pos} {wa wb : TI} {ga gb : TG} {tf : TE}
/-- what is asked of a part within the block -/
abbrev InBlk (X : Cx) (sc : Scope) (p : Cx → Prop) : Prop := ∀ (s : Shared) (H : Hp) (C : Addr) (cl : List (Str × Addr)) (fp : List Addr), p (X.blk s H sc (compEnvC sc cl C X.env) fp)
theorem pe_sc2 (hc : X.calm = true) (hN : X.N.Nodup) (hi : PI X ta sa wa) (ok : BlkOk X.N X.env.scope sc own) (hv : ∀ i ∈ us, i ∈ own.map (·.2))
    (hga : InBlk X sc fun Y => PG Y ta ga) (hib : InBlk X sc fun Y => PI Y tb sb wb) (hgb : InBlk X sc fun Y => PG Y tb gb) (hf : InBlk X sc fun Y => PE Y f tf)
    (fa : ∀ x, foldedSetIterable sa X.env x = pure x := by intro _; rfl) (fb : ∀ en x, foldedSetIterable sb en x = pure x := by intro _ _; rfl) :
    PE X (twoFor f ta sa tb sb sc ps) (tSc2 X.w wa ga wb gb tf (own.map (·.2)) us) := by
  refine ⟨fun pins s σ H Q I h => ?_⟩
  rw [PpSet.eval_SetComp]
  have free : ∀ y ∈ sc.names, y.2 = .free → ∃ c, X.env.cells.lookup y.1 = some c := fun y hy e => (ok.free y hy e).elim (fun z => I.ok.has _ (.inl z)) (fun z => I.ok.has _ (.inr z))
  refine wpAny_comprehension_free (use := none) rfl fa (closure_ok free) ok.kind (fun y hy e => by rw [ok.uniq y hy, e]) ?_
  refine thn (hi.run pins s σ H _ I h) fun xv s1 hx => thn hx fun itv s2 h2 => ?_
  obtain ⟨it, fp, tn, J, H2, rfl, I2, T, st2, f2, q⟩ := h2
  refine PpSet.newSet_ok (newEnv_comp ?_)
  generalize hD : s2.heap.objs.size = D
  obtain ⟨Wk, ⟨m0, w0⟩, turn⟩ := q D (I2.hok.fresh (Nat.le_of_eq hD))
  -- the set is laid, then the block begins
  generalize es3 : ({ s2 with heap := s2.heap.push { cls := .type "set", dict := none, data := .set #[] 0 (.fresh 0 0 (!X.w.params.followText "set-order")) } } : Shared) = s3
  have old3 : ∀ b o, s2.heap.get? b = some o → s3.heap.get? b = some o := fun b o e => by rw [← es3]; exact Heap.get?_push_of_some _ e
  have I3 : Inv X pins σ (noneI X.w H2 D) s3 := by
    rw [← es3, ← hD]
    exact I2.laid (t' := s2.toks) (fun b o e => Heap.get?_push_of_some _ e) (Nat.le_refl _) (setO_new (setR_fresh X.w))
  have size3 : s3.heap.objs.size = s2.heap.objs.size + 1 := by rw [← es3]; exact Heap.size_push ..
  have f3 : ∀ b ∈ fp, FpOk X pins (noneI X.w H2 D) b ∧ b < s3.heap.objs.size := fun b hb => by
    obtain ⟨o, e, _⟩ := T.obj _ _ st2 b hb
    have lt := Heap.lt_size e
    refine ⟨⟨?_, (f2 b hb).2⟩, by rw [size3]; exact Nat.lt_succ_of_lt lt⟩
    show upd _ _ _ b = none
    rw [upd_ne (fun z => Nat.lt_irrefl _ (by rw [z, ← hD] at lt; exact lt))]
    exact (f2 b hb).1
  have I4 := block_start I3 ok hN f3
  generalize ecl : cellsFrom (s3.heap.objs.size + 1) sc.names (cloFrom X.env.cells sc.names []) = cl at I4
  have pga := hga s3 (noneI X.w H2 D) s3.heap.objs.size cl fp
  have pib := hib s3 (noneI X.w H2 D) s3.heap.objs.size cl fp
  have pgb := hgb s3 (noneI X.w H2 D) s3.heap.objs.size cl fp
  have pf := hf s3 (noneI X.w H2 D) s3.heap.objs.size cl fp
  generalize es4 : ({ s3 with heap := pushCells (s3.heap.push { cls := .type "dict", data := .dict #[] }) sc.names } : Shared) = s4 at I4
  have old4 : ∀ b o, s3.heap.get? b = some o → s4.heap.get? b = some o := fun b o e => by rw [← es4]; exact pushCells_keeps _ _ _ _ (Heap.get?_push_of_some _ e)
  have st4 : tn 0 s4.heap := T.keep _ _ _ st2 fun b _ o e => old4 b o (old3 b o e)
  have nfp : ∀ b ∈ fp, (noneI X.w H2 D) b = none := fun b hb => (f3 b hb).1.1
  show codeAny _ _ (.compStart (twoFor f ta sa tb sb sc ps) 0 (.ref it) (.ref D) (compEnvC sc cl s3.heap.objs.size X.env)) (compPost (model X.prog X.w) X.A X.xe none (EP X pins σ Q) (.ref D) s3.heap.objs.size) s4
  have cL : (compEnvC sc cl s3.heap.objs.size X.env).locals = s3.heap.objs.size := rfl
  generalize compEnvC sc cl s3.heap.objs.size X.env = ce at I4 pga pib pgb pf cL ⊢
  generalize noneI X.w H2 D = H3 at I3 I4 pga pib pgb pf w0 nfp f3
  generalize eY : X.blk s3 H3 sc ce fp = Y at I4 pga pib pgb pf
  have still : ∀ {σ' : St} {H' : Hp} {s' : Shared}, Inv Y [] σ' H' s' → (∀ b ∈ fp, H' b = none) → ∀ b ∈ fp, FpOk Y [] H' b := by
    subst eY
    exact fun {σ' H' s'} I' hn b hb => ⟨hn b hb, (I'.ok.exf b hb).1, I'.ok.exfs b hb, .inl hb, fun x c e => (I'.ok.exf b hb).2 x c e, fun p hp => absurd (show p ∈ ([] : List (Addr × Obj)) ++ [] from hp) (by simp)⟩
  have eP : Y.prog = X.prog := by rw [← eY]
  have eW : Y.w = X.w := by rw [← eY]
  have eK : Y.K = X.K := by rw [← eY]
  have eA : Y.A = X.A := by rw [← eY]
  have eE : Y.env = ce := by rw [← eY]
  have hcY : Y.calm = true := by rw [← eY]; exact hc
  have outer : codeAny (model X.prog X.w) X.A (.compLoop (twoFor f ta sa tb sb sc ps) 0 (.ref it) (.ref D) ce) (compPost (model X.prog X.w) X.A X.xe none (EP X pins σ Q) (.ref D) s3.heap.objs.size) s4 := by
    refine loopBy turn0_eq (fun n s' => ∃ i H', Inv Y [] (wipe σ (own.map (·.2))) H' s' ∧ tn i s'.heap ∧ (∀ b ∈ fp, H' b = none) ∧ Wk i n H') ?_ m0 ⟨0, H3, I4, st4, nfp, w0⟩
    rintro n s5 ⟨i, H5, I5, st5, n5, w5⟩
    rcases turn i n H5 w5 with ⟨stop, qq⟩ | ⟨go, Nx, hNx, step⟩
    · subst eY
      refine thnF (T.done (X.blk s3 H3 sc ce fp) rfl rfl rfl hc i [] s5 _ H5 (fun _ _ => False) I5 (still I5 n5) st5 stop) fun r s6 ⟨hr, I6⟩ => ?_
      subst hr
      have I7 : Inv X pins σ H5 s6 := I3.call' (ch := fp) I6.os I6.base I6.hok I6.bare fun b hb => ⟨(f3 b hb).1.2.2.2.1, (f3 b hb).1.2.1, (f3 b hb).1.2.2.2.2.1, (f3 b hb).1.2.2.2.2.2⟩
      have nC : H5 s3.heap.objs.size = none := by
        have z : H5 ce.locals = none := I6.free
        rwa [cL] at z
      obtain ⟨m, hn, _⟩ := I6.loc
      have hn : s6.heap.Ns ce.locals m := hn
      rw [cL] at hn
      obtain ⟨g0, g1, g2, g3, g4, g5⟩ := I3.fpOk (Nat.le_refl _) nC
      exact ⟨m, hn, fun h'' sb => ⟨.ref D, H5, I7.turned (t' := s6.toks) (fun b o hb e => (sb.2 b hb).trans e) g0 g1 g3 g4 g5, rfl, qq⟩⟩
    · subst eY
      refine thnF (T.item (X.blk s3 H3 sc ce fp) rfl rfl rfl hc i [] s5 _ H5 (fun _ _ => False) I5 (still I5 n5) st5 go) fun r s6 ⟨u, hr, h6⟩ => ?_
      subst hr
      refine thnF h6 fun _ s7 ⟨x, H7, I7, r7, y7, st7, n7⟩ => ?_
      have J7 := I7.pinned (still I7 n7) (T.obj _ _ st7)
      refine thnF (pga.run _ s7 _ H7 x u _ J7 r7 (step x H7 y7)) fun _ s8 ⟨σ8, H8, I8, hw8, q8⟩ => ?_
      have len8 : (wipe σ (own.map (·.2))).length = σ8.length := by rw [← hw8, wipe_length]
      have sub8 : ∀ (j : Nat) v, (wipe σ (own.map (·.2)))[j]? = some (some v) → (wipe σ8 us)[j]? = some (some v) := fun j v e => by
        rw [← hw8] at e
        have z := wipe_some e
        rw [wipe_out fun m => z.2 (hv j m)]
        exact z.1
      -- the turn's end
      have back : ∀ {s' : Shared} {H' : Hp}, Inv (X.blk s3 H3 sc ce fp) ([] ++ pinsAt fp s7.heap) (wipe σ8 us) H' s' → Nx H' →
          ∃ m, m < n ∧ ∃ i H', Inv (X.blk s3 H3 sc ce fp) [] (wipe σ (own.map (·.2))) H' s' ∧ tn i s'.heap ∧ (∀ b ∈ fp, H' b = none) ∧ Wk i m H' := fun {s' H'} I' nx => by
        obtain ⟨m', hm, w'⟩ := hNx H' nx
        have kept : ∀ b ∈ fp, ∀ o, s7.heap.get? b = some o → s'.heap.get? b = some o ∧ H' b = none := fun b hb o e => by
          have z := I'.pin (b, o) (List.mem_append_right _ (List.mem_append_right _ (mem_pinsAt hb e)))
          exact ⟨z.1, z.2.1⟩
        refine ⟨m', hm, i + 1, H', (I'.unpinned (pins := [])).weak (len8.trans (wipe_length σ8 us).symm) sub8, T.keep _ _ _ st7 fun b hb o e => (kept b hb o e).1, fun b hb => ?_, w'⟩
        obtain ⟨o, e, _⟩ := T.obj _ _ st7 b hb
        exact (kept b hb o e).2
      refine inner_ok (fb ce) ?_
      refine thnF (pib.run _ s8 σ8 H8 _ I8 q8) fun xv s10 hx => thnF hx fun itv s11 h11 => ?_
      obtain ⟨ib, fq, tm, Jb, H11, rfl, I11, T1, st11, f11, W1, ⟨m1, w1⟩, turn1⟩ := h11
      have still1 : ∀ {H' : Hp}, (∀ b ∈ fq, H' b = none) → ∀ b ∈ fq, FpOk (X.blk s3 H3 sc ce fp) ([] ++ pinsAt fp s7.heap) H' b := fun z b hb => ⟨z b hb, (f11 b hb).2⟩
      have within : codeAny (model X.prog X.w) X.A (.compLoop (twoFor f ta sa tb sb sc ps) 1 (.ref ib) (.ref D) ce) (fun r s' => match r with
          | .ok _ => ∃ m, m < n ∧ ∃ i H', Inv (X.blk s3 H3 sc ce fp) [] (wipe σ (own.map (·.2))) H' s' ∧ tn i s'.heap ∧ (∀ b ∈ fp, H' b = none) ∧ Wk i m H'
          | .error _ => False) s11 := by
        refine loopBy turn1_eq (fun k s' => ∃ j H', Inv (X.blk s3 H3 sc ce fp) ([] ++ pinsAt fp s7.heap) (wipe σ8 us) H' s' ∧ tm j s'.heap ∧ (∀ b ∈ fq, H' b = none) ∧ W1 j k H') ?_ m1
          ⟨0, H11, I11.weak (wipe_length _ _) (fun j v e => (wipe_some e).1), st11, fun b hb => (f11 b hb).1, w1⟩
        rintro k s12 ⟨j, H12, I12, st12, n12, w12⟩
        rcases turn1 j k H12 w12 with ⟨stop1, nx1⟩ | ⟨go1, Nx1, hNx1, step1⟩
        · refine thnF (T1.done (X.blk s3 H3 sc ce fp) rfl rfl rfl hc j _ s12 _ H12 (fun _ _ => False) I12 (still1 n12) st12 stop1) fun r s13 ⟨hr, I13⟩ => ?_
          subst hr
          exact back I13 nx1
        · refine thnF (T1.item (X.blk s3 H3 sc ce fp) rfl rfl rfl hc j _ s12 _ H12 (fun _ _ => False) I12 (still1 n12) st12 go1) fun r s13 ⟨u1, hr, h13⟩ => ?_
          subst hr
          refine thnF h13 fun _ s14 ⟨x1, H14, I14, r14, y14, st14, n14⟩ => ?_
          have J14 := I14.pinned (still1 n14) (T1.obj _ _ st14)
          refine thnF (pgb.run _ s14 _ H14 x1 u1 _ J14 r14 (step1 x1 H14 y14)) fun _ s15 ⟨σ15, H15, I15, hw15, q15⟩ => ?_
          refine added_ok (thnF (pf.run _ s15 σ15 H15 _ I15 q15) fun z s17 ⟨yv, H17, I17, r17, c, S, nn, ey, hD17, hz17, nx⟩ => ?_)
          subst ey
          refine addI_ok (X := X.blk s3 H3 sc ce fp) I17 hD17 hz17 r17 fun s18 I18 => ?_
          obtain ⟨m', hm, w'⟩ := hNx1 _ nx
          have kept : ∀ b ∈ fq, ∀ o, s14.heap.get? b = some o → s18.heap.get? b = some o ∧ (putI X.w H17 D S nn c) b = none := fun b hb o e => by
            have z := I18.pin (b, o) (List.mem_append_right _ (List.mem_append_right _ (mem_pinsAt hb e)))
            exact ⟨z.1, z.2.1⟩
          refine ⟨m', hm, j + 1, _, I18.unpinned.weak (by rw [← hw15, wipe_length]) (fun j v e => by rw [← hw15] at e; exact (wipe_some e).1), T1.keep _ _ _ st14 fun b hb o e => (kept b hb o e).1, fun b hb => ?_, w'⟩
          obtain ⟨o, e, _⟩ := T1.obj _ _ st14 b hb
          exact (kept b hb o e).2
      exact started (b := sb) (.inr rfl) within (T1.self X.A 0 _ _ _ st11 within)
  exact started (b := sa) (.inl rfl) outer (T.self X.A 0 _ _ _ st4 outer)
end
end L2

/-! Walks within a set comprehension; sets by the list of their members; len. -/
namespace L2
open PySem PySem.Spec PyProof.Rows
section
variable {K : PySem.W.Frag} {a : Addr} {xs : List V} {St : Hp → Prop} {Go : (Hp → Prop) → V → Hp → Prop} {H0 : Hp}
theorem wlk_tup (Pv : Nat → Hp → Prop) (h0 : Pv 0 H0) (hl : ∀ i H, i ≤ xs.length → Pv i H → SqT K H a xs) (hs : ∀ i x H, xs[i]? = some x → Pv i H → Go (Pv (i + 1)) x H) (hd : ∀ H, Pv xs.length H → St H) : Wlk (Itt K a) St Go H0 := by
  refine ⟨fun i m H => m = xs.length - i ∧ i ≤ xs.length ∧ Pv i H, ⟨_, rfl, Nat.zero_le _, h0⟩, ?_⟩
  rintro i m H ⟨rfl, hi, p⟩
  have q := hl i H hi p
  rcases Nat.lt_or_ge i xs.length with lt | ge
  · refine .inr ⟨⟨xs, xs[i], q, by simp [lt]⟩, Pv (i + 1), fun H' p' => ⟨_, by omega, rfl, lt, p'⟩, fun x H' y => ?_⟩
    obtain ⟨rfl, y⟩ := y
    exact hs i x _ (y xs q) p
  · obtain rfl : i = xs.length := Nat.le_antisymm hi ge
    exact .inl ⟨⟨xs, q, Nat.le_refl _⟩, hd H p⟩
theorem wlk_rng {lo : Int} {n : Nat} (Pv : Nat → Hp → Prop) (h0 : Pv 0 H0) (hs : ∀ i H, i < n → Pv i H → Go (Pv (i + 1)) (.int (lo + i)) H) (hd : ∀ H, Pv n H → St H) : Wlk (Itr lo n) St Go H0 := by
  refine ⟨fun i m H => m = n - i ∧ i ≤ n ∧ Pv i H, ⟨_, rfl, Nat.zero_le _, h0⟩, ?_⟩
  rintro i m H ⟨rfl, hi, p⟩
  rcases Nat.lt_or_ge i n with lt | ge
  · refine .inr ⟨lt, Pv (i + 1), fun H' p' => ⟨_, by omega, rfl, lt, p'⟩, fun x H' y => ?_⟩
    obtain ⟨rfl, rfl⟩ := y
    exact hs i _ lt p
  · obtain rfl : i = n := Nat.le_antisymm hi ge
    exact .inl ⟨Nat.le_refl _, hd H p⟩
end
/-! ### sets by the list of their members -/
def ins {α : Type} [DecidableEq α] (L : List α) (c : α) : List α := if c ∈ L then L else c :: L
def fset {α : Type} [DecidableEq α] (L : List α) : List α := L.foldl ins []
def memb (L : List Int) : Int → Bool := fun j => decide (j ∈ L)
abbrev SetL (w : World) (a : Addr) (L : List Int) : HO := SetO w a (memb L) L.length
theorem noneI_eq {w : World} {H : Hp} {D : Addr} : noneI w H D = upd H D (SetL w D []) := by
  have e : memb [] = fun _ => false := funext fun j => decide_eq_false (by simp)
  show _ = upd H D (SetO w D (memb []) 0)
  rw [e]
theorem putI_eq {w : World} {H : Hp} {D : Addr} {L : List Int} {c : Int} : putI w H D (memb L) L.length c = upd H D (SetL w D (ins L c)) := by
  have e : (fun j => memb L j || decide (j = c)) = memb (ins L c) := funext fun j => by
    show (decide (j ∈ L) || decide (j = c)) = decide (j ∈ ins L c)
    rw [← Bool.decide_or]
    refine decide_eq_decide.mpr ?_
    unfold ins
    by_cases h : c ∈ L
    · rw [if_pos h]
      exact ⟨fun z => z.elim id fun e => e ▸ h, .inl⟩
    · rw [if_neg h, List.mem_cons]
      exact Or.comm
  have n : (if memb L c = true then L.length else L.length + 1) = (ins L c).length := by
    unfold ins
    by_cases h : c ∈ L
    · rw [if_pos h, if_pos (show memb L c = true from decide_eq_true h)]
    · rw [if_neg h, if_neg (fun z : memb L c = true => h (of_decide_eq_true z))]
      rfl
  unfold putI
  rw [e, n]
theorem ins_le {α : Type} [DecidableEq α] {L : List α} {c : α} : (ins L c).length ≤ L.length + 1 := by
  unfold ins
  split
  · omega
  · exact Nat.le_refl _
def rLenSet (w : World) : List V → Hp → VK → Prop := fun xs H Q => ∃ (a : Addr) (S : Int → Bool) (n : Nat), xs = [.ref a] ∧ H a = some (SetO w a S n) ∧ Q (.int (n : Nat)) H
theorem k_lenSet {X : Cx} {w : World} (e : X.w = w := by rfl) : CallR X (.builtin "len") (rLenSet w) := by
  subst e
  intro pins s σ H xs us Q I r h
  obtain ⟨a, S, n, rfl, ha, q⟩ := h
  obtain ⟨u, rfl, rx⟩ := vals1 r
  obtain rfl : u = .ref a := rx
  obtain ⟨o, es, ep, t, ho, hex, hd, _, _, _, hb, hf, hn, _⟩ := setO_get I ha
  refine call_len_set ho hex hd hf (by unfold scanBound at hb; omega) ?_
  rw [hn]
  exact ⟨.int (n : Nat), H, I.tok _, ⟨_, rfl⟩, q⟩
end L2

/-! t[::-1], t a tuple. -/
namespace L2
open PySem PySem.Spec PyProof.Rows HT
section
variable {prog : Program} {w : World} {A : Around} {E : Value → Shared → Prop} {s : Shared}
theorem adjust_back (n : Nat) : Builtin.Slice.sliceAdjust none none (-1) (n : Int) = ((n : Int) - 1, -1) := by
  unfold Builtin.Slice.sliceAdjust
  rfl
theorem places_back (n : Nat) : Builtin.Slice.slicePlaces ((n : Int) - 1) (-1) (-1) = n := by
  unfold Builtin.Slice.slicePlaces
  have h1 : ¬ (-1 : Int) > 0 := by omega
  simp only [h1, if_false, Int.neg_neg, Int.ediv_one]
  split <;> omega
theorem applied_back {sl : Addr} {tk : Tok} {n : Nat} {Q : Int × Int × Nat → Shared → Prop} (hs : s.heap.IsSliceOf sl .none .none (.int (-1) tk)) (h : Q ((n : Int) - 1, -1, n) s) :
    wpAny (model prog w) A (Builtin.Slice.sliceApplied (.ref sl) (pure (n : Int))) Q E s := by
  obtain ⟨os, hos, hcs, hds⟩ := id hs
  unfold Builtin.Slice.sliceApplied Builtin.Slice.sliceFields
  refine wpAny_bind (wpAny_bind (wpAny_field hos hds (x := .none) rfl ?_))
  refine wpAny_bind (wpAny_field hos hds (x := .none) rfl ?_)
  refine wpAny_bind (wpAny_field hos hds (x := .int (-1) tk) rfl (wpAny_pure ?_))
  refine wpAny_bind (slicePart_ (.int (-1) tk) ?_)
  show wpAny _ _ (if ((-1 : Int) == 0) = true then _ else _) _ _ s
  rw [if_neg (by decide)]
  refine wpAny_bind (slicePart_ .none (wpAny_bind (slicePart_ .none ?_)))
  refine wpAny_bind (wpAny_pure ?_)
  show wpAny _ _ (match Builtin.Slice.sliceAdjust none none (-1) (n : Int) with | (lo, hi) => pure (lo, (-1 : Int), Builtin.Slice.slicePlaces lo hi (-1))) _ _ s
  rw [adjust_back]
  show wpAny _ _ (pure ((n : Int) - 1, (-1 : Int), Builtin.Slice.slicePlaces ((n : Int) - 1) (-1) (-1))) _ _ s
  rw [places_back]
  exact wpAny_pure h
theorem back_go {α : Type} (xs : Array α) : ∀ k, k ≤ xs.size → (List.range k).filterMap (fun (m : Nat) => xs[((xs.size : Int) - 1 + (m : Int) * -1).toNat]?) = xs.toList.reverse.take k
  | 0, _ => rfl
  | k + 1, h => by
    rw [List.range_succ, List.filterMap_append, back_go xs k (by omega), List.take_add_one]
    have e : ((xs.size : Int) - 1 + (k : Int) * -1).toNat = xs.size - 1 - k := by omega
    congr 1
    have l : k < xs.toList.reverse.length := by rw [List.length_reverse, Array.length_toList]; omega
    have g : xs.toList.reverse[k]? = xs[xs.size - 1 - k]? := by
      rw [List.getElem?_reverse (by rw [Array.length_toList]; omega), Array.getElem?_toList, Array.length_toList]
    rw [g]
    show (match xs[((xs.size : Int) - 1 + (k : Int) * -1).toNat]? with | none => [] | some b => [b]) = _
    rw [e]
    cases xs[xs.size - 1 - k]? <;> rfl
theorem back_all (xs : Array Value) : ((List.range xs.size).filterMap (fun (m : Nat) => xs[((xs.size : Int) - 1 + (m : Int) * -1).toNat]?)).toArray = xs.toList.reverse.toArray := by
  rw [back_go xs xs.size (Nat.le_refl _), List.take_of_length_le (by rw [List.length_reverse, Array.length_toList]; exact Nat.le_refl _)]
theorem getItem_back {t sl : Addr} {items : Array Value} {tk : Tok} {Q : Value → Shared → Prop} (ht : IsTup s.heap t items) (hs : s.heap.IsSliceOf sl .none .none (.int (-1) tk))
    (h : Q (.ref s.heap.objs.size) { s with heap := s.heap.push { cls := .type "tuple", data := .seq items.toList.reverse.toArray } }) (hsz : items.size ≤ sizeLine) : wpAny (model prog w) A (getItem (.ref t) (.ref sl)) Q E s := by
  have fits : sizeOk (.seq items.toList.reverse.toArray) := by
    show items.toList.reverse.toArray.size ≤ sizeLine
    rw [List.size_toArray, List.length_reverse, Array.length_toList]
    exact hsz
  obtain ⟨os, hos, hcs, hds⟩ := id hs
  have hTs : s.TypeIs (.ref sl) "slice" := ⟨os, hos, hcs⟩
  unfold getItem
  try with_reducible refine wpAny_holding ?_
  first
    | refine wpAny_bind (wpAny_pure ?_)
    | skip
  refine wpAny_bind (wpAny_sequenceKey ht.typeIs (by decide) ?_)
  have sg := PyProof.Rows.slot_tuple_getitem
  refine wpAny_bind (wpAny_callSpecial?_slot (name := Str.ofString "__getitem__") ht.typeIs sg (wpAny_call_entry sg ht.typeIs entry_tuple_getitem ?_ (args_tuple_getitem _ _)))
  show wpAny _ _ (Builtin.Tuple.tupleItemsOf (.ref t) >>= _) _ _ s
  refine wpAny_bind (tupleItemsOf_ ht (wpAny_bind (wpAny_typeOf hTs ?_)))
  rw [if_pos (by decide)]
  refine wpAny_bind (applied_back hs ?_)
  show wpAny _ _ (if ((((items.size : Int) - 1) == 0 && (-1 : Int) == 1 && items.size == items.size) = true) then _ else _) _ _ s
  rw [if_neg (by simp), back_all]
  first
    | exact wpAny_bind (m := Builtin.Tuple.tupleExact _) (wpAny_newObj_type (wpAny_pure ⟨_, rfl, wpAny_pure h⟩) fits)
    | exact wpAny_bind (m := Builtin.Tuple.tupleExact _) (wpAny_newObj_type (wpAny_bind (wpAny_pure (wpAny_pure ⟨_, rfl, wpAny_pure h⟩))) fits)
    | exact wpAny_bind (wpAny_bind (m := Builtin.Tuple.tupleExact _) (wpAny_newObj_type (wpAny_pure (wpAny_pure ⟨_, rfl, wpAny_pure h⟩)) fits))
    | exact wpAny_bind (wpAny_bind (m := Builtin.Tuple.tupleExact _) (wpAny_newObj_type (wpAny_pure ⟨_, rfl, wpAny_pure h⟩) fits))
end
theorem vals_rev : ∀ {xs : List V} {us : List Value}, Vals xs us → Vals xs.reverse us.reverse
  | _, _, .nil => .nil
  | _, _, .cons r t => by
    rw [List.reverse_cons, List.reverse_cons]
    exact (vals_rev t).append (.cons r .nil)
def tBack (K : PySem.W.Frag) (te ts : TE) : TE := fun σ H Q => te σ H fun x H1 => ts σ H1 fun y H2 => y = .int (-1) ∧ ∃ (a : Addr) (xs : List V), x = .ref a ∧ SqT K H2 a xs ∧ ∀ p, H2 p = none → Q (.ref p) (upd H2 p (.tup xs.reverse))
theorem pe_back {X : Cx} {K : PySem.W.Frag} {e st : Expr} {te ts : TE} {p2 pos : Pos} (he : PE X e te) (hst : PE X st ts) (ek : X.K = K := by rfl) : PE X (.Subscript e (.Slice none none (some st) p2) pos) (tBack K te ts) := by
  subst ek
  refine ⟨fun pins s σ H Q I h => ?_⟩
  refine Subscript_ (thn (he.run pins s σ H _ I h) fun v s1 ⟨x, H1, I1, r1, q1⟩ => ?_)
  refine wpAny_Slice ?_
  rw [evalPart_none, evalPart_some]
  refine wpAny_pure (wpAny_pure (thn (hst.run pins s1 σ H1 _ I1 q1) fun vs s3 ⟨y, H3, I3, ry, ey, a, xs, ex, hx, q⟩ => ?_))
  subst ey ex
  obtain ⟨tk, rfl⟩ := ry
  cases r1
  have I4 : Inv X pins σ H3 { s3 with heap := s3.heap.push { cls := .type "slice", data := .fields #[.none, .none, .int (-1) tk] } } := I3.kept (t' := s3.toks) fun b ob q => Heap.get?_push_of_some _ q
  obtain ⟨its, r, ht, hz⟩ := I4.tuple hx
  have hlen : its.toArray.size = xs.length := by rw [List.size_toArray]; exact r.length.symm
  show wpAny (model X.prog X.w) X.A (subscriptTail e (.Slice none none (some st) p2) (.ref a) (.ref s3.heap.objs.size)) (EP X pins σ Q) X.xe { s3 with heap := s3.heap.push { cls := .type "slice", data := .fields #[.none, .none, .int (-1) tk] } }
  refine tail_any (T := "tuple") (ops := [.ref a, .ref s3.heap.objs.size]) ht.typeIs PyProof.Rows.slot_tuple_getitem.lookup (getItem_back ht (Heap.IsSliceOf.new ..) ?_ (by rw [hlen]; exact hz)) (by with_unfolding_all rfl)
  refine ⟨.ref _, _, I4.laid (t' := s3.toks) (o := .tup xs.reverse) (fun b ob z => Heap.get?_push_of_some _ z) (Nat.le_refl _) ?_, rfl, q _ (I4.hok.fresh (Nat.le_refl _))⟩
  exact ⟨by rw [List.length_reverse]; exact hz, its.reverse, vals_rev r, IsTup.new _ _⟩
end L2

/-! zip of tuples, all and any named, three comparisons in a chain, tuples of data times ints, repr of truth values. -/
namespace L2
open PySem PySem.Spec PyProof.Rows
section
variable {X : Cx} {K : PySem.W.Frag}
theorem k_all (hc : X.calm = true) (ek : X.K = K := by rfl) : CallR X (.builtin "all") (rAll K) := by
  subst ek
  exact cr_all hc
theorem k_any (hc : X.calm = true) (ek : X.K = K := by rfl) : CallR X (.builtin "any") (rAny K) := by
  subst ek
  exact cr_any hc
theorem k_piZA {e e2 : Expr} {ta : TA} {p pos tpos : Pos} {elts : List Expr} {kk : Nat} (hg : Gl X "zip") (hm : X.mg "zip" = none) (ha : PA X [e, e2] ta)
    (hs : starEach [e, e2] X.env = (false, eval e X.env) :: starEach [e2] X.env := by rfl)
    (hpl : (backTo pos (starEach [e2] X.env)).any (·.1) = false := by rfl) (ek : X.K = K := by rfl) :
    PI X (.Tuple elts kk tpos) (.Call (.Name "zip" p) [e, e2] [] pos) (RZ.iZipA K ta) := by
  subst ek
  exact RZ.pi_zipA hg hm ha hs hpl
end
theorem walk_zipT {K : PySem.W.Frag} {a b : Addr} {xs ys : List V} (hn : xs.length = ys.length) :
    Walk (RZ.ItzT K a b) xs.length (fun H => SqT K H a xs ∧ SqT K H b ys) (YPair (fun i => xs[i]?) (fun i => ys[i]?)) where
  goes := fun i _ hi q => ⟨xs, ys, xs[i], ys[i]'(by omega), q.1, q.2, by simp [hi], by simp [show i < ys.length by omega]⟩
  stops := fun _ q => ⟨xs, ys, q.1, q.2, .inl (Nat.le_refl _)⟩
  yields := fun i H v H' _ q y => by
    obtain ⟨T, x, z, e1, e2, e3, e4, e5⟩ := y
    exact ⟨T, x, z, e1, e2, e3, e4 xs q.1, e5 ys q.2⟩
/-! ### a < b < c < d as a test -/
def tChain3 (r r' r2 : R2) (ta tb tc td : TE) : TE := fun σ H Q => ta σ H fun x H1 => tb σ H1 fun y H2 => r x y H2 fun z H3 => ∃ k, z = .bl k ∧
  (if k = true then tc σ H3 fun y2 H4 => r' y y2 H4 fun z2 H5 => ∃ k2, z2 = .bl k2 ∧ (if k2 = true then td σ H5 fun y3 H6 => r2 y2 y3 H6 Q else Q (.bl false) H5) else Q (.bl false) H3)
theorem pt_chain3 {X : Cx} {a b c d : Expr} {ta tb tc td : TE} {pos : Pos} {o1 o2 o3 : CmpOp} {r r' r2 : R2} (h1 : OpR X (compareOp o1) r) (h2 : OpR X (compareOp o2) r') (h3 : OpR X (compareOp o3) r2)
    (ha : PE X a ta) (hb : PE X b tb) (hc : PE X c tc) (hd : PE X d td) (hm : lastMarks [o1, o2, o3] [b, c, d] = false := by with_unfolding_all rfl) :
    PT X (.Compare a [o1, o2, o3] [b, c, d] pos) (tTest (tChain3 r r' r2 ta tb tc td)) := by
  refine ⟨fun pins s σ H Q I h => ?_⟩
  refine isTrue_chain (thn (ha.run pins s σ H _ I h) fun v1 s1 ⟨x, H1, I1, r1, q1⟩ => ?_) hm
  refine test_link (thn (hb.run pins s1 σ H1 _ I1 q1) fun v2 s2 ⟨y, H2, I2, r2', q2⟩ => ?_)
  refine thn (h1 pins s2 σ H2 x y v1 v2 _ I2 r1 r2' q2) fun b1 s3 ⟨z, H3, I3, r3, k, ez, q3⟩ => ?_
  subst ez
  cases r3
  refine wpAny_truthy_bool ?_
  cases k with
  | false =>
    obtain ⟨_, e0, q0⟩ := q3
    cases e0
    exact ite_ff ⟨H3, I3, q0⟩
  | true =>
    refine ite_tt (test_link (thn (hc.run pins s3 σ H3 _ I3 q3) fun v4 s4 ⟨y2, H4, I4, r4, q4⟩ => ?_))
    refine thn (h2 pins s4 σ H4 y y2 v2 v4 _ I4 r2' r4 q4) fun b2 s5 ⟨z2, H5, I5, r5, k2, ez2, q5⟩ => ?_
    subst ez2
    cases r5
    refine wpAny_truthy_bool ?_
    cases k2 with
    | false =>
      obtain ⟨_, e0, q0⟩ := q5
      cases e0
      exact ite_ff ⟨H5, I5, q0⟩
    | true =>
      refine ite_tt (test_last (thn (hd.run pins s5 σ H5 _ I5 q5) fun v6 s6 ⟨y3, H6, I6, r6, q6⟩ => ?_))
      refine thn (h3 pins s6 σ H6 y2 y3 v4 v6 _ I6 r4 r6 q6) fun b3 s7 ⟨z3, H7, I7, r7, k3, ez3, q7⟩ => ?_
      subst ez3
      cases r7
      exact wpAny_truthy_bool ⟨H7, I7, q7⟩
/-! ### repr of a truth value -/
def rReprB : List V → Hp → VK → Prop := fun xs H Q => ∃ b, xs = [.bl b] ∧ Q (.str (if b then "True" else "False" : String)) H
theorem k_reprB {X : Cx} : CallR X (.builtin "repr") rReprB := by
  intro pins s σ H xs us Q I r h
  obtain ⟨b, rfl, q⟩ := h
  obtain ⟨u, rfl, ru⟩ := vals1 r
  cases ru
  refine PySem.P.repr_of_bool ?_
  cases b
  · exact ⟨.str _, H, I.tok _, ⟨_, rfl⟩, q⟩
  · exact ⟨.str _, H, I.tok _, ⟨_, rfl⟩, q⟩
end L2
namespace My
open PySem PySem.Spec PyProof.Rows L2
/-- a tuple of data, times an int -/
theorem rd_repD {K : PySem.W.Frag} {H : Hp} {v : V} {ds : List PyData} {n : Int} {Q : VK} (h : Dp K H v (.tuple ds)) (hz : ds.length ≤ 1000) (h0 : -1000 ≤ n) (h1 : n ≤ 1000)
    (k : ∀ w H', Same H H' → Dp K H' w (.tuple (List.replicate n.toNat ds).flatten) → Q w H') : rRepA K v (.int n) H Q := by
  obtain ⟨a, xs, rfl, hT, hX⟩ := h.tuple
  have hl := hX.len
  have go : ∀ m : Nat, DpAll K H (List.replicate m xs).flatten (List.replicate m ds).flatten := fun m => by
    induction m with
    | zero => exact .nil
    | succ m ih =>
      rw [List.replicate_succ, List.replicate_succ, List.flatten_cons, List.flatten_cons]
      exact hX.app ih
  refine ⟨a, n, xs, rfl, rfl, hT, h0, h1, by omega, fun w => ?_, fun _ p hp => ?_⟩
  · refine k _ H (Same.refl H) (.tup hT ?_)
    rcases w with w | w
    · subst w
      cases hX
      have e : (List.replicate n.toNat ([] : List PyData)).flatten = [] := by simp
      rw [e]
      exact .nil
    · subst w
      have e : (List.replicate (1 : Int).toNat ds).flatten = ds := by
        show (List.replicate 1 ds).flatten = ds
        simp
      rw [e]
      exact hX
  · exact k _ _ (same_upd hp _) (.tup (SqT.of upd_same) (DpAll.same (same_upd hp _) _ _ (go _)))
end My

/-! Lengths, their least common multiple, places; when loops meet. -/
namespace My
open PySem PySem.Spec PyProof.Rows L2
def NN (ns : List Nat) : List Int := ns.map fun n : Nat => (n : Int)
def lcmN (ns : List Nat) : Nat := ns.foldl Nat.lcm 1
theorem lcm_go : ∀ (ns : List Nat) (a : Nat), a ∣ ns.foldl Nat.lcm a ∧ ∀ n ∈ ns, n ∣ ns.foldl Nat.lcm a
  | [], a => ⟨Nat.dvd_refl a, by intro n hn; cases hn⟩
  | b :: r, a => by
    obtain ⟨h1, h2⟩ := lcm_go r (Nat.lcm a b)
    refine ⟨Nat.dvd_trans (Nat.dvd_lcm_left a b) h1, fun n hn => ?_⟩
    rcases List.mem_cons.mp hn with q | q
    · rw [q]
      exact Nat.dvd_trans (Nat.dvd_lcm_right a b) h1
    · exact h2 n q
theorem lcm_least : ∀ (ns : List Nat) (a m : Nat), a ∣ m → (∀ n ∈ ns, n ∣ m) → ns.foldl Nat.lcm a ∣ m
  | [], a, m, h, _ => h
  | b :: r, a, m, h, g => lcm_least r (Nat.lcm a b) m (Nat.lcm_dvd h (g b List.mem_cons_self)) fun n hn => g n (List.mem_cons_of_mem _ hn)
theorem dvd_lcmN {ns : List Nat} {n : Nat} (h : n ∈ ns) : n ∣ lcmN ns := (lcm_go ns 1).2 n h
theorem lcmN_dvd {ns : List Nat} {m : Nat} (h : ∀ n ∈ ns, n ∣ m) : lcmN ns ∣ m := lcm_least ns 1 m (Nat.one_dvd m) h
theorem lcmN_take {ns : List Nat} {i n : Nat} (h : ns[i]? = some n) : lcmN (ns.take (i + 1)) = Nat.lcm (lcmN (ns.take i)) n := by
  rw [take_more h]
  unfold lcmN
  rw [List.foldl_append]
  rfl
theorem lcm_pos_go : ∀ (ns : List Nat) (a : Nat), 0 < a → (∀ n ∈ ns, 1 ≤ n) → 0 < ns.foldl Nat.lcm a
  | [], a, h, _ => h
  | b :: r, a, h, g => lcm_pos_go r (Nat.lcm a b) (Nat.lcm_pos h (g b List.mem_cons_self)) fun n hn => g n (List.mem_cons_of_mem _ hn)
theorem lcmN_pos {ns : List Nat} (h : ∀ n ∈ ns, 1 ≤ n) : 0 < lcmN ns := lcm_pos_go ns 1 (Nat.succ_pos 0) h
theorem lcm_le_go (b : Nat) (hb : 1 ≤ b) : ∀ (ns : List Nat) (a : Nat), (∀ n ∈ ns, n ≤ b) → ns.foldl Nat.lcm a ≤ a * b ^ ns.length
  | [], a, _ => by simp
  | c :: r, a, h => by
    have ih := lcm_le_go b hb r (Nat.lcm a c) fun n hn => h n (List.mem_cons_of_mem _ hn)
    have h1 : Nat.lcm a c ≤ a * b := by
      rcases Nat.eq_zero_or_pos a with e | e
      · rw [e, Nat.lcm_zero_left]
        exact Nat.zero_le _
      · rcases Nat.eq_zero_or_pos c with f | f
        · rw [f, Nat.lcm_zero_right]
          exact Nat.zero_le _
        · exact Nat.le_trans (Nat.le_of_dvd (Nat.mul_pos e f) (Nat.lcm_dvd (Nat.dvd_mul_right a c) (Nat.dvd_mul_left c a))) (Nat.mul_le_mul_left a (h c List.mem_cons_self))
    refine Nat.le_trans ih ?_
    rw [List.length_cons, Nat.pow_succ, Nat.mul_comm (b ^ r.length) b, ← Nat.mul_assoc]
    exact Nat.mul_le_mul_right _ h1
theorem lcmN_le {ns : List Nat} {b : Nat} (hb : 1 ≤ b) (h : ∀ n ∈ ns, n ≤ b) : lcmN ns ≤ b ^ ns.length := by
  have q := lcm_le_go b hb ns 1 h
  rw [Nat.one_mul] at q
  exact q
/-! ### two rests together -/
theorem bez (a b : Nat) : ∃ x y : Int, ((Nat.gcd a b : Nat) : Int) = a * x + b * y := by
  induction a, b using Nat.gcd.induction with
  | H0 b => exact ⟨0, 1, by simp⟩
  | H1 a b ha ih =>
    obtain ⟨x, y, e⟩ := ih
    refine ⟨y - ((b / a : Nat) : Int) * x, x, ?_⟩
    rw [Nat.gcd_rec, e]
    have q : ((b % a : Nat) : Int) = (b : Int) - (a : Int) * ((b / a : Nat) : Int) := by
      have := Nat.mod_add_div b a
      have q2 : ((b % a + a * (b / a) : Nat) : Int) = (b : Int) := by rw [this]
      rw [Int.natCast_add, Int.natCast_mul] at q2
      omega
    rw [q, Int.sub_mul, Int.mul_sub, Int.mul_assoc]
    omega
theorem crt2 {R L : Nat} {x q : Int} (h : ((Nat.gcd R L : Nat) : Int) ∣ q - x) : ∃ Y : Int, (R : Int) ∣ Y - x ∧ (L : Int) ∣ Y - q := by
  obtain ⟨c, hc⟩ := h
  obtain ⟨a, b, e⟩ := bez R L
  refine ⟨x + R * (a * c), ⟨a * c, by omega⟩, ⟨-(b * c), ?_⟩⟩
  have e2 : q - x = R * (a * c) + L * (b * c) := by
    rw [hc, e, Int.add_mul, Int.mul_assoc, Int.mul_assoc]
  rw [Int.mul_neg]
  omega
theorem gcd_lcm_dvd {a b L m : Nat} (h1 : Nat.gcd a L ∣ m) (h2 : Nat.gcd b L ∣ m) : Nat.gcd (Nat.lcm a b) L ∣ m := by
  have key : ∀ d : Nat, d ∣ Nat.lcm a b → d ∣ Nat.lcm (Nat.gcd a d) (Nat.gcd b d) := by
    intro d hd
    rcases Nat.eq_zero_or_pos d with e | dp
    · subst e
      rw [Nat.gcd_zero_right, Nat.gcd_zero_right]
      exact hd
    have gp : 0 < Nat.gcd (Nat.gcd a d) (Nat.gcd b d) := Nat.gcd_pos_of_pos_left _ (Nat.gcd_pos_of_pos_right _ dp)
    have N : d * Nat.gcd (Nat.gcd a d) (Nat.gcd b d) ∣ Nat.gcd a d * Nat.gcd b d := by
      have ga : Nat.gcd (Nat.gcd a d) (Nat.gcd b d) ∣ a := Nat.dvd_trans (Nat.gcd_dvd_left _ _) (Nat.gcd_dvd_left _ _)
      have gb : Nat.gcd (Nat.gcd a d) (Nat.gcd b d) ∣ b := Nat.dvd_trans (Nat.gcd_dvd_right _ _) (Nat.gcd_dvd_left _ _)
      have gd : Nat.gcd (Nat.gcd a d) (Nat.gcd b d) ∣ d := Nat.dvd_trans (Nat.gcd_dvd_left _ _) (Nat.gcd_dvd_right _ _)
      have nab : d * Nat.gcd (Nat.gcd a d) (Nat.gcd b d) ∣ a * b := by
        have q : d * Nat.gcd (Nat.gcd a d) (Nat.gcd b d) ∣ Nat.lcm a b * Nat.gcd a b := Nat.mul_dvd_mul hd (Nat.dvd_gcd ga gb)
        rw [Nat.mul_comm (Nat.lcm a b), Nat.gcd_mul_lcm] at q
        exact q
      have nad : d * Nat.gcd (Nat.gcd a d) (Nat.gcd b d) ∣ a * d := by
        rw [Nat.mul_comm a d]
        exact Nat.mul_dvd_mul_left d ga
      have ndb : d * Nat.gcd (Nat.gcd a d) (Nat.gcd b d) ∣ d * b := Nat.mul_dvd_mul_left d gb
      have ndd : d * Nat.gcd (Nat.gcd a d) (Nat.gcd b d) ∣ d * d := Nat.mul_dvd_mul_left d gd
      have q1 : d * Nat.gcd (Nat.gcd a d) (Nat.gcd b d) ∣ a * Nat.gcd b d := by
        rw [← Nat.gcd_mul_left a b d]
        exact Nat.dvd_gcd nab nad
      have q2 : d * Nat.gcd (Nat.gcd a d) (Nat.gcd b d) ∣ d * Nat.gcd b d := by
        rw [← Nat.gcd_mul_left d b d]
        exact Nat.dvd_gcd ndb ndd
      have q3 := Nat.dvd_gcd q1 q2
      rw [Nat.gcd_mul_right] at q3
      exact q3
    rw [← Nat.gcd_mul_lcm (Nat.gcd a d) (Nat.gcd b d), Nat.mul_comm d] at N
    exact Nat.dvd_of_mul_dvd_mul_left gp N
  have k := key _ (Nat.gcd_dvd_left (Nat.lcm a b) L)
  have dL : Nat.gcd (Nat.lcm a b) L ∣ L := Nat.gcd_dvd_right _ _
  refine Nat.dvd_trans k (Nat.lcm_dvd (Nat.dvd_trans ?_ h1) (Nat.dvd_trans ?_ h2))
  · exact Nat.dvd_gcd (Nat.gcd_dvd_left _ _) (Nat.dvd_trans (Nat.gcd_dvd_right _ _) dL)
  · exact Nat.dvd_gcd (Nat.gcd_dvd_left _ _) (Nat.dvd_trans (Nat.gcd_dvd_right _ _) dL)
theorem gcd_lcms {L m : Nat} : ∀ (ns : List Nat) (a : Nat), Nat.gcd a L ∣ m → (∀ n ∈ ns, Nat.gcd n L ∣ m) → Nat.gcd (ns.foldl Nat.lcm a) L ∣ m
  | [], a, h, _ => h
  | b :: r, a, h, g => gcd_lcms r (Nat.lcm a b) (gcd_lcm_dvd h (g b List.mem_cons_self)) fun n hn => g n (List.mem_cons_of_mem _ hn)
theorem emod_eq_dvd {n x y : Int} : x % n = y % n ↔ n ∣ x - y := by
  rw [Int.emod_eq_emod_iff_emod_sub_eq_zero]
  exact ⟨Int.dvd_of_emod_eq_zero, Int.emod_eq_zero_of_dvd⟩
/-- places that by pairs can meet are those of some tick -/
theorem crt_all {ns : List Nat} {ps : List Int} (hl : ps.length = ns.length) (hp : ∀ (i n : Nat) (p : Int), ns[i]? = some n → ps[i]? = some p → 0 ≤ p ∧ p < (n : Int))
    (h : ∀ (i j a b : Nat) (p q : Int), i < j → ns[i]? = some a → ns[j]? = some b → ps[i]? = some p → ps[j]? = some q → ((Nat.gcd a b : Nat) : Int) ∣ p - q) :
    ∃ X : Int, ∀ (i n : Nat) (p : Int), ns[i]? = some n → ps[i]? = some p → X % (n : Int) = p := by
  have go : ∀ m : Nat, ∃ X : Int, ∀ (i n : Nat) (p : Int), i < m → ns[i]? = some n → ps[i]? = some p → X % (n : Int) = p := fun m => by
    induction m with
    | zero => exact ⟨0, fun i n p hi => absurd hi (Nat.not_lt_zero i)⟩
    | succ m ih =>
      obtain ⟨X, hX⟩ := ih
      cases en : ns[m]? with
      | none =>
        refine ⟨X, fun i n p hi e1 e2 => ?_⟩
        by_cases im : i < m
        · exact hX i n p im e1 e2
        · have : i = m := by omega
          subst this
          rw [en] at e1
          cases e1
      | some L =>
        have hm : m < ns.length := (List.getElem?_eq_some_iff.mp en).1
        have eq : ps[m]? = some (ps[m]'(by omega)) := List.getElem?_eq_getElem (by omega)
        have hd : ((Nat.gcd (lcmN (ns.take m)) L : Nat) : Int) ∣ ps[m]'(by omega) - X := by
          rw [Int.ofNat_dvd_left]
          refine gcd_lcms (ns.take m) 1 (by rw [Nat.gcd_one_left]; exact Nat.one_dvd _) fun n hn => ?_
          rw [← Int.ofNat_dvd_left]
          obtain ⟨i, hi⟩ := List.mem_iff_getElem?.mp hn
          have im : i < m := by
            have := (List.getElem?_eq_some_iff.mp hi).1
            rw [List.length_take] at this
            omega
          rw [List.getElem?_take_of_lt im] at hi
          have ep : ps[i]? = some (ps[i]'(by omega)) := List.getElem?_eq_getElem (by omega)
          have a1 := h i m n L _ _ im hi en ep eq
          have a2 : (n : Int) ∣ X - ps[i]'(by omega) := by
            have b1 := hX i n _ im hi ep
            obtain ⟨c1, c2⟩ := hp i n _ hi ep
            rw [← emod_eq_dvd, b1, Int.emod_eq_of_lt c1 c2]
          have a3 : ((Nat.gcd n L : Nat) : Int) ∣ X - ps[i]'(by omega) := Int.dvd_trans (Int.natCast_dvd_natCast.mpr (Nat.gcd_dvd_left n L)) a2
          have a4 := Int.dvd_add a1 a3
          have e : ps[i]'(by omega) - ps[m]'(by omega) + (X - ps[i]'(by omega)) = -(ps[m]'(by omega) - X) := by omega
          rw [e] at a4
          exact Int.dvd_neg.mp a4
        obtain ⟨Y, y1, y2⟩ := crt2 hd
        refine ⟨Y, fun i n p hi e1 e2 => ?_⟩
        by_cases im : i < m
        · rw [← hX i n p im e1 e2, emod_eq_dvd]
          refine Int.dvd_trans (Int.natCast_dvd_natCast.mpr (dvd_lcmN ?_)) y1
          exact List.mem_of_getElem? (i := i) (by rw [List.getElem?_take_of_lt im]; exact e1)
        · have : i = m := by omega
          subst this
          rw [en] at e1
          rw [eq] at e2
          cases e1
          cases e2
          obtain ⟨c1, c2⟩ := hp i L _ en eq
          have := emod_eq_dvd.mpr y2
          rw [this, Int.emod_eq_of_lt c1 c2]
  obtain ⟨X, hX⟩ := go ns.length
  exact ⟨X, fun i n p e1 e2 => hX i n p (List.getElem?_eq_some_iff.mp e1).1 e1 e2⟩
/-- the places of a tick -/
def plc (ns : List Nat) (t : Int) : List Int := ns.map fun n : Nat => t % (n : Int)
theorem plc_of {ns : List Nat} {ps : List Int} {X : Int} (hl : ps.length = ns.length) (h : ∀ (i n : Nat) (p : Int), ns[i]? = some n → ps[i]? = some p → X % (n : Int) = p) : ps = plc ns X := by
  refine List.ext_getElem? fun i => ?_
  unfold plc
  rw [List.getElem?_map]
  by_cases hi : i < ns.length
  · have e1 : ns[i]? = some ns[i] := List.getElem?_eq_getElem hi
    have e2 : ps[i]? = some (ps[i]'(by omega)) := List.getElem?_eq_getElem (by omega)
    rw [e1, e2, ← h i _ _ e1 e2]
    rfl
  · rw [List.getElem?_eq_none (by omega), List.getElem?_eq_none (show ns.length ≤ i by omega)]
    rfl
theorem plc_mod {ns : List Nat} {t u : Int} : plc ns t = plc ns u ↔ ((lcmN ns : Nat) : Int) ∣ t - u := by
  constructor
  · intro h
    rw [Int.ofNat_dvd_left]
    refine lcmN_dvd fun n hn => ?_
    rw [← Int.ofNat_dvd_left, ← emod_eq_dvd]
    exact List.map_inj_left.mp h n hn
  · intro h
    refine List.map_congr_left fun n hn => ?_
    rw [emod_eq_dvd]
    exact Int.dvd_trans (Int.natCast_dvd_natCast.mpr (dvd_lcmN hn)) h
theorem plc_lcm (ns : List Nat) (t : Int) : plc ns (t % (lcmN ns : Nat)) = plc ns t := by
  rw [plc_mod, ← emod_eq_dvd, Int.emod_emod]
theorem plc_one {ns : List Nat} {t u : Int} (h : plc ns t = plc ns u) (t0 : 0 ≤ t) (t1 : t < (lcmN ns : Nat)) (u0 : 0 ≤ u) (u1 : u < (lcmN ns : Nat)) : t = u := by
  have q := emod_eq_dvd.mpr (plc_mod.mp h)
  rw [Int.emod_eq_of_lt t0 t1, Int.emod_eq_of_lt u0 u1] at q
  exact q
end My

/-! Own errors whose __init__ keeps no field. -/
namespace L2
open PySem PySem.Spec PyProof.Rows
section
variable {X : Cx} {pins : List (Addr × Obj)} {σ : St} {H1 H2 : Hp} {Q : XK} {a C : Addr}
/-- such an error is let go -/
theorem end_bare {A0 A1 A2 : Heap} {ga gb : Array GenState} {da db : Drawn} {ta tb : Nat} {oa ob : OsState} (hR : Raises X (.ref C)) (I1 : Inv X pins σ H1 ⟨A0, ga, da, ta, oa⟩) (big : A0.objs.size ≤ a)
    (k : ∀ b o, A0.get? b = some o → A1.get? b = some o) (un : Un (frs X.stack) [] (upd H1 a (exo a C none)) H2 A1 A2) (hok : HOk X.prog X.w H2 A2) (ho : ob = oa) (hb : AllBare gb) (ea : H2 a = some (exo a C none))
    (q : Q (.ref C) none (del H2 a)) : MkP X pins σ Q (.ref a) ⟨A2, gb, db, tb, ob⟩ := by
  obtain ⟨t0, at0⟩ := exo_at hok ea
  have none1 : H1 a = none := I1.hok.fresh big
  obtain ⟨G, in1, out1⟩ := restrict A2 fun b => decide (b ≠ a)
  have same : ∀ b, b ≠ a → G.get? b = A2.get? b := fun b hb => in1 b (decide_eq_true hb)
  have gone : G.get? a = none := out1 a (by simp)
  have ne : ∀ {b : Addr} {o : Obj}, A0.get? b = some o → b ≠ a := fun {b o} z e => by
    have q := Heap.lt_size z
    rw [e] at q
    exact Nat.lt_irrefl _ (Nat.lt_of_lt_of_le q big)
  have free1 : ∀ {b : Addr}, b ≠ a → H1 b = none → upd H1 a (exo a C none) b = none := fun {b} hb n => (upd_ne hb).trans n
  have U : Un (frs X.stack) [] H1 (del H2 a) A0 G := by
    refine ⟨fun b o z n hf hx => ?_, fun b o z n hf hx => ?_, fun b o z n hx => ?_, fun b o z hx => ?_, fun b xs z => ?_, fun b o u z => ?_, fun b ps z => ?_⟩
    · exact (same b (ne z)).trans (un.keep b o (k b o z) (free1 (ne z) n) hf hx)
    · obtain ⟨sl, e⟩ := un.slot b o (k b o z) (free1 (ne z) n) hf hx
      exact ⟨sl, (same b (ne z)).trans e⟩
    · exact (del_ne (ne z)).trans (un.free b o (k b o z) (free1 (ne z) n) hx)
    · obtain ⟨o', e⟩ := un.there b o (k b o z) hx
      exact ⟨o', (same b (ne z)).trans e⟩
    · have b1 : b ≠ a := ne_of_none z none1
      exact (del_ne b1).trans (un.tups b xs ((upd_ne b1).trans z))
    · have b1 : b ≠ a := ne_of_none z none1
      exact (del_ne b1).trans (un.frzs b o u ((upd_ne b1).trans z))
    · have b1 : b ≠ a := ne_of_none z none1
      obtain ⟨more, e⟩ := un.tbls b ps ((upd_ne b1).trans z)
      exact ⟨more, (del_ne b1).trans e⟩
  have hok3 : HOk X.prog X.w (del H2 a) G := fun b o z => by
    have b1 : b ≠ a := fun e => by
      subst e
      rw [del_same] at z
      cases z
    rw [del_ne b1] at z
    have own1 : ∀ {c : Addr}, H2 c = some (.own b) → c ≠ a := fun {c} hc => at_ne ea hc exo_own
    refine (hok b o z).stay (fun c v hc y => ?_) (fun c hc => (del_ne (own1 hc)).trans hc) (fun c xs hc => (del_ne (at_ne ea hc exo_tup)).trans hc)
    have c1 : c ≠ a := by
      rcases hc with e | e
      · rw [e]
        exact b1
      · exact own1 e
    exact (same c c1).trans y
  have J : Inv X pins σ (del H2 a) ⟨G, gb, db, tb, ob⟩ := I1.call' (ch := []) ho U hok3 hb (fun b z => absurd z (by simp))
  refine ⟨a, _, _, ⟨G, gb, db, tb, ob⟩, _, .ref C, none, rfl, J, fun b o z => ?_, gone, at0, ⟨rfl, rfl⟩, rfl, rfl, del_same, rfl, hb, hR, q⟩
  by_cases b1 : b = a
  · subst b1
    rw [gone] at z
    cases z
  · exact (same b b1).symm.trans z
end
def tMkN (C : Addr) (sp : Sp) (ta : TA) : St → Hp → XK → Prop := fun σ H Q => ta σ H fun vs H1 => vs.length ≤ 1000 ∧ ∀ a, H1 a = none → sp (.ref a :: (vs ++ [])) (upd H1 a (exo a C none))
  (fun v H2 => v = .non ∧ H2 a = some (exo a C none) ∧ Q (.ref C) none (del H2 a)) (fun _ _ _ => False)
section
variable {X : Cx} {e : Expr} {es : List Expr} {ta : TA} {p pos : Pos}
theorem pmk_bare {CX : CXT} {x : Str} {C fI : Addr} {k : Nat} {fd : FuncData} {ps : List Str} {sp : Sp} (T : OexC X.K C) (iC : PySem.W.findIn X.K (.ref C) "__init__" = some (some (.ref fI)))
    (tI : PySem.W.typeIn X.K (.ref fI) = some (.type "function")) (F1 : FnOk X.prog X.w X.K X.mg X.base CX k fI fd ps sp) (hr : Room (k + 1) X.A) (hb : Binds X.K fd ps []) (hx : Passes CX X (fun _ _ _ => False)) (hg : Gl X x)
    (hm : X.mg x = some (.ref C)) (ha : PA X (e :: es) ta) (hdb : (x == ("__debug__" : Str)) = false := by decide) (he : starEach (e :: es) X.env = (false, eval e X.env) :: starEach es X.env := by rfl)
    (hpl : (backTo pos (starEach es X.env)).any (·.1) = false := by rfl) : PMk X (.Call (.Name x p) (e :: es) [] pos) (tMkN C sp ta) := by
  intro pins s σ H Q I h
  obtain ⟨c1, c2, c3, c4, c5, c6, c7, c8, c9, ca, cb, cc, cd, ce, cf, atC, bases⟩ := T.cls
  refine wpAny_Call_Name_kw (ld_glob I hg hm (PySem.W.callWith_K (h₀ := X.base) I.ok.mod.kin T.kC (thn (ha.run pos pins s σ H _ I h) fun us s1 hh => ?_) he hpl) hdb)
  obtain ⟨vs, H1, I1, r1, hz, q1⟩ := hh
  refine ⟨I1.kIn, ?_⟩
  show wpAny _ _ (call (.ref C) us) _ _ _
  obtain ⟨A0, g, dr, tk, os⟩ := s1
  have big : A0.objs.size ≤ A0.objs.size + 1 := Nat.le_succ _
  have hq := q1 (A0.objs.size + 1) (I1.hok.fresh big)
  have kk : ∀ b o, A0.get? b = some o → ((A0.push (PySem.W.kdv_tup us)).push (PySem.HandSPX.excO C A0.objs.size)).get? b = some o := fun b o z => Heap.get?_push_of_some _ (Heap.get?_push_of_some _ z)
  have at1 : ((A0.push (PySem.W.kdv_tup us)).push (PySem.HandSPX.excO C A0.objs.size)).get? (A0.objs.size + 1) = some (PySem.HandSPX.excO C A0.objs.size) := by heap_get
  have I2 : Inv X pins σ (upd H1 (A0.objs.size + 1) (exo (A0.objs.size + 1) C none)) ⟨(A0.push (PySem.W.kdv_tup us)).push (PySem.HandSPX.excO C A0.objs.size), g, dr, tk, os⟩ :=
    I1.laid (t' := tk) (a := A0.objs.size + 1) (o := exo (A0.objs.size + 1) C none) (h' := (A0.push (PySem.W.kdv_tup us)).push (PySem.HandSPX.excO C A0.objs.size)) kk big (exo_ok at1)
  have r2 : Vals (V.ref (A0.objs.size + 1) :: (vs ++ [])) (Value.ref (A0.objs.size + 1) :: (us ++ [])) := .cons rfl (r1.append .nil)
  have len2 : (Value.ref (A0.objs.size + 1) :: us ++ []).length = ps.length := r2.length.symm.trans (F1.len _ _ _ _ hq)
  have bb := hb ⟨(A0.push (PySem.W.kdv_tup us)).push (PySem.HandSPX.excO C A0.objs.size), g, dr, tk, os⟩ (Value.ref (A0.objs.size + 1) :: us) I2.kIn len2
  rw [List.cons_append] at bb
  have small : us.length ≤ sizeLine := by
    have e1 := Paired.length r1
    rw [sizeLine_eq]
    omega
  refine wpAny_call (PySem.HandSPX.call_own F.excBase_ValueError (fun Y => PySem.HandSPX.refsVE_contains Y c5 bases) (I1.kIn _ _ atC) (PySem.W.looks_findIn I1.kIn iC) (fun self => PySem.W.bind_fn I1.kIn self tI) small (codeAny_mono (F1.run _ X.stack _ _ ⟨Value.ref (A0.objs.size + 1) :: us, []⟩ (Value.ref (A0.objs.size + 1) :: (us ++ [])) _ _ (fun _ _ _ => False) (hr.make C us []) (I2.env0.make C us []) bb r2 hq) fun r s' hq' => ?_))
  match r, hq' with
  | .error er, z => exact hx pins σ _ _ er s' I2 z
  | .ok (.ret u), ⟨v, H2, os2, bare2, un2, hok2, rv, ev, ea, q2⟩ =>
    subst ev
    obtain ⟨A2, g2, d2, t2, os'⟩ := s'
    exact ⟨rv, end_bare (raises_own T.exC T.tyC) I1 big kk un2 hok2 os2 bare2 ea q2⟩
  | .ok .next, z => exact z.elim
  | .ok .brk, z => exact z.elim
  | .ok .cont, z => exact z.elim
end
end L2
namespace My
open PySem PySem.Spec PyProof.Rows L2
def sp_excN (C : Addr) : Sp := fun vs H Q _ => ∃ (a : Addr) (w : V), vs = [.ref a, w] ∧ H a = some (exo a C none) ∧ Q .non H
theorem made_bare {C : Addr} {w : V} {H : Hp} {Q : XK} (k : ∀ H', Same H H' → Q (.ref C) none H') :
    ∀ a, H a = none → sp_excN C (.ref a :: ([w] ++ [])) (upd H a (exo a C none)) (fun v H2 => v = .non ∧ H2 a = some (exo a C none) ∧ Q (.ref C) none (del H2 a)) (fun _ _ _ => False) := by
  intro a ha
  refine ⟨a, w, rfl, upd_same, rfl, upd_same, k _ fun b o q => ?_⟩
  have b1 := ne_of_none q ha
  rw [del_ne b1, upd_ne b1]
  exact q
end My

/-! Own errors right under OverflowError or LookupError. -/
namespace L2
open PySem PySem.Spec PyProof.Rows
/-- a class of Python's that an own error may stand right under: its maker, its starter, all above -/
structure Under (nw ini : String) (tl : List Value) : Prop where
  base : ∃ B, ExcBaseFacts B nw ini tl
  pass : ∀ me : Value, refuseLoop me (Str.ofString "__setattr__") tl = pure ()
  has : tl.contains (.type "object") = true
abbrev tlOv : List Value := [.type "OverflowError", .type "ArithmeticError", .type "Exception", .type "BaseException", .type "object"]
abbrev tlLk : List Value := [.type "LookupError", .type "Exception", .type "BaseException", .type "object"]
theorem underOv : Under "OverflowError.__new__" "OverflowError.__init__" tlOv := ⟨⟨_, F.excBase_OverflowError⟩, fun me => F.store_OverflowError.passes me, by decide +kernel⟩
theorem underLk : Under "LookupError.__new__" "LookupError.__init__" tlLk := ⟨⟨_, F.excBase_LookupError⟩, fun me => F.store_LookupError.passes me, by decide +kernel⟩
/-- what the written part says of such a class -/
structure OvC (K : PySem.W.Frag) (C : Addr) (nw : String) (tl : List Value) : Prop where
  at_ : ∃ nm q N bs sn sub ab col dd c0 c1 c2 c3 c5, K.lookup C = some (excClassObj nm q C N bs tl true sn sub ab col dd c0 c1 c2 c3 c5 nw)
  sa : PySem.W.findIn K (.ref C) "__setattr__" = some (some (.builtin "object.__setattr__"))
  exC : PySem.W.subIn K (.ref C) (.type "BaseException") = some true
  tyC : PySem.W.typeIn K (.ref C) = some (.type "type")
  kC : PySem.W.keepIn K (.ref C) = true
section
open PySem.W PySem.Calls PySem.HandSPX Builtin Builtin.ObjectAttr
variable {prog : Program} {w : World} {A : Around} {R : Result → Shared → Prop} {h0 : Heap} {ga : Array GenState} {dr : Drawn} {tk : Nat} {os : OsState}
theorem field_first {K : PySem.W.Frag} {f : Str} {tok : Tok} {val : Value} {e C : Addr} {ps : Array Value} {cd : ClassData} {tl : List Value} (X : K.In h0) (ate : h0.get? e = some { cls := .ref C, data := .fields ps }) (hc : PySem.W.clsIn K C = some cd)
    (pass : ∀ me : Value, refuseLoop me (Str.ofString "__setattr__") tl = pure ()) (has : tl.contains (.type "object") = true) (hm : cd.mro = .ref C :: tl) (dict : cd.hasDict = true) (no : PySem.W.findIn K (.ref C) f = some none)
    (k : ∀ G tk2 dx, (∀ b o, b ≠ e → h0.get? b = some o → G.get? b = some o) → h0.objs.size ≤ dx → dx ≠ e → G.get? e = some { cls := .ref C, dict := some dx, data := .fields ps } →
      G.Ns1 dx (fun y => if y = f then some val else none) → R (.ok (.ret .none)) ⟨G, ga, dr, tk2, os⟩) :
    codeAny (model prog w) A (.call (.builtin "object.__setattr__") ⟨[.ref e, .str f tok, val], []⟩) R ⟨h0, ga, dr, tk, os⟩ := by
  have J : PySem.W.InstAt h0 e { cls := .ref C, data := .fields ps } C none := ⟨ate, rfl, rfl, trivial⟩
  have S := F.store_object
  have obj : cd.mro.contains (.type "object") = true := by
    rw [hm, List.contains_cons, has, Bool.or_true]
  have emp : cd.mro.isEmpty = false := by
    rw [hm]
    rfl
  have far : e ≠ h0.objs.size := Nat.ne_of_lt (Heap.lt_size ate)
  have kind : Looks (model prog w) h0 (isInstance (.ref e) (.type "object")) true := J.type.andThen (looks_mroIn X (by
    unfold mroIn
    rw [hc, Option.bind_some, if_neg (by rw [emp]; decide), obj]))
  refine codeAny_call_builtin S.slot.plain S.entry (@check_slot (model prog w) _ _ ⟨h0, ga, dr, tk, os⟩ "object.__setattr__" "object" "__setattr__" (.ref e) [.str f tok, val] [] _ S.kind S.split kind (S.args (.ref e) (.str f tok) val) ?_)
  have lM : Looks (model prog w) h0 (mroOf (.ref C)) cd.mro := (looks_clsIn X hc).andThen .now
  have lS : Looks (model prog w) h0 (storeTaker? none) none := .now
  have lC : Looks (model prog w) h0 (classData C) cd := looks_clsIn X hc
  rw [osa_eq, refuse_eq]
  refine wpAny_bind (wpAny_bind (J.type.at (wpAny_bind (lM.at ?_))))
  rw [hm, refuseLoop_ref, pass]
  refine wpAny_pure (wpAny_bind (J.type.at (wpAny_bind ((looks_findIn X no).at (wpAny_bind (lS.at ?_))))))
  show wpAny _ _ (storeInOwnDict (.ref e) (.ref C) (.str f tok) f val false) _ _ _
  obtain ⟨a1, a2, a3, a4, a5, a6, a7, a8, a9, b1, b2⟩ := cd
  dsimp only at dict
  subst dict
  unfold storeInOwnDict ownDictForStores
  repeat (first | with_reducible refine store_in_new ?_ ?_ | with_reducible refine wpAny_loadPart_at ate ?_ | with_reducible refine lC.at ?_ | wp_step)
  · exact ⟨_, #[], _, (Heap.get?_update_ne _ _ _ _ far.symm).trans (Heap.get?_push_at rfl rfl), rfl, fun z hz => absurd hz (by simp), fun _ => rfl⟩
  · intro G tk2 hN hS
    have ate2 : (h0.push { cls := .type "dict", data := .dict #[] }).get? e = some { cls := .ref C, data := .fields ps } := Heap.get?_push_of_some _ ate
    refine k G tk2 h0.objs.size (fun b o hb ho => ?_) (Nat.le_refl _) far.symm ?_ hN
    · exact (hS.2 b (Nat.ne_of_lt (Heap.lt_size ho))).trans ((Heap.get?_update_ne _ _ _ _ hb).trans (Heap.get?_push_of_some _ ho))
    · exact (hS.2 e far).trans (Heap.get?_update_self _ ate2 rfl)
end
section
variable {X : Cx} {pins : List (Addr × Obj)} {σ : St} {H : Hp} {s : Shared} {e C : Addr} {f nw ini : Str} {y : V} {u : Value} {Q : Unit → Shared → Prop} {E : Value → Shared → Prop} {A : Around} {tl : List Value}
/-- self.f = y, the first field of such an error -/
theorem ov_field {nw ini : String} (U : Under nw ini tl) (T : OvC X.K C nw tl) (I : Inv X pins σ H s) (at_e : H e = some (exo e C none)) (no : PySem.W.findIn X.K (.ref C) f = some none) (ry : RelV y u)
    (k : ∀ dx s', H dx = none → dx ≠ e → Inv X pins σ (upd (upd H dx (exd dx [(f, y)])) e (exo e C (some dx))) s' → Q () s') : wpAny (model X.prog X.w) A (setAttr (.ref e) f u) Q E s := by
  obtain ⟨d1, d2, d3, d4, d5, d6, d7, d8, d9, c0, c1, c2, c3, c5, look⟩ := T.at_
  have hc : PySem.W.clsIn X.K C = some { name := d1, bases := d4, mro := .ref C :: tl, ns := d3, qualname := d2, hasDict := true, slotNames := d5, subclasses := d6, abstract := d7, collection := d8, hasDel := false } := by
    unfold PySem.W.clsIn
    rw [look] <;> rfl
  obtain ⟨t0, ate⟩ := exo_at I.hok at_e
  obtain ⟨h0, ga, dr, tk, os⟩ := s
  refine PySem.W.set_plain I.kIn (ox := { cls := .ref C, dict := none, data := .fields #[.ref t0, .none, .none, .none, .bool false, .none] }) (od := none) ⟨ate, rfl, rfl, trivial⟩ T.sa ?_
  refine field_first I.kIn ate hc U.pass U.has rfl rfl no fun G tk2 dx keep big apart now ns => ?_
  have free : H dx = none := I.hok.fresh big
  have nd : ∀ {b : Addr} {o : Obj}, h0.get? b = some o → b ≠ dx := fun {b o} z => Nat.ne_of_lt (Nat.lt_of_lt_of_le (Heap.lt_size z) big)
  have ne : ∀ {b : Addr}, H b = none → b ≠ e := fun {b} n z => by
    rw [z, at_e] at n
    cases n
  have un : Un X.fs [] H (upd (upd H dx (exd dx [(f, y)])) e (exo e C (some dx))) h0 G := by
    refine ⟨fun b o z n _ _ => keep b o (ne n) z, fun b o z n _ _ => ⟨o.slots, keep b o (ne n) z⟩, fun b o z n _ => ?_, fun b o z _ => ?_, fun b xs z => ?_, fun b o v z => ?_, fun b ps z => ⟨#[], ?_⟩⟩
    · rw [upd_ne (ne n), upd_ne (nd z)]
      exact n
    · by_cases hb : b = e
      · exact ⟨_, by rw [hb]; exact now⟩
      · exact ⟨o, keep b o hb z⟩
    · rw [upd_ne (at_ne at_e z exo_tup), upd_ne (ne_of_none z free)]
      exact z
    · rw [upd_ne (at_ne at_e z exo_frz), upd_ne (ne_of_none z free)]
      exact z
    · rw [upd_ne (at_ne at_e z exo_tbl), upd_ne (ne_of_none z free), z]
      simp
  refine k dx _ free apart (I.un (t' := tk2) un fun b o z => ?_)
  by_cases hb : b = e
  · subst hb
    rw [upd_same] at z
    cases z
    exact exo_ok now
  rw [upd_ne hb] at z
  by_cases hd : b = dx
  · subst hd
    rw [upd_same] at z
    cases z
    exact exd_ok ns (relO_put (fs := []) ry fun g => True.intro)
  rw [upd_ne hd] at z
  refine (I.hok b o z).stay (fun c v hc w => keep c v ?_ w) (fun c hc => ?_) fun c xs hc => ?_
  · rcases hc with r | r
    · rw [r]
      exact hb
    · exact at_ne at_e r exo_own
  · rw [upd_ne (at_ne at_e hc exo_own), upd_ne (ne_of_none hc free)]
    exact hc
  · rw [upd_ne (at_ne at_e hc exo_tup), upd_ne (ne_of_none hc free)]
    exact hc
/-- the starter of the class above -/
theorem ov_start {nw ini : String} {us : List Value} {Q : Value → Shared → Prop} (U : Under nw ini tl) (T : OvC X.K C nw tl) (I : Inv X pins σ H s) (at_e : H e = some (exo e C none)) (small : us.length ≤ sizeLine) (k : ∀ s', Inv X pins σ H s' → Q .none s') :
    wpAny (model X.prog X.w) A (call (.builtin ini) (.ref e :: us)) Q E s := by
  obtain ⟨d1, d2, d3, d4, d5, d6, d7, d8, d9, c0, c1, c2, c3, c5, look⟩ := T.at_
  obtain ⟨B, base⟩ := U.base
  obtain ⟨t0, ate⟩ := exo_at I.hok at_e
  obtain ⟨h0, ga, dr, tk, os⟩ := s
  refine wpAny_call (PySem.HandSPX.init_base base (fun Y => rfl) (I.kIn _ _ look) ate small fun G t2 keep now => ?_)
  have J := I.write (t' := tk) (x := e) (e := e) (o := exo e C none) (by rw [at_e]; exact True.intro) (.inl rfl) keep ⟨_, now⟩ (exo_ok now)
  have same : upd H e (exo e C none) = H := funext fun b => by
    by_cases hb : b = e
    · rw [hb, upd_same, at_e]
    · rw [upd_ne hb]
  rw [same] at J
  exact k _ J
end
/-! ### readings and rules -/
/-- Above.__init__(self, ..) -/
def tOvI (K : PySem.W.Frag) (nw : String) (tl : List Value) (ta : TA) : TE := fun σ H Q => ta σ H fun vs H1 => ∃ (e C : Addr) (ws : List V), vs = .ref e :: ws ∧ ws.length ≤ 1000 ∧ OvC K C nw tl ∧ H1 e = some (exo e C none) ∧ Q .non H1
/-- self.f = .., the first field -/
def tOvF (K : PySem.W.Frag) (nw : String) (tl : List Value) (f : Str) (to te : TE) : TS := fun D σ H => te σ H fun y H1 => to σ H1 fun x H2 => ∃ e C : Addr, x = .ref e ∧ OvC K C nw tl ∧ PySem.W.findIn K (.ref C) f = some none ∧
  H2 e = some (exo e C none) ∧ ∀ dx, H2 dx = none → dx ≠ e → D.nx σ (upd (upd H2 dx (exd dx [(f, y)])) e (exo e C (some dx)))
theorem typ_Ov : typeOf (.type "OverflowError") = pure (.type "type") := by kernel_rfl
theorem typ_Lk : typeOf (.type "LookupError") = pure (.type "type") := by kernel_rfl
section
variable {X : Cx} {o e : Expr} {es : List Expr} {to te : TE} {ta : TA} {f : Str} {p p' p1 p2 pos : Pos} {tl : List Value} {nw ini : String}
theorem pe_ovinit {pl : Sem Bool} (hg : Gl X "OverflowError") (hm : X.mg "OverflowError" = none) (vV : PySem.W.findCls X.K (.type "OverflowError") (.type "type") "__init__" = some (.val (.builtin "OverflowError.__init__"))) (ha : PA X (e :: es) ta)
    (hc : eval (.Call (.Attribute (.Name "OverflowError" p1) "__init__" p2) (e :: es) [] pos) X.env = (do
      let ov ← eval (.Name "OverflowError" p1) X.env
      standAt p2.atName
      let (f, first) ← holding [ov] (getMethod ov "__init__" pl)
      callWith pos f first (backTo pos (starEach (e :: es) X.env)) (backToKw pos (keywordEach [] X.env))) := by rfl)
    (he : starEach (e :: es) X.env = (false, eval e X.env) :: starEach es X.env := by rfl) (hpl : (backTo pos (starEach es X.env)).any (·.1) = false := by rfl) :
    PE X (.Call (.Attribute (.Name "OverflowError" p1) "__init__" p2) (e :: es) [] pos) (tOvI X.K "OverflowError.__new__" tlOv ta) := by
  refine ⟨fun pins s σ H Q I h => PySem.W.methodCall_KW (ld_blt I hg hm Boot.«OverflowError» ?_ (by decide) (by decide)) hc⟩
  obtain ⟨mm, fr⟩ := I.fr
  refine PySem.W.method_type fr I.ok.mod.kin typ_Ov (by decide +kernel) vV (by decide +kernel) ?_
  show wpAny _ _ (callWith pos (Value.builtin "OverflowError.__init__") [] (backTo pos (starEach (e :: es) X.env)) []) _ _ _
  refine callWith_method1 (thn (ha.run pos pins _ σ H _ (I.tok _) h) fun us s1 ⟨vs, H1, I1, r1, a, C, ws, ev, small, T, ea, q⟩ => ?_) he hpl
  subst ev
  cases r1 with
  | @cons _ u0 _ ur ra rest =>
    obtain rfl : u0 = Value.ref a := ra
    have len : ur.length ≤ sizeLine := by
      rw [← Paired.length rest, sizeLine_eq]
      omega
    exact ov_start underOv T I1 ea len fun s' J => ⟨.non, H1, J, rfl, q⟩
theorem pe_lkinit {pl : Sem Bool} (hg : Gl X "LookupError") (hm : X.mg "LookupError" = none) (vV : PySem.W.findCls X.K (.type "LookupError") (.type "type") "__init__" = some (.val (.builtin "LookupError.__init__"))) (ha : PA X (e :: es) ta)
    (hc : eval (.Call (.Attribute (.Name "LookupError" p1) "__init__" p2) (e :: es) [] pos) X.env = (do
      let ov ← eval (.Name "LookupError" p1) X.env
      standAt p2.atName
      let (f, first) ← holding [ov] (getMethod ov "__init__" pl)
      callWith pos f first (backTo pos (starEach (e :: es) X.env)) (backToKw pos (keywordEach [] X.env))) := by rfl)
    (he : starEach (e :: es) X.env = (false, eval e X.env) :: starEach es X.env := by rfl) (hpl : (backTo pos (starEach es X.env)).any (·.1) = false := by rfl) :
    PE X (.Call (.Attribute (.Name "LookupError" p1) "__init__" p2) (e :: es) [] pos) (tOvI X.K "LookupError.__new__" tlLk ta) := by
  refine ⟨fun pins s σ H Q I h => PySem.W.methodCall_KW (ld_blt I hg hm Boot.«LookupError» ?_ (by decide) (by decide)) hc⟩
  obtain ⟨mm, fr⟩ := I.fr
  refine PySem.W.method_type fr I.ok.mod.kin typ_Lk (by decide +kernel) vV (by decide +kernel) ?_
  show wpAny _ _ (callWith pos (Value.builtin "LookupError.__init__") [] (backTo pos (starEach (e :: es) X.env)) []) _ _ _
  refine callWith_method1 (thn (ha.run pos pins _ σ H _ (I.tok _) h) fun us s1 ⟨vs, H1, I1, r1, a, C, ws, ev, small, T, ea, q⟩ => ?_) he hpl
  subst ev
  cases r1 with
  | @cons _ u0 _ ur ra rest =>
    obtain rfl : u0 = Value.ref a := ra
    have len : ur.length ≤ sizeLine := by
      rw [← Paired.length rest, sizeLine_eq]
      omega
    exact ov_start underLk T I1 ea len fun s' J => ⟨.non, H1, J, rfl, q⟩
theorem ps_ovf {ini : String} (U : Under nw ini tl) (ho : PE X o to) (he : PE X e te) (hs : swapsWith e (some (.Attribute o f p')) pos.line X.env = pure false := by rfl) : PS X (.Assign [.Attribute o f p'] e pos) (tOvF X.K nw tl f to te) :=
  ⟨fun pins s σ H D I h => plainObj_wpAny_Assign_Attribute (thn (he.run pins s σ H _ I h) fun v s1 ⟨y, H1, I1, r1, q1⟩ => thn (ho.run pins s1 σ H1 _ I1 q1) fun u s2 ⟨x, H2, I2, r2, a, C, ex, T, no, ea, q⟩ => by
    subst ex
    obtain rfl : u = Value.ref a := r2
    exact ov_field U T I2 ea no r1 fun dx s' n ne J => ⟨σ, _, J, q dx n ne⟩) hs⟩
/-- C(e, ..) of an error with a field -/
theorem pmk_ov {CX : CXT} {x : Str} {C fI : Addr} {k : Nat} {fd : FuncData} {ps : List Str} {sp : Sp} {ini : String} (U : Under nw ini tl) (T : OvC X.K C nw tl) (iC : PySem.W.findIn X.K (.ref C) "__init__" = some (some (.ref fI)))
    (tI : PySem.W.typeIn X.K (.ref fI) = some (.type "function")) (F1 : FnOk X.prog X.w X.K X.mg X.base CX k fI fd ps sp) (hr : Room (k + 1) X.A) (hb : Binds X.K fd ps []) (hx : Passes CX X (fun _ _ _ => False)) (hg : Gl X x)
    (hm : X.mg x = some (.ref C)) (ha : PA X (e :: es) ta) (hdb : (x == ("__debug__" : Str)) = false := by decide) (he : starEach (e :: es) X.env = (false, eval e X.env) :: starEach es X.env := by rfl)
    (hpl : (backTo pos (starEach es X.env)).any (·.1) = false := by rfl) : PMk X (.Call (.Name x p) (e :: es) [] pos) (tMkO C sp [] ta) := by
  intro pins s σ H Q I h
  obtain ⟨d1, d2, d3, d4, d5, d6, d7, d8, d9, c0, c1, c2, c3, c5, look⟩ := T.at_
  obtain ⟨B, base⟩ := U.base
  refine wpAny_Call_Name_kw (ld_glob I hg hm (PySem.W.callWith_K (h₀ := X.base) I.ok.mod.kin T.kC (thn (ha.run pos pins s σ H _ I h) fun us s1 hh => ?_) he hpl) hdb)
  obtain ⟨vs, H1, I1, r1, hz, q1⟩ := hh
  refine ⟨I1.kIn, ?_⟩
  show wpAny _ _ (call (.ref C) us) _ _ _
  obtain ⟨A0, g, dr, tk, os⟩ := s1
  have big : A0.objs.size ≤ A0.objs.size + 1 := Nat.le_succ _
  have hq := q1 (A0.objs.size + 1) (I1.hok.fresh big)
  have kk : ∀ b o, A0.get? b = some o → ((A0.push (PySem.W.kdv_tup us)).push (PySem.HandSPX.excO C A0.objs.size)).get? b = some o := fun b o z => Heap.get?_push_of_some _ (Heap.get?_push_of_some _ z)
  have at1 : ((A0.push (PySem.W.kdv_tup us)).push (PySem.HandSPX.excO C A0.objs.size)).get? (A0.objs.size + 1) = some (PySem.HandSPX.excO C A0.objs.size) := by heap_get
  have I2 : Inv X pins σ (upd H1 (A0.objs.size + 1) (exo (A0.objs.size + 1) C none)) ⟨(A0.push (PySem.W.kdv_tup us)).push (PySem.HandSPX.excO C A0.objs.size), g, dr, tk, os⟩ :=
    I1.laid (t' := tk) (a := A0.objs.size + 1) (o := exo (A0.objs.size + 1) C none) (h' := (A0.push (PySem.W.kdv_tup us)).push (PySem.HandSPX.excO C A0.objs.size)) kk big (exo_ok at1)
  have r2 : Vals (V.ref (A0.objs.size + 1) :: (vs ++ [])) (Value.ref (A0.objs.size + 1) :: (us ++ [])) := .cons rfl (r1.append .nil)
  have len2 : (Value.ref (A0.objs.size + 1) :: us ++ []).length = ps.length := r2.length.symm.trans (F1.len _ _ _ _ hq)
  have bb := hb ⟨(A0.push (PySem.W.kdv_tup us)).push (PySem.HandSPX.excO C A0.objs.size), g, dr, tk, os⟩ (Value.ref (A0.objs.size + 1) :: us) I2.kIn len2
  rw [List.cons_append] at bb
  have small : us.length ≤ sizeLine := by
    have e1 := Paired.length r1
    rw [sizeLine_eq]
    omega
  refine wpAny_call (PySem.HandSPX.call_own base (fun Y => rfl) (I1.kIn _ _ look) (PySem.W.looks_findIn I1.kIn iC) (fun self => PySem.W.bind_fn I1.kIn self tI) small (codeAny_mono (F1.run _ X.stack _ _ ⟨Value.ref (A0.objs.size + 1) :: us, []⟩ (Value.ref (A0.objs.size + 1) :: (us ++ [])) _ _ (fun _ _ _ => False) (hr.make C us []) (I2.env0.make C us []) bb r2 hq) fun r s' hq' => ?_))
  match r, hq' with
  | .error er, z => exact hx pins σ _ _ er s' I2 z
  | .ok (.ret u), ⟨v, H2, os2, bare2, un2, hok2, rv, ev, d, fs, ea, ed, hd1, q2⟩ =>
    subst ev
    obtain ⟨A2, g2, d2, t2, os'⟩ := s'
    exact ⟨rv, mk_end (raises_own T.exC T.tyC) I1 big kk un2 hok2 os2 bare2 ea ed hd1 q2⟩
  | .ok .next, z => exact z.elim
  | .ok .brk, z => exact z.elim
  | .ok .cont, z => exact z.elim
/-- C(e, ..) of an error without fields -/
theorem pmk_ovN {CX : CXT} {x : Str} {C fI : Addr} {k : Nat} {fd : FuncData} {ps : List Str} {sp : Sp} {ini : String} (U : Under nw ini tl) (T : OvC X.K C nw tl) (iC : PySem.W.findIn X.K (.ref C) "__init__" = some (some (.ref fI)))
    (tI : PySem.W.typeIn X.K (.ref fI) = some (.type "function")) (F1 : FnOk X.prog X.w X.K X.mg X.base CX k fI fd ps sp) (hr : Room (k + 1) X.A) (hb : Binds X.K fd ps []) (hx : Passes CX X (fun _ _ _ => False)) (hg : Gl X x)
    (hm : X.mg x = some (.ref C)) (ha : PA X (e :: es) ta) (hdb : (x == ("__debug__" : Str)) = false := by decide) (he : starEach (e :: es) X.env = (false, eval e X.env) :: starEach es X.env := by rfl)
    (hpl : (backTo pos (starEach es X.env)).any (·.1) = false := by rfl) : PMk X (.Call (.Name x p) (e :: es) [] pos) (tMkN C sp ta) := by
  intro pins s σ H Q I h
  obtain ⟨d1, d2, d3, d4, d5, d6, d7, d8, d9, c0, c1, c2, c3, c5, look⟩ := T.at_
  obtain ⟨B, base⟩ := U.base
  refine wpAny_Call_Name_kw (ld_glob I hg hm (PySem.W.callWith_K (h₀ := X.base) I.ok.mod.kin T.kC (thn (ha.run pos pins s σ H _ I h) fun us s1 hh => ?_) he hpl) hdb)
  obtain ⟨vs, H1, I1, r1, hz, q1⟩ := hh
  refine ⟨I1.kIn, ?_⟩
  show wpAny _ _ (call (.ref C) us) _ _ _
  obtain ⟨A0, g, dr, tk, os⟩ := s1
  have big : A0.objs.size ≤ A0.objs.size + 1 := Nat.le_succ _
  have hq := q1 (A0.objs.size + 1) (I1.hok.fresh big)
  have kk : ∀ b o, A0.get? b = some o → ((A0.push (PySem.W.kdv_tup us)).push (PySem.HandSPX.excO C A0.objs.size)).get? b = some o := fun b o z => Heap.get?_push_of_some _ (Heap.get?_push_of_some _ z)
  have at1 : ((A0.push (PySem.W.kdv_tup us)).push (PySem.HandSPX.excO C A0.objs.size)).get? (A0.objs.size + 1) = some (PySem.HandSPX.excO C A0.objs.size) := by heap_get
  have I2 : Inv X pins σ (upd H1 (A0.objs.size + 1) (exo (A0.objs.size + 1) C none)) ⟨(A0.push (PySem.W.kdv_tup us)).push (PySem.HandSPX.excO C A0.objs.size), g, dr, tk, os⟩ :=
    I1.laid (t' := tk) (a := A0.objs.size + 1) (o := exo (A0.objs.size + 1) C none) (h' := (A0.push (PySem.W.kdv_tup us)).push (PySem.HandSPX.excO C A0.objs.size)) kk big (exo_ok at1)
  have r2 : Vals (V.ref (A0.objs.size + 1) :: (vs ++ [])) (Value.ref (A0.objs.size + 1) :: (us ++ [])) := .cons rfl (r1.append .nil)
  have len2 : (Value.ref (A0.objs.size + 1) :: us ++ []).length = ps.length := r2.length.symm.trans (F1.len _ _ _ _ hq)
  have bb := hb ⟨(A0.push (PySem.W.kdv_tup us)).push (PySem.HandSPX.excO C A0.objs.size), g, dr, tk, os⟩ (Value.ref (A0.objs.size + 1) :: us) I2.kIn len2
  rw [List.cons_append] at bb
  have small : us.length ≤ sizeLine := by
    have e1 := Paired.length r1
    rw [sizeLine_eq]
    omega
  refine wpAny_call (PySem.HandSPX.call_own base (fun Y => rfl) (I1.kIn _ _ look) (PySem.W.looks_findIn I1.kIn iC) (fun self => PySem.W.bind_fn I1.kIn self tI) small (codeAny_mono (F1.run _ X.stack _ _ ⟨Value.ref (A0.objs.size + 1) :: us, []⟩ (Value.ref (A0.objs.size + 1) :: (us ++ [])) _ _ (fun _ _ _ => False) (hr.make C us []) (I2.env0.make C us []) bb r2 hq) fun r s' hq' => ?_))
  match r, hq' with
  | .error er, z => exact hx pins σ _ _ er s' I2 z
  | .ok (.ret u), ⟨v, H2, os2, bare2, un2, hok2, rv, ev, ea, q2⟩ =>
    subst ev
    obtain ⟨A2, g2, d2, t2, os'⟩ := s'
    exact ⟨rv, end_bare (raises_own T.exC T.tyC) I1 big kk un2 hok2 os2 bare2 ea q2⟩
  | .ok .next, z => exact z.elim
  | .ok .brk, z => exact z.elim
  | .ok .cont, z => exact z.elim
end
end L2
namespace My
open PySem PySem.Spec PyProof.Rows L2
/-- an own error right under one of Python's -/
structure ExcO (K : PySem.W.Frag) (mg : Str → Option Value) (name qual fld : Str) (st : Stmt) (nw : String) (tl : List Value) where
  C : Addr
  f : Addr
  d : FuncData
  m : mg name = some (.ref C)
  ox : OvC K C nw tl
  iC : PySem.W.findIn K (.ref C) "__init__" = some (some (.ref f))
  tI : PySem.W.typeIn K (.ref f) = some (.type "function")
  F : Fun K "__init__" qual st f d
  b : Binds K d ["self", fld] []
  nf : PySem.W.findIn K (.ref C) fld = some none
  xf : XfC K C
  te : PySem.W.exmOne K (.ref C) (.ref C) = some true
def exo_mk {K : PySem.W.Frag} {h : Heap} {mg : Str → Option Value} {name qual fld : Str} {st : Stmt} {nw : String} {tl : List Value} (X : K.In h) (G : h.Ns mainGlobals mg) {C f : Addr} {d : FuncData} {nm q : Str} {N : Addr} {bs : List Value} {sn : List Str}
    {sub : List Value} {ab : Bool} {col : Option Bool} {dd : Option Addr} {c0 c1 c2 c3 c5 : Option Value} (F : Fun K "__init__" qual st f d) (b : Binds K d ["self", fld] []) (aC : PySem.W.nsIn K mainGlobals name = some (some (.ref C)))
    (look : K.lookup C = some (excClassObj nm q C N bs tl true sn sub ab col dd c0 c1 c2 c3 c5 nw)) (sa : PySem.W.findIn K (.ref C) "__setattr__" = some (some (.builtin "object.__setattr__")))
    (ga : PySem.W.findIn K (.ref C) "__getattribute__" = some (some (.builtin "BaseException.__getattribute__"))) (gg : PySem.W.findIn K (.ref C) "__getattr__" = some none) (nb : PySem.W.findIn K (.ref C) fld = some none)
    (ini : PySem.W.findIn K (.ref C) "__init__" = some (some (.ref f))) (ti : PySem.W.typeIn K (.ref f) = some (.type "function")) (kC : PySem.W.keepIn K (.ref C) = true) (eC : PySem.W.subIn K (.ref C) (.type "BaseException") = some true)
    (tC : PySem.W.typeIn K (.ref C) = some (.type "type")) (hC : PySem.W.hasDictIn K C = true) (iC : PySem.W.isClsIn K C = true) (sC : PySem.W.subIn K (.ref C) (.ref C) = some true) : ExcO K mg name qual fld st nw tl where
  C := C
  f := f
  d := d
  m := PySem.W.mg_of X G aC
  ox := ⟨⟨nm, q, N, bs, sn, sub, ab, col, dd, c0, c1, c2, c3, c5, look⟩, sa, eC, tC, kC⟩
  iC := ini
  tI := ti
  F := F
  b := b
  nf := nb
  xf := ⟨ga, gg, eC, hC⟩
  te := exm_me eC iC tC sC
end My

/-! try with two handlers, the first one with a name. -/
namespace L2
open PySem PySem.Spec PyProof.Rows
/-- an exception that has landed at its try: B is the heap ahead of it, Wo what is wished if it goes on -/
def Caught (X : Cx) (Wo : WX) (pins : List (Addr × Obj)) (a : Addr) (cls : Value) (d : Option Addr) (σ : St) (H : Hp) (s : Shared) : Prop :=
  ∃ B : Heap, HandSPX.FlyingZ B (X.env :: X.outer) a (Zc cls d) s.heap ∧ (∀ h, HandSPX.FlyingZ B (X.env :: X.outer) a (Zc cls d) h → s.heap.UpToSlots h → Inv X pins σ H { s with heap := h }) ∧
    (∀ h, HandSPX.HeldZ B (X.env :: X.outer) a (Zc cls d) X.env.locals h → s.heap.UpToSlots h → Wo cls d σ H → X.xe (.ref a) { s with heap := h }) ∧ H a = none ∧ a ≠ X.env.locals ∧ a ∉ X.fs
variable {X : Cx} {Wo : WX} {pins : List (Addr × Obj)} {a : Addr} {cls : Value} {d : Option Addr} {σ : St} {H : Hp} {s : Shared} {D : Ends}
theorem Caught.inv (c : Caught X Wo pins a cls d σ H s) : Inv X pins σ H s := by
  obtain ⟨B, fl, k, _⟩ := c
  exact k s.heap fl (Heap.UpToSlots.refl _)
/-- no handler takes it -/
theorem Caught.on (c : Caught X Wo pins a cls d σ H s) (hf : X.env.frame = some X.env.locals) (w : Wo cls d σ H) : wpAny (model X.prog X.w) X.A (handleBy (.ref a) X.env []) (SP X pins D) X.xe s := by
  obtain ⟨B, fl, _, go, _⟩ := c
  obtain ⟨_, _, _, oe, vs, T, oT, ts, he, hz, hd, h1, hr⟩ := id fl
  refine wpAny_handleBy_nil ?_
  unfold PySem.passOn
  refine wpAny_bind ?_; refine wpAny_field he hd h1 ?_
  rw [if_neg (show ¬ ((Value.ref T == Value.none) = true) by simp)]
  have last : wpAny (model X.prog X.w) X.A (setFlight (.ref a) X.env.frame) (fun _ t => wpAny (model X.prog X.w) X.A (throw (.ref a) : Sem Flow) (SP X pins D) X.xe t) X.xe s := by
    rw [hf]
    exact HandSPX.setFlight_upZ fl fun h hh up => wpAny_throw (go h hh up w)
  first | exact wpAny_bind (wpAny_pure (wpAny_bind last)) | exact wpAny_bind last
/-- the test of one handler -/
theorem Caught.test (c : Caught X Wo pins a cls d σ H s) {x : Str} {cv : Value} {np pos : Pos} {nm : Option Str} {suite : List Stmt} {hds : List ExceptHandler} (hc : Names X x cv) {b : Bool} (hb : PySem.W.exmOne X.K cls cv = some b)
    (yes : b = true → codeAny (model X.prog X.w) (X.A.mark (some (.ref a))) (.handlers (.ref a) [.ExceptHandler none nm suite pos] X.env) (fun r s₂ => match r with
      | .ok f => (match nm with | none => SP X pins D f s₂ | some n => wpAny (model X.prog X.w) X.A (do bindName X.env n .none; unbindBehindTheSuite X.env n pos) (fun _ s₃ => SP X pins D f s₃) X.xe s₂)
      | .error z => cameBackBy (model X.prog X.w) X.A X.env X.xe z s₂) s)
    (no : b = false → wpAny (model X.prog X.w) X.A (handleBy (.ref a) X.env hds) (SP X pins D) X.xe s) (ne : suite ≠ []) :
    wpAny (model X.prog X.w) X.A (handleBy (.ref a) X.env (.ExceptHandler (some (.Name x np)) nm suite pos :: hds)) (SP X pins D) X.xe s := by
  have I := c.inv
  obtain ⟨B, fl, k, _, na, nL, nF⟩ := c
  obtain ⟨oe, vs, he, hz, hd⟩ := fl.there
  have S := I.suite he hd na nL nF
  refine wpAny_handleBy_cons (codeAny_handlers_test ?_) fun z => nomatch z
  have looks : PySem.W.Looks (model X.prog X.w) s.heap (typeOf (.ref a)) cls := fun A Q E t keep q => wpAny_typeOf_ref (keep _ _ he) (by rw [hz.1]; exact q)
  have named : ∀ {Q : Value → Shared → Prop} {E : Value → Shared → Prop}, Q cv s → wpAny (model X.prog X.w) (X.A.mark (some (.ref a))) (eval (.Name x np) X.env) Q E s := by
    intro Q E q
    obtain ⟨hg, hdb, hm | ⟨hm, hv, hn⟩⟩ := hc
    · exact ld_glob (X := X.suite a ((a, oe) :: (X.pn ++ pins))) S hg hm q hdb
    · exact ld_blt (X := X.suite a ((a, oe) :: (X.pn ++ pins))) S hg hm hv q hn hdb
  refine named ((PySem.W.exm_one (M := model X.prog X.w) I.kIn looks hb).here ?_)
  cases b
  · exact no rfl
  · exact yes rfl
/-- a handler's suite, without a name -/
theorem Caught.plain (c : Caught X Wo pins a cls d σ H s) (ok : X.Ok) {b₀ : Stmt} {suite : List Stmt} {pos : Pos} {ts : TS}
    (hsu : ∀ (oe : Obj) (pn : List (Addr × Obj)), Zc cls d oe → (∃ vs, oe.data = .fields vs) → PSs (X.suite a ((a, oe) :: pn)) (b₀ :: suite) ts) (w : ts D σ H) :
    codeAny (model X.prog X.w) (X.A.mark (some (.ref a))) (.handlers (.ref a) [.ExceptHandler none none (b₀ :: suite) pos] X.env) (fun r t => match r with
      | .ok f => SP X pins D f t
      | .error z => cameBackBy (model X.prog X.w) X.A X.env X.xe z t) s := by
  obtain ⟨B, fl, k, _, na, nL, nF⟩ := c
  refine codeAny_handlers_suite (HandSPX.lands_againZ fl fun h fl2 up => ?_)
  obtain ⟨oe, vs, he, hz, hd⟩ := fl2.there
  have S := (k h fl2 up).suite he hd na nL nF
  refine wpAny_mono ((hsu oe (X.pn ++ pins) hz ⟨_, hd⟩).run [] _ _ H _ S w) (fun f t g => ?_) (fun _ _ z => False.elim z)
  cases f
  · obtain ⟨σ', H', S', q⟩ := g
    exact ⟨_, _, S'.unsuite ok, q⟩
  · obtain ⟨σ', H', S', q⟩ := g
    exact ⟨_, _, S'.unsuite ok, q⟩
  · obtain ⟨σ', H', S', q⟩ := g
    exact ⟨_, _, S'.unsuite ok, q⟩
  · obtain ⟨v, σ', H', S', r, q⟩ := g
    exact ⟨_, _, _, S'.unsuite ok, r, q⟩
/-- what ends a suite with a name: the name goes -/
def unE (D : Ends) (i : Nat) : Ends where
  nx := fun σ H => D.nx (σ.set i none) H
  rt := D.rt
  bk := fun σ H => D.bk (σ.set i none) H
  ct := fun σ H => D.ct (σ.set i none) H
theorem Caught.named (c : Caught X Wo pins a cls d σ H s) (ok : X.Ok) {i : Nat} {n : Str} (hN : X.N.Nodup) (hi : X.N[i]? = some n) (hln : X.env.kindOf n = some .local) {b₀ : Stmt} {suite : List Stmt} {pos : Pos} {ts : TS}
    (hsu : ∀ (oe : Obj) (pn : List (Addr × Obj)), Zc cls d oe → (∃ vs, oe.data = .fields vs) → PSs (X.suite a ((a, oe) :: pn)) (b₀ :: suite) ts) (w : ts (unE D i) (σ.set i (some (.ref a))) H) :
    codeAny (model X.prog X.w) (X.A.mark (some (.ref a))) (.handlers (.ref a) [.ExceptHandler none (some n) (b₀ :: suite) pos] X.env) (fun r t => match r with
      | .ok f => wpAny (model X.prog X.w) X.A (do bindName X.env n .none; unbindBehindTheSuite X.env n pos) (fun _ t' => SP X pins D f t') X.xe t
      | .error z => cameBackBy (model X.prog X.w) X.A X.env X.xe z t) s := by
  obtain ⟨B, fl, k, _, na, nL, nF⟩ := c
  refine codeAny_handlers_suite_as (HandSPX.lands_againZ fl fun h fl2 up => ?_)
  obtain ⟨oe, vs, he, hz, hd⟩ := fl2.there
  have S := (k h fl2 up).suite he hd na nL nF
  refine store_ok (X := X.suite a ((a, oe) :: (X.pn ++ pins))) (v := .ref a) S hN hi (.inl hln) rfl (fun t S2 => ?_) (.inr hln)
  refine wpAny_mono ((hsu oe (X.pn ++ pins) hz ⟨_, hd⟩).run [] t _ H _ S2 w) (fun f t2 g => ?_) (fun _ _ z => False.elim z)
  cases f
  · obtain ⟨σ', H', S', q⟩ := g
    exact gone_ok (S'.unsuite ok) hN hi hln fun t3 J => ⟨_, _, J, q⟩
  · obtain ⟨σ', H', S', q⟩ := g
    exact gone_ok (S'.unsuite ok) hN hi hln fun t3 J => ⟨_, _, J, q⟩
  · obtain ⟨σ', H', S', q⟩ := g
    exact gone_ok (S'.unsuite ok) hN hi hln fun t3 J => ⟨_, _, J, q⟩
  · obtain ⟨v, σ', H', S', r, q⟩ := g
    exact gone_ok (S'.unsuite ok) hN hi hln fun t3 J => ⟨_, _, _, J, r, q⟩
def wTwo (K : PySem.W.Frag) (c1 : Value) (i : Nat) (t1 : Addr → Value → Option Addr → TS) (c2 : Value) (t2 : Addr → Value → Option Addr → TS) (Wo : WX) (D : Ends) : WX := fun cls d σ H =>
  ∃ b, PySem.W.exmOne K cls c1 = some b ∧ (b = true → ∀ a, H a = none → t1 a cls d (unE D i) (σ.set i (some (.ref a))) H) ∧
    (b = false → ∃ b', PySem.W.exmOne K cls c2 = some b' ∧ (b' = true → ∀ a, H a = none → t2 a cls d D σ H) ∧ (b' = false → Wo cls d σ H))
/-- try: body; except x1 as n: suite; except x2: suite -/
theorem ps_try_two {x1 x2 n : Str} {c1 c2 : Value} {i : Nat} {body su1 su2 : List Stmt} {b1 b2 : Stmt} {np1 np2 pos p1 p2 : Pos} {tb : WX → TS} {t1 t2 : Addr → Value → Option Addr → TS} {Wo : WX} (hs : X.stack = X.env :: X.outer) (hf : X.env.frame = some X.env.locals)
    (hN : X.N.Nodup) (hi : X.N[i]? = some n) (hln : X.env.kindOf n = some .local) (n1 : Names X x1 c1) (n2 : Names X x2 c2) (tk : Takes X Wo)
    (hb : ∀ (W : WX) (pn : List (Addr × Obj)) (xe : Value → Shared → Prop), Takes (X.tr pn xe) W → PassesOwn (model X.prog X.w) X.A X.env xe → PSs (X.tr pn xe) body (tb W))
    (h1 : ∀ (a : Addr) (oe : Obj) (cls : Value) (d : Option Addr) (pn : List (Addr × Obj)), Zc cls d oe → (∃ vs, oe.data = .fields vs) → PSs (X.suite a ((a, oe) :: pn)) (b1 :: su1) (t1 a cls d))
    (h2 : ∀ (a : Addr) (oe : Obj) (cls : Value) (d : Option Addr) (pn : List (Addr × Obj)), Zc cls d oe → (∃ vs, oe.data = .fields vs) → PSs (X.suite a ((a, oe) :: pn)) (b2 :: su2) (t2 a cls d)) :
    PS X (.Try body [.ExceptHandler (some (.Name x1 np1)) (some n) (b1 :: su1) p1, .ExceptHandler (some (.Name x2 np2)) none (b2 :: su2) p2] [] [] pos) (fun D σ H => tb (wTwo X.K c1 i t1 c2 t2 Wo D) D σ H) := by
  refine ⟨fun pins s σ H D I h => ?_⟩
  have ok := I.ok
  have hfr : X.A.frames = some (X.env :: X.outer) := by rw [ok.frames, hs]
  refine wpAny_Try_except (wpAny_mono ((hb (wTwo X.K c1 i t1 c2 t2 Wo D) (X.pn ++ pins) _ (fun u t xx => ?_) PassesOwn.looking).run [] s σ H D (I.toTry _) h) (fun f t g => ?_) (fun e t he => he))
  · obtain ⟨a, B, sI, pins', σ', H', cls, d, rfl, J', nb, up, sky, na, os, ag, b, hb1, yes, no⟩ := xx
    have J : Inv X pins σ' H' sI := J'.ofTry ok
    have sky' : Sky B (X.env :: X.outer) a (Zc cls d) X.env.locals t.heap := by rw [← hs]; exact sky
    change wpAny (model X.prog X.w) X.A (noteFrame (.ref a) X.env) _ _ _
    refine Sky.land Zc.steady hfr hf sky' fun h3 fl up3 => ?_
    have away : a ∉ frs (X.env :: X.outer) := fun hm => by
      obtain ⟨oe, vs, he, _, hd⟩ := fl.there
      obtain ⟨_, o', e', hnf⟩ := fl.2.2.1.mem hm
      rw [he] at e'
      cases e'
      exact hnf _ hd
    have C : Caught X Wo pins a cls d σ' H' { t with heap := h3 } := by
      refine ⟨B, fl, fun h4 fl4 up4 => J.landed nb fl4.1 ((up.trans up3).trans up4) os ag, fun h4 hh4 up4 w => tk _ _ ?_, na, fun z => away ?_, fun hm => away ?_⟩
      · exact ⟨a, B, sI, pins, σ', H', cls, d, rfl, J, nb, (up.trans up3).trans up4, .inr (.inr (by rw [hs]; exact hh4)), na, os, ag, w⟩
      · exact List.mem_filterMap.mpr ⟨X.env, List.mem_cons_self, by rw [hf, z]⟩
      · obtain ⟨e, he, q⟩ := List.mem_filterMap.mp hm
        exact List.mem_filterMap.mpr ⟨e, List.mem_cons_of_mem _ he, q⟩
    refine C.test n1 hb1 (fun e => C.named ok hN hi hln (fun oe pn => h1 a oe cls d pn) (yes e a na)) (fun e => ?_) (by simp)
    obtain ⟨b', hb2, yes2, no2⟩ := no e
    exact C.test n2 hb2 (fun e => C.plain ok (fun oe pn => h2 a oe cls d pn) (yes2 e a na)) (fun e => C.on hf (no2 e)) (by simp)
  · cases f
    · obtain ⟨σ', H', J', q⟩ := g
      exact wpAny_execs_nil ⟨σ', H', J'.ofTry ok, q⟩
    · obtain ⟨σ', H', J', q⟩ := g
      exact ⟨σ', H', J'.ofTry ok, q⟩
    · obtain ⟨σ', H', J', q⟩ := g
      exact ⟨σ', H', J'.ofTry ok, q⟩
    · obtain ⟨v, σ', H', J', r, q⟩ := g
      exact ⟨v, σ', H', J'.ofTry ok, r, q⟩
end L2

/-! sum of a tuple. -/
namespace L2
open PySem PySem.Spec PyProof.Rows HT
section
variable {prog : Program} {w : World} {A : Around} {E : Value → Shared → Prop} {s : Shared}
theorem sum_tup0 {l : Addr} {xs : Array (Int × Tok)} {Q : Value → Shared → Prop} (hh : A.handled = none) (ht : s.heap.IsTuple l (intItems xs))
    (h : ∀ h' tk t', (∀ b o, s.heap.get? b = some o → h'.get? b = some o) → Q (.int (preSum (numAt xs) xs.size) t') { s with heap := h', toks := tk }) : wpAny (model prog w) A (call (.builtin "sum") [.ref l]) Q E s := by
  have hlt : l < s.heap.objs.size := by
    obtain ⟨_, e, _⟩ := ht
    exact Heap.lt_size e
  refine PySem.call_sum_walkG (wpAny_pyIter_tuple ht ?_)
  have hT : (s.heap.push { cls := .type "tuple_iterator", data := .fields #[.ref l, .int 0 0] }).IsTuple l (intItems xs) := by
    obtain ⟨o, e, r⟩ := ht
    exact ⟨o, Heap.get?_push_of_some _ e, r⟩
  refine ⟨s.heap.objs.size, _, _, _, _, _, numAt xs, rfl, Walks.tuple (A := A.in1) hh s.heap.objs.size l (Nat.ne_of_lt hlt) (intItems xs), ⟨⟨_, Heap.get?_push_size _ rfl, rfl, rfl⟩, hT⟩, fun b hb => ?_, fun _ _ => intItems_at, fun h' tk t' hk => ?_⟩
  · show b < (s.heap.push _).objs.size
    rw [Heap.size_push]
    simp at hb
    rcases hb with q | q
    · rw [q]
      exact Nat.lt_succ_self _
    · rw [q]
      exact Nat.lt_succ_of_lt hlt
  · have q := h h' tk t' fun b o e => hk b o (fun z => by
      have := Heap.lt_size e
      rw [List.mem_singleton.mp z] at this
      exact absurd this (Nat.lt_irrefl _)) (Heap.get?_push_of_some _ e)
    simpa [intItems] using q
end
def rSumT (K : PySem.W.Frag) : List V → Hp → VK → Prop := fun vs H Q => ∃ (a : Addr) (ns : List Int), vs = [V.ref a] ∧ SqT K H a (ns.map V.int) ∧ Q (.int ns.sum) H
theorem k_sumT {X : Cx} {K : PySem.W.Frag} (hc : X.calm = true) (ek : X.K = K := by rfl) : CallR X (.builtin "sum") (rSumT K) := by
  subst ek
  intro pins s σ H vs us Q I r h
  obtain ⟨a, ns, rfl, hs, q⟩ := h
  obtain ⟨its, rv, ht, _⟩ := I.tuple hs
  rw [Vals.ref1 r]
  have hi := rv.ints
  obtain ⟨xs, e⟩ := hi.allInts.items
  have hn : numsOf (intItems xs).toList = ns := by rw [← e]; exact hi.numsOf
  rw [nums_intItems] at hn
  have ht' : s.heap.IsTuple a its.toArray := ht
  rw [e] at ht'
  refine sum_tup0 (I.ok.hd hc) ht' fun h' tk t' hk => ?_
  rw [preSum_eq, List.take_of_length_le (by simp), hn]
  exact ⟨.int _, H, I.kept hk, ⟨_, rfl⟩, q⟩
end L2

/-! zip(*t), t a tuple of one to four tuples, the target one name: the model's own zip, step by step; the rule pi_zipS, the walk walk_zipS. -/
namespace RZ
open PySem PySem.Spec PyProof.Rows L2
open PySem.Sem (wp)
structure ZA (z TI TO : Addr) (is ls : List Addr) : Prop where
  TIz : TI ≠ z
  TOz : TO ≠ z
  TITO : TI ≠ TO
  zi : z ∉ is
  TIi : TI ∉ is
  TOi : TO ∉ is
  nd : is.Nodup
  zl : z ∉ ls
  TOl : TO ∉ ls
  il : ∀ i ∈ is, i ∉ ls
structure ZN (h : Heap) (z TI TO : Addr) (is ls : List Addr) (f0 f1 : Value) (ks : Nat → Nat) (ws : List Value) (xss : List (List Value)) : Prop where
  hz : h.get? z = some { cls := .type "zip", dict := none, data := .fields #[f0, f1, .bool false, .ref TI, .ref TO], slots := #[] }
  hTI : h.get? TI = some { cls := .type "tuple", data := .seq (is.map Value.ref).toArray }
  hTO : h.get? TO = some { cls := .type "tuple", data := .seq ws.toArray }
  hit : ∀ (j : Nat) (i l : Addr), is[j]? = some i → ls[j]? = some l → h.IsTupleIter i l (ks j)
  hls : ∀ (j : Nat) (l : Addr) (xs : List Value), ls[j]? = some l → xss[j]? = some xs → h.IsTuple l xs.toArray
def KP (z TO : Addr) (is : List Addr) (h h' : Heap) : Prop := ∀ c o, c ≠ z → c ≠ TO → c ∉ is → h.get? c = some o → h'.get? c = some o
section
variable {z TI TO : Addr} {is ls : List Addr} {f0 f1 g0 g1 : Value} {ks : Nat → Nat} {ws : List Value} {xss : List (List Value)} {h h' h2 : Heap}
theorem KP.refl : KP z TO is h h := fun _ _ _ _ _ e => e
theorem KP.trans (a : KP z TO is h h') (b : KP z TO is h' h2) : KP z TO is h h2 := fun c o c1 c2 c3 e => b c o c1 c2 c3 (a c o c1 c2 c3 e)
theorem KP.ofZ (s : Heap.SameBut z h h') : KP z TO is h h' := fun c o c1 _ _ e => s.extBut _ _ c1 e
theorem KP.ofTO (s : Heap.SameBut TO h h') : KP z TO is h h' := fun c o _ c2 _ e => s.extBut _ _ c2 e
theorem KP.ofI {i : Addr} (hi : i ∈ is) (s : Heap.SameBut i h h') : KP z TO is h h' := fun c o _ _ c3 e => s.extBut _ _ (fun q => c3 (q ▸ hi)) e
theorem ZN.setZ (D : ZA z TI TO is ls) (Z : ZN h z TI TO is ls f0 f1 ks ws xss) (s : Heap.SameBut z h h') (e : h'.get? z = some { cls := .type "zip", dict := none, data := .fields #[g0, g1, .bool false, .ref TI, .ref TO], slots := #[] }) : ZN h' z TI TO is ls g0 g1 ks ws xss where
  hz := e
  hTI := s.extBut _ _ D.TIz Z.hTI
  hTO := s.extBut _ _ D.TOz Z.hTO
  hit := fun j i l a b => (Z.hit j i l a b).extBut s.extBut fun q => D.zi (q ▸ List.mem_of_getElem? a)
  hls := fun j l xs a b => (Z.hls j l xs a b).extBut s.extBut fun q => D.zl (q ▸ List.mem_of_getElem? a)
theorem ZN.setTO (D : ZA z TI TO is ls) {vs : List Value} (Z : ZN h z TI TO is ls f0 f1 ks ws xss) (s : Heap.SameBut TO h h') (e : h'.get? TO = some { cls := .type "tuple", data := .seq vs.toArray }) : ZN h' z TI TO is ls f0 f1 ks vs xss where
  hz := s.extBut _ _ (Ne.symm D.TOz) Z.hz
  hTI := s.extBut _ _ D.TITO Z.hTI
  hTO := e
  hit := fun j i l a b => (Z.hit j i l a b).extBut s.extBut fun q => D.TOi (q ▸ List.mem_of_getElem? a)
  hls := fun j l xs a b => (Z.hls j l xs a b).extBut s.extBut fun q => D.TOl (q ▸ List.mem_of_getElem? a)
theorem ZN.stepI (D : ZA z TI TO is ls) {ms : Nat → Nat} (Z : ZN h z TI TO is ls f0 f1 ks ws xss) {j : Nat} {i l : Addr} (hi : is[j]? = some i) (hl : ls[j]? = some l) (s : Heap.SameBut i h h') (e : h'.IsTupleIter i l (ms j)) (m : ∀ j', j' ≠ j → ms j' = ks j') : ZN h' z TI TO is ls f0 f1 ms ws xss where
  hz := s.extBut _ _ (fun q => D.zi (q ▸ List.mem_of_getElem? hi)) Z.hz
  hTI := s.extBut _ _ (fun q => D.TIi (q ▸ List.mem_of_getElem? hi)) Z.hTI
  hTO := s.extBut _ _ (fun q => D.TOi (q ▸ List.mem_of_getElem? hi)) Z.hTO
  hit := fun j' i' l' a b => by
    by_cases q : j' = j
    · subst q
      rw [hi] at a
      rw [hl] at b
      cases a
      cases b
      exact e
    · rw [m j' q]
      refine (Z.hit j' i' l' a b).extBut s.extBut fun p => ?_
      subst p
      obtain ⟨u1, v1⟩ := List.getElem?_eq_some_iff.mp a
      obtain ⟨u2, v2⟩ := List.getElem?_eq_some_iff.mp hi
      exact q ((List.getElem_inj (h₀ := u1) (h₁ := u2) D.nd).mp (v1.trans v2.symm))
  hls := fun j l xs a b => (Z.hls j l xs a b).extBut s.extBut fun q => D.il i (List.mem_of_getElem? hi) (q ▸ List.mem_of_getElem? a)
theorem ZN.ksame {ms : Nat → Nat} (Z : ZN h z TI TO is ls f0 f1 ks ws xss) (m : ∀ j, j < is.length → ms j = ks j) : ZN h z TI TO is ls f0 f1 ms ws xss where
  hz := Z.hz
  hTI := Z.hTI
  hTO := Z.hTO
  hit := fun j i l a b => by
    rw [m j (List.getElem?_eq_some_iff.mp a).1]
    exact Z.hit j i l a b
  hls := Z.hls
theorem ZN.up (Z : ZN h z TI TO is ls f0 f1 ks ws xss) (e : ∀ c o, h.get? c = some o → h'.get? c = some o) : ZN h' z TI TO is ls f0 f1 ks ws xss where
  hz := e _ _ Z.hz
  hTI := e _ _ Z.hTI
  hTO := e _ _ Z.hTO
  hit := fun j i l a b => (Z.hit j i l a b).at fun o q => e _ o q
  hls := fun j l xs a b => by
    obtain ⟨o, q, r⟩ := Z.hls j l xs a b
    exact ⟨o, e _ _ q, r⟩
end
section
variable {prog : Program} {w : World} {A : Around} {E : Value → Shared → Prop} {s : Shared}
/-- a loop of the model's own over a list, turn by turn -/
theorem forIn_by {α β : Type} {f : α → β → Sem (ForInStep β)} {Q : β → Shared → Prop} (P : Nat → β → Shared → Prop) : ∀ (l : List α) (n : Nat) (b : β) (s : Shared), P n b s →
    (∀ (j : Nat) (x : α) (b : β) (s : Shared), l[j]? = some x → P (n + j) b s → wpAny (model prog w) A (f x b) (fun r s' => ∃ b', r = .yield b' ∧ P (n + j + 1) b' s') E s) →
    (∀ b s, P (n + l.length) b s → Q b s) → wpAny (model prog w) A (forIn l b f) Q E s
  | [], n, b, s, h0, _, hd => by
    rw [List.forIn_nil]
    exact wpAny_pure (hd b s h0)
  | x :: r, n, b, s, h0, hs, hd => by
    rw [List.forIn_cons]
    refine wpAny_bind (thn (hs 0 x b s rfl h0) fun y s' ⟨b', e, h1⟩ => ?_)
    subst e
    refine forIn_by P r (n + 1) b' s' h1 (fun j x b s hx hp => ?_) fun b s hp => hd b s ?_
    · have e : n + 1 + j = n + (j + 1) := by omega
      rw [e] at hp ⊢
      exact hs (j + 1) x b s hx hp
    · have e : n + (x :: r).length = n + 1 + r.length := by simp; omega
      rw [e]
      exact hp
variable {z TI TO : Addr} {is ls : List Addr} {f0 f1 : Value} {ks : Nat → Nat} {ws col : List Value} {xss : List (List Value)}
/-- whether the tuple that was handed out may be written again: both ways -/
theorem zn_free {Q : Bool → Shared → Prop} (D : ZA z TI TO is ls) (Z : ZN s.heap z TI TO is ls f0 f1 ks ws xss) (hf : f0 = .none ∨ ∃ a t, f0 = .int a t)
    (k : ∀ b g1 h', ZN h' z TI TO is ls f0 g1 ks ws xss → Heap.SameBut z s.heap h' → Q b { s with heap := h' }) : wpAny (model prog w) A (Builtin.SmallTypes.ownedTupleIsFree (.ref z)) Q E s := by
  unfold Builtin.SmallTypes.ownedTupleIsFree
  refine wpAny_bind (wpAny_field Z.hz rfl (x := f0) rfl ?_)
  rcases hf with rfl | ⟨a, t, rfl⟩
  · exact wpAny_pure (k true f1 s.heap Z (Heap.SameBut.refl _ _))
  · show wpAny _ _ (loadIfAlive a.toNat >>= _) _ _ _
    refine wpAny_bind ?_
    have al : ∀ {Q' : Option Obj → Shared → Prop}, Q' (s.heap.get? a.toNat) s → wpAny (model prog w) A (loadIfAlive a.toNat) Q' E s := fun q Γ p hΓ => by
      unfold loadIfAlive
      rw [Sem.wp_loadIfAlive]
      exact wpAny_pure q Γ p hΓ
    refine al ?_
    cases e : s.heap.get? a.toNat with
    | none =>
      simp only [Option.isNone_none, if_true]
      exact wpAny_pure (k true f1 s.heap Z (Heap.SameBut.refl _ _))
    | some o =>
      simp only [Option.isNone_some, Bool.false_eq_true, if_false]
      refine wpAny_bind (wpAny_field Z.hz rfl (x := f1) rfl ?_)
      by_cases c : (f1 != Value.bool true) = true
      · rw [if_pos c]
        refine wpAny_bind (wpAny_setField_rec Z.hz (by simp) fun h1 z1 s1 => wpAny_pure ?_)
        exact k false _ h1 (Z.setZ D s1 z1) s1
      · rw [if_neg c]
        exact wpAny_pure (k false f1 s.heap Z (Heap.SameBut.refl _ _))
end
end RZ
namespace RZ
open PySem PySem.Spec PyProof.Rows L2
open PySem.Sem (wp)
section
variable {prog : Program} {w : World} {A : Around} {E : Value → Shared → Prop} {s : Shared}
variable {z TI TO : Addr} {is ls : List Addr} {f0 f1 : Value} {k : Nat} {ws col : List Value} {xss : List (List Value)}
theorem zn_item {Q : Value → Shared → Prop} (D : ZA z TI TO is ls) (Z : ZN s.heap z TI TO is ls f0 f1 (fun _ => k) ws xss) (hf : f0 = .none ∨ ∃ a t, f0 = .int a t)
    (n0 : is ≠ []) (nz : is.length ≤ 1000) (hn : ls.length = is.length) (hws : ws.length = is.length) (hc : col.length = is.length) (hcol : ∀ j, j < is.length → ∃ xs x, xss[j]? = some xs ∧ xs[k]? = some x ∧ col[j]? = some x)
    (hQ : ∀ h' g0 g1 vs, ZN h' z TI TO is ls g0 g1 (fun _ => k + 1) vs xss → (g0 = .none ∨ ∃ a t, g0 = .int a t) → vs.length = is.length → h'.get? s.heap.objs.size = some { cls := .type "tuple", data := .seq col.toArray } →
      h'.objs.size = s.heap.objs.size + 1 → KP z TO is s.heap h' → Q (.ref s.heap.objs.size) { s with heap := h' }) :
    wpAny (model prog w) A (Builtin.«zip.__next__» ⟨[.ref z], []⟩) (fun fin s' => ∃ v, fin = .done (.ret v) ∧ Q v s') E s := by
  show wpAny _ _ (field (.ref z) 2 >>= fun _ => _) _ _ _
  refine wpAny_bind (wpAny_field Z.hz rfl (x := Value.bool false) rfl ?_); show wpAny _ _ (field (.ref z) 3 >>= fun _ => _) _ _ _
  refine wpAny_bind (wpAny_field Z.hz rfl (x := Value.ref TI) rfl ?_); refine wpAny_bind (wpAny_seqItems Z.hTI rfl ?_)
  have ne : ((is.map Value.ref).toArray.isEmpty) = false := by
    cases is with
    | nil => exact absurd rfl n0
    | cons _ _ => simp
  dsimp only
  rw [ne]
  simp only [Bool.false_eq_true, if_false]
  refine wpAny_bind (zn_free D Z hf fun b g1 h1 Z1 s1 => ?_)
  have z1 : h1.objs.size = s.heap.objs.size := s1.1
  cases b with
  | true =>
    simp only [if_true]
    refine wpAny_bind (wpAny_rule ?_); refine wpAny_bind (wpAny_field (s := { s with heap := h1 }) Z1.hz rfl (x := Value.ref TO) rfl ?_)
    refine wpAny_bind (wpAny_setField_rec (s := { s with heap := h1 }) Z1.hz (by simp) fun h2 e2 s2 => ?_)
    have Z2 := Z1.setZ D (g0 := .ellipsis) (g1 := g1) s2 e2
    refine wpAny_bind (forIn_by (fun (j : Nat) (b : Option Fin × Unit) (s' : Shared) => b = (none, ()) ∧ ∃ h vs, s' = { s with heap := h } ∧ ZN h z TI TO is ls .ellipsis g1 (fun j' => if j' < j then k + 1 else k) vs xss ∧ vs.length = is.length ∧ (∀ j', j' < j → vs[j']? = col[j']?) ∧ h.objs.size = s.heap.objs.size ∧ KP z TO is s.heap h) _ 0 _ _ ⟨rfl, h2, ws, rfl, Z2.ksame fun j _ => if_neg (Nat.not_lt_zero j), hws, (fun j' q => absurd q (Nat.not_lt_zero j')), by rw [s2.1]; exact z1, (KP.ofZ s1).trans (KP.ofZ s2)⟩ (fun j x b s' hx hp => ?_) fun b s' hp => ?_)
    · rw [Nat.zero_add] at hp ⊢
      obtain ⟨rfl, h, vs, rfl, Z3, lv, hv, sz, kp⟩ := hp
      rw [List.getElem?_zipIdx] at hx
      cases ei : is[j]? with
      | none =>
        rw [List.getElem?_map, ei] at hx
        cases hx
      | some i =>
        rw [List.getElem?_map, ei] at hx
        cases hx
        have jl := (List.getElem?_eq_some_iff.mp ei).1
        have el : ls[j]? = some (ls[j]'(by omega)) := List.getElem?_eq_getElem (by omega)
        obtain ⟨xs, x, ex, hk, hc2⟩ := hcol j jl
        have it := Z3.hit j i _ ei el
        have lt := Z3.hls j _ xs el ex
        rw [if_neg (Nat.lt_irrefl j)] at it
        dsimp only
        refine wpAny_bind (wpAny_onRaise ?_)
        show wpAny _ _ (Builtin.SmallTypes.nextOf (.ref i) >>= fun _ => _) _ _ _
        refine wpAny_bind (nextOf_tuple_item (s := { s with heap := h }) it lt (x := x) (by simpa using hk) fun h4 it4 s4 => wpAny_pure ?_)
        have Z4 : ZN h4 z TI TO is ls .ellipsis g1 (fun j' => if j' < j + 1 then k + 1 else k) vs xss := Z3.stepI D (ms := fun j' => if j' < j + 1 then k + 1 else k) ei el s4 (by rw [if_pos (Nat.lt_succ_self j)]; exact it4) (fun j' q => by
          by_cases c : j' < j
          · rw [if_pos c, if_pos (by omega)]
          · rw [if_neg c, if_neg (by omega)])
        dsimp only
        refine wpAny_bind (wpAny_seqItems (s := { s with heap := h4 }) Z4.hTO rfl ?_)
        dsimp only
        have big : (1001 : Nat) ≤ sizeLine := by decide
        refine wpAny_bind (wpAny_updateSeq (s := { s with heap := h4 }) Z4.hTO rfl ?_ (by simp; omega) (by simp; omega))
        refine wpAny_bind (wpAny_letGo (wpAny_pure ⟨_, rfl, ?_⟩))
        have s5 : Heap.SameBut TO h4 (h4.update TO _) := Heap.SameBut.update (f := (·.mapSeq (·.setIfInBounds (0 + j) x))) ..
        have Z5 := Z4.setTO D (vs := vs.set j x) s5 (by
          rw [Heap.get?_update_self _ Z4.hTO rfl]
          simp [Obj.mapSeq])
        refine ⟨rfl, _, _, rfl, Z5, by simp [lv], fun j' q => ?_, ?_, ?_⟩
        · by_cases c : j' = j
          · subst c
            rw [List.getElem?_set_self (by omega), hc2]
          · rw [List.getElem?_set_ne (Ne.symm c)]
            exact hv j' (by omega)
        · rw [s5.1, s4.1]
          exact sz
        · exact kp.trans ((KP.ofI (List.mem_of_getElem? ei) s4).trans (KP.ofTO s5))
    obtain ⟨rfl, h, vs, rfl, Z3, lv, hv, sz, kp⟩ := hp
    simp only [Nat.zero_add, List.length_zipIdx, List.length_map] at Z3 hv
    have ev : vs = col := List.ext_getElem? fun j => by
      by_cases c : j < is.length
      · exact hv j c
      · rw [List.getElem?_eq_none (by omega), List.getElem?_eq_none (by omega)]
    subst ev
    have Z3 : ZN h z TI TO is ls .ellipsis g1 (fun _ => k + 1) vs xss := Z3.ksame fun j q => (if_pos q).symm
    dsimp only
    refine wpAny_bind (wpAny_seqItems (s := { s with heap := h }) Z3.hTO rfl ?_)
    dsimp only
    have big : (1001 : Nat) ≤ sizeLine := by decide
    refine wpAny_bind (wpAny_newTuple ?_ (by omega)); show wpAny _ _ (Builtin.SmallTypes.ownedTupleHandOut (.ref z) (.ref h.objs.size) >>= fun _ => _) _ _ _
    refine wpAny_bind ?_
    unfold Builtin.SmallTypes.ownedTupleHandOut
    have Z4 := Z3.up (h' := h.push { cls := .type "tuple", data := .seq vs.toArray }) fun c o q => Heap.get?_push_of_some _ q
    have t4 : (h.push { cls := .type "tuple", data := .seq vs.toArray }).get? h.objs.size = some { cls := .type "tuple", data := .seq vs.toArray } := Heap.get?_push_size _ rfl
    have n4 : (h.push { cls := .type "tuple", data := .seq vs.toArray }).objs.size = h.objs.size + 1 := Heap.size_push ..
    have zl : z < h.objs.size := Heap.lt_size Z3.hz
    refine wpAny_bind (wpAny_setField_rec (s := { s with heap := h.push { cls := .type "tuple", data := .seq vs.toArray } }) Z4.hz (by simp) fun h5 e5 s5 => ?_)
    have Z5 := Z4.setZ D (g0 := rawInt h.objs.size) (g1 := g1) s5 e5
    refine wpAny_setField_rec (s := { s with heap := h5 }) Z5.hz (by simp) fun h6 e6 s6 => ?_
    have Z6 := Z5.setZ D (g0 := rawInt h.objs.size) (g1 := .bool false) s6 e6
    have t6 := s6.extBut _ _ (Nat.ne_of_gt zl) (s5.extBut _ _ (Nat.ne_of_gt zl) t4)
    have k6 : KP z TO is s.heap h6 := fun c o c1 c2 c3 q => s6.extBut _ _ c1 (s5.extBut _ _ c1 (Heap.get?_push_of_some _ (kp c o c1 c2 c3 q)))
    have n6 : h6.objs.size = s.heap.objs.size + 1 := by rw [s6.1, s5.1, n4, sz]
    refine wpAny_pure ⟨_, rfl, ?_⟩
    show Q (.ref h.objs.size) _
    rw [sz] at t6 Z6 ⊢
    exact hQ h6 _ _ vs Z6 (.inr ⟨_, _, rfl⟩) lv t6 n6 k6
  | false =>
    simp only [Bool.false_eq_true, if_false]
    rw [← Array.forIn_toList]
    refine wpAny_bind (forIn_by (fun j b s' => b = (none, (col.take j).toArray) ∧ ∃ h, s' = { s with heap := h } ∧ ZN h z TI TO is ls f0 g1 (fun j' => if j' < j then k + 1 else k) ws xss ∧ h.objs.size = s.heap.objs.size ∧ KP z TO is s.heap h) _ 0 _ _
      ⟨by simp, h1, rfl, Z1.ksame fun j _ => if_neg (Nat.not_lt_zero j), z1, KP.ofZ s1⟩ (fun j x b s' hx hp => ?_) fun b s' hp => ?_)
    · rw [Nat.zero_add] at hp ⊢
      obtain ⟨rfl, h, rfl, Z3, sz, kp⟩ := hp
      cases ei : is[j]? with
      | none =>
        simp [ei] at hx
      | some i =>
        simp only [List.getElem?_map, ei, Option.map_some] at hx
        cases hx
        have jl := (List.getElem?_eq_some_iff.mp ei).1
        have el : ls[j]? = some (ls[j]'(by omega)) := List.getElem?_eq_getElem (by omega)
        obtain ⟨xs, x, ex, hk, hc2⟩ := hcol j jl
        have it := Z3.hit j i _ ei el
        have lt := Z3.hls j _ xs el ex
        rw [if_neg (Nat.lt_irrefl j)] at it
        dsimp only
        refine wpAny_bind (wpAny_holding ?_)
        show wpAny _ _ (Builtin.SmallTypes.nextOf (.ref i) >>= fun _ => _) _ _ _
        refine wpAny_bind (nextOf_tuple_item (s := { s with heap := h }) it lt (x := x) (by simpa using hk) fun h4 it4 s4 => wpAny_pure ?_)
        have Z4 : ZN h4 z TI TO is ls f0 g1 (fun j' => if j' < j + 1 then k + 1 else k) ws xss := Z3.stepI D (ms := fun j' => if j' < j + 1 then k + 1 else k) ei el s4 (by rw [if_pos (Nat.lt_succ_self j)]; exact it4) (fun j' q => by
          by_cases c : j' < j
          · rw [if_pos c, if_pos (by omega)]
          · rw [if_neg c, if_neg (by omega)])
        dsimp only
        refine wpAny_pure ⟨_, rfl, ?_, h4, rfl, Z4, by rw [s4.1]; exact sz, kp.trans (KP.ofI (List.mem_of_getElem? ei) s4)⟩
        rw [List.take_add_one, hc2]
        simp
    obtain ⟨rfl, h, rfl, Z3, sz, kp⟩ := hp
    simp only [Nat.zero_add, List.length_map, List.toList_toArray] at Z3
    have Z3 : ZN h z TI TO is ls f0 g1 (fun _ => k + 1) ws xss := Z3.ksame fun j q => (if_pos q).symm
    dsimp only
    rw [Nat.zero_add, List.length_map, ← hc, List.take_length]
    have big : (1001 : Nat) ≤ sizeLine := by decide
    refine wpAny_bind (wpAny_newTuple ?_ (by omega))
    have t4 : (h.push { cls := .type "tuple", data := .seq col.toArray }).get? h.objs.size = some { cls := .type "tuple", data := .seq col.toArray } := Heap.get?_push_size _ rfl
    have n4 : (h.push { cls := .type "tuple", data := .seq col.toArray }).objs.size = h.objs.size + 1 := Heap.size_push ..
    refine wpAny_pure ⟨_, rfl, ?_⟩
    show Q (.ref h.objs.size) _
    rw [sz] at t4 n4 ⊢
    exact hQ _ f0 g1 ws (Z3.up fun c o q => Heap.get?_push_of_some _ q) hf hws t4 n4 fun c o c1 c2 c3 q => Heap.get?_push_of_some _ (kp c o c1 c2 c3 q)
end
end RZ
namespace RZ
open PySem PySem.Spec PyProof.Rows L2
open PySem.Sem (wp)
section
variable {prog : Program} {w : World} {A : Around} {E : Value → Shared → Prop} {s : Shared}
variable {z TI TO i0 l0 : Addr} {is ls : List Addr} {f0 f1 : Value} {k : Nat} {ws x0 : List Value} {xss : List (List Value)}
theorem zn_end {Q : Fin → Shared → Prop} (hh : A.handled = none) (D : ZA z TI TO (i0 :: is) (l0 :: ls)) (Z : ZN s.heap z TI TO (i0 :: is) (l0 :: ls) f0 f1 (fun _ => k) ws (x0 :: xss)) (hf : f0 = .none ∨ ∃ a t, f0 = .int a t)
    (hx : x0[k]? = none) (hE : ∀ h' e, KP z TO (i0 :: is) s.heap h' → (∃ o, h'.get? e = some o ∧ o.cls = .type "StopIteration") → E (.ref e) { s with heap := h' }) :
    wpAny (model prog w) A (Builtin.«zip.__next__» ⟨[.ref z], []⟩) Q E s := by
  show wpAny _ _ (field (.ref z) 2 >>= fun _ => _) _ _ _
  refine wpAny_bind (wpAny_field Z.hz rfl (x := Value.bool false) rfl ?_); show wpAny _ _ (field (.ref z) 3 >>= fun _ => _) _ _ _
  refine wpAny_bind (wpAny_field Z.hz rfl (x := Value.ref TI) rfl ?_); refine wpAny_bind (wpAny_seqItems Z.hTI rfl ?_)
  have ne : (((i0 :: is).map Value.ref).toArray.isEmpty) = false := by simp
  dsimp only
  rw [ne]
  simp only [Bool.false_eq_true, if_false]
  refine wpAny_bind (zn_free D Z hf fun b g1 h1 Z1 s1 => ?_)
  cases b with
  | true =>
    simp only [if_true]
    refine wpAny_bind (wpAny_rule ?_); refine wpAny_bind (wpAny_field (s := { s with heap := h1 }) Z1.hz rfl (x := Value.ref TO) rfl ?_)
    refine wpAny_bind (wpAny_setField_rec (s := { s with heap := h1 }) Z1.hz (by simp) fun h2 e2 s2 => ?_)
    have Z2 := Z1.setZ D (g0 := .ellipsis) (g1 := g1) s2 e2
    simp only [List.map_cons, List.zipIdx_cons, List.forIn_cons]
    refine wpAny_bind (wpAny_bind (wpAny_bind (wpAny_onRaise ?_)))
    show wpAny _ _ (Builtin.SmallTypes.nextOf (.ref i0) >>= fun _ => _) _ _ _
    refine wpAny_bind (nextOf_tuple_end (s := { s with heap := h2 }) hh (Z2.hit 0 i0 l0 rfl rfl) (Z2.hls 0 l0 x0 rfl rfl) (by simpa using hx) fun h3 e s3 he => ?_)
    obtain ⟨oe, ho, hc⟩ := he
    have iz : i0 ≠ z := fun q => D.zi (q ▸ List.mem_cons_self)
    have zz := s3 _ _ iz.symm Z2.hz
    have ez : e ≠ z := fun q => by
      subst q
      rw [zz] at ho
      cases ho
      simp at hc
    refine wpAny_setField_rec (s := { s with heap := h3 }) zz (by simp) fun h4 _ s4 => hE h4 e (fun c o c1 _ c3 q => ?_) ⟨oe, s4.extBut _ _ ez ho, hc⟩
    exact s4.extBut _ _ c1 (s3 _ _ (fun q => c3 (q ▸ List.mem_cons_self)) (s2.extBut _ _ c1 (s1.extBut _ _ c1 q)))
  | false =>
    simp only [Bool.false_eq_true, if_false]
    rw [← Array.forIn_toList]
    simp only [List.map_cons, List.forIn_cons]
    refine wpAny_bind (wpAny_bind (wpAny_bind (wpAny_holding ?_)))
    show wpAny _ _ (Builtin.SmallTypes.nextOf (.ref i0) >>= fun _ => _) _ _ _
    refine wpAny_bind (nextOf_tuple_end (s := { s with heap := h1 }) hh (Z1.hit 0 i0 l0 rfl rfl) (Z1.hls 0 l0 x0 rfl rfl) (by simpa using hx) fun h3 e s3 he => ?_)
    exact hE h3 e (fun c o c1 _ c3 q => s3 _ _ (fun q => c3 (q ▸ List.mem_cons_self)) (s1.extBut _ _ c1 q)) he
theorem pyNext_zn_item {col : List Value} {Q : Option Value → Shared → Prop} {is ls : List Addr} {xss : List (List Value)} (D : ZA z TI TO is ls) (Z : ZN s.heap z TI TO is ls f0 f1 (fun _ => k) ws xss) (hf : f0 = .none ∨ ∃ a t, f0 = .int a t)
    (n0 : is ≠ []) (nz : is.length ≤ 1000) (hn : ls.length = is.length) (hws : ws.length = is.length) (hc : col.length = is.length) (hcol : ∀ j, j < is.length → ∃ xs x, xss[j]? = some xs ∧ xs[k]? = some x ∧ col[j]? = some x)
    (hQ : ∀ h' g0 g1 vs, ZN h' z TI TO is ls g0 g1 (fun _ => k + 1) vs xss → (g0 = .none ∨ ∃ a t, g0 = .int a t) → vs.length = is.length → h'.get? s.heap.objs.size = some { cls := .type "tuple", data := .seq col.toArray } →
      h'.objs.size = s.heap.objs.size + 1 → KP z TO is s.heap h' → Q (some (.ref s.heap.objs.size)) { s with heap := h' }) :
    wpAny (model prog w) A (pyNext (.ref z)) Q E s := by
  have ty : s.TypeIs (.ref z) "zip" := ⟨_, Z.hz, rfl⟩
  unfold pyNext
  refine wpAny_bind (wpAny_attempt (wpAny_callSpecial?_slot (name := Str.ofString "__next__") ty F.slot_zip_next (wpAny_call_entry F.slot_zip_next ty F.entry_zip_next ?_ (F.args_zip_next_1 _))))
  exact zn_item D Z hf n0 nz hn hws hc hcol fun h' g0 g1 vs a1 a2 a3 a4 a5 a6 => wpAny_pure (hQ h' g0 g1 vs a1 a2 a3 a4 a5 a6)
theorem pyNext_zn_end {Q : Option Value → Shared → Prop} (hh : A.handled = none) (D : ZA z TI TO (i0 :: is) (l0 :: ls)) (Z : ZN s.heap z TI TO (i0 :: is) (l0 :: ls) f0 f1 (fun _ => k) ws (x0 :: xss)) (hf : f0 = .none ∨ ∃ a t, f0 = .int a t)
    (hx : x0[k]? = none) (hQ : ∀ h', KP z TO (i0 :: is) s.heap h' → Q none { s with heap := h' }) : wpAny (model prog w) A (pyNext (.ref z)) Q E s := by
  have ty : s.TypeIs (.ref z) "zip" := ⟨_, Z.hz, rfl⟩
  unfold pyNext
  refine wpAny_bind (wpAny_attempt (wpAny_callSpecial?_slot (name := Str.ofString "__next__") ty F.slot_zip_next (wpAny_call_entry F.slot_zip_next ty F.entry_zip_next ?_ (F.args_zip_next_1 _))))
  refine zn_end hh D Z hf hx fun h' e hk he => ?_
  obtain ⟨o, ho, hc⟩ := he
  exact wpAny_bind (wpAny_isInstance (T := "StopIteration") (b := true) ⟨o, ho, hc⟩ isSubtype_stop (wpAny_pure (hQ _ hk)))
theorem pyIter_zn {is ls : List Addr} {xss : List (List Value)} {ks : Nat → Nat} {Q : Value → Shared → Prop} (Z : ZN s.heap z TI TO is ls f0 f1 ks ws xss) (h : Q (.ref z) s) : wpAny (model prog w) A (pyIter (.ref z)) Q E s := by
  have ty : s.TypeIs (.ref z) "zip" := ⟨_, Z.hz, rfl⟩
  refine wpAny_pyIter_slot ty F.slot_zip_iter (wpAny_call_entry F.slot_zip_iter ty F.entry_zip_iter ?_ (F.args_zip_iter_1 _))
  show wpAny _ _ (ret (.ref z)) _ _ s
  exact wpAny_pure ⟨_, rfl, "zip", _, ty, F.slot_zip_next.lookup, h⟩
end
end RZ
namespace RZ
open PySem PySem.Spec PyProof.Rows L2
open PySem.Sem (wp)
abbrev itO (l : Addr) : Obj := { cls := .type "tuple_iterator", data := .fields #[.ref l, .int 0 0] }
def zAll (h : Heap) : List Addr → Heap
  | [] => h
  | l :: r => zAll (h.push (itO l)) r
theorem tc_zip1 (v1 : Value) : checkTypeCall "zip" ⟨[v1], []⟩ = pure () := by kernel_rfl
theorem nc_zip1 (v1 : Value) : checkBuiltinCall "zip.__new__" ⟨[.type "zip", v1], []⟩ = pure () := by kernel_rfl
theorem ao_zip1 (o v1 : Value) : argsOk "object.__init__" ⟨[o, v1], []⟩ := by
  unfold argsOk
  rw [signature?_of (id := "object.__init__") (n := ['_', '_', 't', 'i', 'n', 'i', '_', '_']) (o := ['t', 'c', 'e', 'j', 'b', 'o']) (by kernel_rfl) PySem.F.owner_object]
  kernel_rfl
theorem mt_zip1 (l1 : Addr) (x1 : Array Value) : Meets (Builtin.«zip.__new__» ⟨[.type "zip", .ref l1], []⟩) (fun _ R s => s.heap.IsTuple l1 x1 ∧
    R (.ok (.ret (.ref (((s.heap.push (itO l1)).push { cls := .type "tuple", data := .seq #[.ref s.heap.objs.size] }).push { cls := .type "tuple", data := .seq #[.none] }).objs.size))) { s with heap := ((((s.heap.push (itO l1)).push { cls := .type "tuple", data := .seq #[.ref s.heap.objs.size] }).push { cls := .type "tuple", data := .seq #[.none] }).push { cls := .type "zip", data := .fields #[.none, .bool false, .bool false, .ref (s.heap.push (itO l1)).objs.size, .ref ((s.heap.push (itO l1)).push { cls := .type "tuple", data := .seq #[.ref s.heap.objs.size] }).objs.size] }) }) :=
  .of_wp fun prog w A R s h => by
    obtain ⟨hp, g, d, tk, os⟩ := s
    obtain ⟨q1, h⟩ := h
    have sz := sub_zip
    have y1 : Heap.IsTuple (Shared.heap ⟨hp, g, d, tk, os⟩) l1 x1 := q1
    wp_walk using wpAny_pyIter_tuple y1
    exact ⟨_, rfl, h⟩
theorem tc_zip2 (v1 v2 : Value) : checkTypeCall "zip" ⟨[v1, v2], []⟩ = pure () := by kernel_rfl
theorem nc_zip2 (v1 v2 : Value) : checkBuiltinCall "zip.__new__" ⟨[.type "zip", v1, v2], []⟩ = pure () := by kernel_rfl
theorem ao_zip2 (o v1 v2 : Value) : argsOk "object.__init__" ⟨[o, v1, v2], []⟩ := by
  unfold argsOk
  rw [signature?_of (id := "object.__init__") (n := ['_', '_', 't', 'i', 'n', 'i', '_', '_']) (o := ['t', 'c', 'e', 'j', 'b', 'o']) (by kernel_rfl) PySem.F.owner_object]
  kernel_rfl
theorem mt_zip2 (l1 l2 : Addr) (x1 x2 : Array Value) : Meets (Builtin.«zip.__new__» ⟨[.type "zip", .ref l1, .ref l2], []⟩) (fun _ R s => s.heap.IsTuple l1 x1 ∧ s.heap.IsTuple l2 x2 ∧
    R (.ok (.ret (.ref ((((s.heap.push (itO l1)).push (itO l2)).push { cls := .type "tuple", data := .seq #[.ref s.heap.objs.size, .ref (s.heap.push (itO l1)).objs.size] }).push { cls := .type "tuple", data := .seq #[.none, .none] }).objs.size))) { s with heap := (((((s.heap.push (itO l1)).push (itO l2)).push { cls := .type "tuple", data := .seq #[.ref s.heap.objs.size, .ref (s.heap.push (itO l1)).objs.size] }).push { cls := .type "tuple", data := .seq #[.none, .none] }).push { cls := .type "zip", data := .fields #[.none, .bool false, .bool false, .ref ((s.heap.push (itO l1)).push (itO l2)).objs.size, .ref (((s.heap.push (itO l1)).push (itO l2)).push { cls := .type "tuple", data := .seq #[.ref s.heap.objs.size, .ref (s.heap.push (itO l1)).objs.size] }).objs.size] }) }) :=
  .of_wp fun prog w A R s h => by
    obtain ⟨hp, g, d, tk, os⟩ := s
    obtain ⟨q1, q2, h⟩ := h
    have sz := sub_zip
    have y1 : Heap.IsTuple (Shared.heap ⟨hp, g, d, tk, os⟩) l1 x1 := q1
    have y2 : Heap.IsTuple (Shared.heap ⟨(hp.push (itO l1)), g, d, tk, os⟩) l2 x2 := (Heap.IsTuple.push q2 _)
    wp_walk using wpAny_pyIter_tuple y1, wpAny_pyIter_tuple y2
    exact ⟨_, rfl, h⟩
theorem tc_zip3 (v1 v2 v3 : Value) : checkTypeCall "zip" ⟨[v1, v2, v3], []⟩ = pure () := by kernel_rfl
theorem nc_zip3 (v1 v2 v3 : Value) : checkBuiltinCall "zip.__new__" ⟨[.type "zip", v1, v2, v3], []⟩ = pure () := by kernel_rfl
theorem ao_zip3 (o v1 v2 v3 : Value) : argsOk "object.__init__" ⟨[o, v1, v2, v3], []⟩ := by
  unfold argsOk
  rw [signature?_of (id := "object.__init__") (n := ['_', '_', 't', 'i', 'n', 'i', '_', '_']) (o := ['t', 'c', 'e', 'j', 'b', 'o']) (by kernel_rfl) PySem.F.owner_object]
  kernel_rfl
theorem mt_zip3 (l1 l2 l3 : Addr) (x1 x2 x3 : Array Value) : Meets (Builtin.«zip.__new__» ⟨[.type "zip", .ref l1, .ref l2, .ref l3], []⟩) (fun _ R s => s.heap.IsTuple l1 x1 ∧ s.heap.IsTuple l2 x2 ∧ s.heap.IsTuple l3 x3 ∧
    R (.ok (.ret (.ref (((((s.heap.push (itO l1)).push (itO l2)).push (itO l3)).push { cls := .type "tuple", data := .seq #[.ref s.heap.objs.size, .ref (s.heap.push (itO l1)).objs.size, .ref ((s.heap.push (itO l1)).push (itO l2)).objs.size] }).push { cls := .type "tuple", data := .seq #[.none, .none, .none] }).objs.size))) { s with heap := ((((((s.heap.push (itO l1)).push (itO l2)).push (itO l3)).push { cls := .type "tuple", data := .seq #[.ref s.heap.objs.size, .ref (s.heap.push (itO l1)).objs.size, .ref ((s.heap.push (itO l1)).push (itO l2)).objs.size] }).push { cls := .type "tuple", data := .seq #[.none, .none, .none] }).push { cls := .type "zip", data := .fields #[.none, .bool false, .bool false, .ref (((s.heap.push (itO l1)).push (itO l2)).push (itO l3)).objs.size, .ref ((((s.heap.push (itO l1)).push (itO l2)).push (itO l3)).push { cls := .type "tuple", data := .seq #[.ref s.heap.objs.size, .ref (s.heap.push (itO l1)).objs.size, .ref ((s.heap.push (itO l1)).push (itO l2)).objs.size] }).objs.size] }) }) :=
  .of_wp fun prog w A R s h => by
    obtain ⟨hp, g, d, tk, os⟩ := s
    obtain ⟨q1, q2, q3, h⟩ := h
    have sz := sub_zip
    have y1 : Heap.IsTuple (Shared.heap ⟨hp, g, d, tk, os⟩) l1 x1 := q1
    have y2 : Heap.IsTuple (Shared.heap ⟨(hp.push (itO l1)), g, d, tk, os⟩) l2 x2 := (Heap.IsTuple.push q2 _)
    have y3 : Heap.IsTuple (Shared.heap ⟨((hp.push (itO l1)).push (itO l2)), g, d, tk, os⟩) l3 x3 := (Heap.IsTuple.push (Heap.IsTuple.push q3 _) _)
    wp_walk using wpAny_pyIter_tuple y1, wpAny_pyIter_tuple y2, wpAny_pyIter_tuple y3
    exact ⟨_, rfl, h⟩
theorem tc_zip4 (v1 v2 v3 v4 : Value) : checkTypeCall "zip" ⟨[v1, v2, v3, v4], []⟩ = pure () := by kernel_rfl
theorem nc_zip4 (v1 v2 v3 v4 : Value) : checkBuiltinCall "zip.__new__" ⟨[.type "zip", v1, v2, v3, v4], []⟩ = pure () := by kernel_rfl
theorem ao_zip4 (o v1 v2 v3 v4 : Value) : argsOk "object.__init__" ⟨[o, v1, v2, v3, v4], []⟩ := by
  unfold argsOk
  rw [signature?_of (id := "object.__init__") (n := ['_', '_', 't', 'i', 'n', 'i', '_', '_']) (o := ['t', 'c', 'e', 'j', 'b', 'o']) (by kernel_rfl) PySem.F.owner_object]
  kernel_rfl
theorem mt_zip4 (l1 l2 l3 l4 : Addr) (x1 x2 x3 x4 : Array Value) : Meets (Builtin.«zip.__new__» ⟨[.type "zip", .ref l1, .ref l2, .ref l3, .ref l4], []⟩) (fun _ R s => s.heap.IsTuple l1 x1 ∧ s.heap.IsTuple l2 x2 ∧ s.heap.IsTuple l3 x3 ∧ s.heap.IsTuple l4 x4 ∧
    R (.ok (.ret (.ref ((((((s.heap.push (itO l1)).push (itO l2)).push (itO l3)).push (itO l4)).push { cls := .type "tuple", data := .seq #[.ref s.heap.objs.size, .ref (s.heap.push (itO l1)).objs.size, .ref ((s.heap.push (itO l1)).push (itO l2)).objs.size, .ref (((s.heap.push (itO l1)).push (itO l2)).push (itO l3)).objs.size] }).push { cls := .type "tuple", data := .seq #[.none, .none, .none, .none] }).objs.size))) { s with heap := (((((((s.heap.push (itO l1)).push (itO l2)).push (itO l3)).push (itO l4)).push { cls := .type "tuple", data := .seq #[.ref s.heap.objs.size, .ref (s.heap.push (itO l1)).objs.size, .ref ((s.heap.push (itO l1)).push (itO l2)).objs.size, .ref (((s.heap.push (itO l1)).push (itO l2)).push (itO l3)).objs.size] }).push { cls := .type "tuple", data := .seq #[.none, .none, .none, .none] }).push { cls := .type "zip", data := .fields #[.none, .bool false, .bool false, .ref ((((s.heap.push (itO l1)).push (itO l2)).push (itO l3)).push (itO l4)).objs.size, .ref (((((s.heap.push (itO l1)).push (itO l2)).push (itO l3)).push (itO l4)).push { cls := .type "tuple", data := .seq #[.ref s.heap.objs.size, .ref (s.heap.push (itO l1)).objs.size, .ref ((s.heap.push (itO l1)).push (itO l2)).objs.size, .ref (((s.heap.push (itO l1)).push (itO l2)).push (itO l3)).objs.size] }).objs.size] }) }) :=
  .of_wp fun prog w A R s h => by
    obtain ⟨hp, g, d, tk, os⟩ := s
    obtain ⟨q1, q2, q3, q4, h⟩ := h
    have sz := sub_zip
    have y1 : Heap.IsTuple (Shared.heap ⟨hp, g, d, tk, os⟩) l1 x1 := q1
    have y2 : Heap.IsTuple (Shared.heap ⟨(hp.push (itO l1)), g, d, tk, os⟩) l2 x2 := (Heap.IsTuple.push q2 _)
    have y3 : Heap.IsTuple (Shared.heap ⟨((hp.push (itO l1)).push (itO l2)), g, d, tk, os⟩) l3 x3 := (Heap.IsTuple.push (Heap.IsTuple.push q3 _) _)
    have y4 : Heap.IsTuple (Shared.heap ⟨(((hp.push (itO l1)).push (itO l2)).push (itO l3)), g, d, tk, os⟩) l4 x4 := (Heap.IsTuple.push (Heap.IsTuple.push (Heap.IsTuple.push q4 _) _) _)
    wp_walk using wpAny_pyIter_tuple y1, wpAny_pyIter_tuple y2, wpAny_pyIter_tuple y3, wpAny_pyIter_tuple y4
    exact ⟨_, rfl, h⟩
end RZ
namespace RZ
open PySem PySem.Spec PyProof.Rows L2
open PySem.Sem (wp)
section
variable {prog : Program} {w : World} {A : Around} {E : Value → Shared → Prop} {s : Shared}
theorem call_z1 {l1 : Addr} {x1 : List Value} {Q : Value → Shared → Prop} (q1 : s.heap.IsTuple l1 x1.toArray)
    (h : ∀ h', ZN h' (s.heap.objs.size + 3) (s.heap.objs.size + 1) (s.heap.objs.size + 2) [s.heap.objs.size] [l1] .none (.bool false) (fun _ => 0) [.none] [x1] → h'.objs.size = s.heap.objs.size + 4 → (∀ c o, s.heap.get? c = some o → h'.get? c = some o) → Q (.ref (s.heap.objs.size + 3)) { s with heap := h' }) :
    wpAny (model prog w) A (call (.type "zip") [.ref l1]) Q E s := by
  refine callType_new F.called_zip (by decide) (tc_zip1 _) (nc_zip1 _) (fun o => ao_zip1 o _) F.entry_zip_new (mt_zip1 l1 x1.toArray) ⟨q1, ?_⟩
  have z1 : (s.heap.push (itO l1)).objs.size = s.heap.objs.size + 1 := Heap.size_push ..
  have z2 : ((s.heap.push (itO l1)).push { cls := .type "tuple", data := .seq #[.ref s.heap.objs.size] }).objs.size = s.heap.objs.size + 2 := by rw [Heap.size_push, z1]
  have z3 : (((s.heap.push (itO l1)).push { cls := .type "tuple", data := .seq #[.ref s.heap.objs.size] }).push { cls := .type "tuple", data := .seq #[.none] }).objs.size = s.heap.objs.size + 3 := by rw [Heap.size_push, z2]
  have z4 : ((((s.heap.push (itO l1)).push { cls := .type "tuple", data := .seq #[.ref s.heap.objs.size] }).push { cls := .type "tuple", data := .seq #[.none] }).push { cls := .type "zip", data := .fields #[.none, .bool false, .bool false, .ref (s.heap.push (itO l1)).objs.size, .ref ((s.heap.push (itO l1)).push { cls := .type "tuple", data := .seq #[.ref s.heap.objs.size] }).objs.size] }).objs.size = s.heap.objs.size + 4 := by rw [Heap.size_push, z3]
  have g0 : ((((s.heap.push (itO l1)).push { cls := .type "tuple", data := .seq #[.ref s.heap.objs.size] }).push { cls := .type "tuple", data := .seq #[.none] }).push { cls := .type "zip", data := .fields #[.none, .bool false, .bool false, .ref (s.heap.push (itO l1)).objs.size, .ref ((s.heap.push (itO l1)).push { cls := .type "tuple", data := .seq #[.ref s.heap.objs.size] }).objs.size] }).get? s.heap.objs.size = some _ := (Heap.get?_push_of_some _ (Heap.get?_push_of_some _ (Heap.get?_push_of_some _ (Heap.get?_push_size _ rfl))))
  have g1 : ((((s.heap.push (itO l1)).push { cls := .type "tuple", data := .seq #[.ref s.heap.objs.size] }).push { cls := .type "tuple", data := .seq #[.none] }).push { cls := .type "zip", data := .fields #[.none, .bool false, .bool false, .ref (s.heap.push (itO l1)).objs.size, .ref ((s.heap.push (itO l1)).push { cls := .type "tuple", data := .seq #[.ref s.heap.objs.size] }).objs.size] }).get? (s.heap.push (itO l1)).objs.size = some _ := (Heap.get?_push_of_some _ (Heap.get?_push_of_some _ (Heap.get?_push_size _ rfl)))
  have g2 : ((((s.heap.push (itO l1)).push { cls := .type "tuple", data := .seq #[.ref s.heap.objs.size] }).push { cls := .type "tuple", data := .seq #[.none] }).push { cls := .type "zip", data := .fields #[.none, .bool false, .bool false, .ref (s.heap.push (itO l1)).objs.size, .ref ((s.heap.push (itO l1)).push { cls := .type "tuple", data := .seq #[.ref s.heap.objs.size] }).objs.size] }).get? ((s.heap.push (itO l1)).push { cls := .type "tuple", data := .seq #[.ref s.heap.objs.size] }).objs.size = some _ := (Heap.get?_push_of_some _ (Heap.get?_push_size _ rfl))
  have g3 : ((((s.heap.push (itO l1)).push { cls := .type "tuple", data := .seq #[.ref s.heap.objs.size] }).push { cls := .type "tuple", data := .seq #[.none] }).push { cls := .type "zip", data := .fields #[.none, .bool false, .bool false, .ref (s.heap.push (itO l1)).objs.size, .ref ((s.heap.push (itO l1)).push { cls := .type "tuple", data := .seq #[.ref s.heap.objs.size] }).objs.size] }).get? (((s.heap.push (itO l1)).push { cls := .type "tuple", data := .seq #[.ref s.heap.objs.size] }).push { cls := .type "tuple", data := .seq #[.none] }).objs.size = some _ := (Heap.get?_push_size _ rfl)
  have up : ∀ c o, s.heap.get? c = some o → ((((s.heap.push (itO l1)).push { cls := .type "tuple", data := .seq #[.ref s.heap.objs.size] }).push { cls := .type "tuple", data := .seq #[.none] }).push { cls := .type "zip", data := .fields #[.none, .bool false, .bool false, .ref (s.heap.push (itO l1)).objs.size, .ref ((s.heap.push (itO l1)).push { cls := .type "tuple", data := .seq #[.ref s.heap.objs.size] }).objs.size] }).get? c = some o := fun c o q => (Heap.get?_push_of_some _ (Heap.get?_push_of_some _ (Heap.get?_push_of_some _ (Heap.get?_push_of_some _ q))))
  show _ ∧ _
  generalize ((((s.heap.push (itO l1)).push { cls := .type "tuple", data := .seq #[.ref s.heap.objs.size] }).push { cls := .type "tuple", data := .seq #[.none] }).push { cls := .type "zip", data := .fields #[.none, .bool false, .bool false, .ref (s.heap.push (itO l1)).objs.size, .ref ((s.heap.push (itO l1)).push { cls := .type "tuple", data := .seq #[.ref s.heap.objs.size] }).objs.size] }) = h9 at g0 g1 g2 g3 z4 up ⊢
  rw [z1] at g1
  rw [z2] at g2
  rw [z1, z2, z3] at g3
  rw [z3]
  refine ⟨⟨_, g3, rfl⟩, h _ ⟨g3, ?_, ?_, fun j i l a b => match j, a, b with
    | 0, a, b => by cases a; cases b; exact ⟨_, g0, rfl, rfl⟩
    | _ + 1, a, b => by simp at a, fun j l xs a b => match j, a, b with
    | 0, a, b => by cases a; cases b; obtain ⟨o, u, v⟩ := q1; exact ⟨o, up _ _ u, v⟩
    | _ + 1, a, b => by simp at a⟩ z4 up⟩
  · exact g1
  · exact g2
theorem call_z2 {l1 l2 : Addr} {x1 x2 : List Value} {Q : Value → Shared → Prop} (q1 : s.heap.IsTuple l1 x1.toArray) (q2 : s.heap.IsTuple l2 x2.toArray)
    (h : ∀ h', ZN h' (s.heap.objs.size + 4) (s.heap.objs.size + 2) (s.heap.objs.size + 3) [s.heap.objs.size, s.heap.objs.size + 1] [l1, l2] .none (.bool false) (fun _ => 0) [.none, .none] [x1, x2] → h'.objs.size = s.heap.objs.size + 5 → (∀ c o, s.heap.get? c = some o → h'.get? c = some o) → Q (.ref (s.heap.objs.size + 4)) { s with heap := h' }) :
    wpAny (model prog w) A (call (.type "zip") [.ref l1, .ref l2]) Q E s := by
  refine callType_new F.called_zip (by decide) (tc_zip2 _ _) (nc_zip2 _ _) (fun o => ao_zip2 o _ _) F.entry_zip_new (mt_zip2 l1 l2 x1.toArray x2.toArray) ⟨q1, q2, ?_⟩
  have z1 : (s.heap.push (itO l1)).objs.size = s.heap.objs.size + 1 := Heap.size_push ..
  have z2 : ((s.heap.push (itO l1)).push (itO l2)).objs.size = s.heap.objs.size + 2 := by rw [Heap.size_push, z1]
  have z3 : (((s.heap.push (itO l1)).push (itO l2)).push { cls := .type "tuple", data := .seq #[.ref s.heap.objs.size, .ref (s.heap.push (itO l1)).objs.size] }).objs.size = s.heap.objs.size + 3 := by rw [Heap.size_push, z2]
  have z4 : ((((s.heap.push (itO l1)).push (itO l2)).push { cls := .type "tuple", data := .seq #[.ref s.heap.objs.size, .ref (s.heap.push (itO l1)).objs.size] }).push { cls := .type "tuple", data := .seq #[.none, .none] }).objs.size = s.heap.objs.size + 4 := by rw [Heap.size_push, z3]
  have z5 : (((((s.heap.push (itO l1)).push (itO l2)).push { cls := .type "tuple", data := .seq #[.ref s.heap.objs.size, .ref (s.heap.push (itO l1)).objs.size] }).push { cls := .type "tuple", data := .seq #[.none, .none] }).push { cls := .type "zip", data := .fields #[.none, .bool false, .bool false, .ref ((s.heap.push (itO l1)).push (itO l2)).objs.size, .ref (((s.heap.push (itO l1)).push (itO l2)).push { cls := .type "tuple", data := .seq #[.ref s.heap.objs.size, .ref (s.heap.push (itO l1)).objs.size] }).objs.size] }).objs.size = s.heap.objs.size + 5 := by rw [Heap.size_push, z4]
  have g0 : (((((s.heap.push (itO l1)).push (itO l2)).push { cls := .type "tuple", data := .seq #[.ref s.heap.objs.size, .ref (s.heap.push (itO l1)).objs.size] }).push { cls := .type "tuple", data := .seq #[.none, .none] }).push { cls := .type "zip", data := .fields #[.none, .bool false, .bool false, .ref ((s.heap.push (itO l1)).push (itO l2)).objs.size, .ref (((s.heap.push (itO l1)).push (itO l2)).push { cls := .type "tuple", data := .seq #[.ref s.heap.objs.size, .ref (s.heap.push (itO l1)).objs.size] }).objs.size] }).get? s.heap.objs.size = some _ := (Heap.get?_push_of_some _ (Heap.get?_push_of_some _ (Heap.get?_push_of_some _ (Heap.get?_push_of_some _ (Heap.get?_push_size _ rfl)))))
  have g1 : (((((s.heap.push (itO l1)).push (itO l2)).push { cls := .type "tuple", data := .seq #[.ref s.heap.objs.size, .ref (s.heap.push (itO l1)).objs.size] }).push { cls := .type "tuple", data := .seq #[.none, .none] }).push { cls := .type "zip", data := .fields #[.none, .bool false, .bool false, .ref ((s.heap.push (itO l1)).push (itO l2)).objs.size, .ref (((s.heap.push (itO l1)).push (itO l2)).push { cls := .type "tuple", data := .seq #[.ref s.heap.objs.size, .ref (s.heap.push (itO l1)).objs.size] }).objs.size] }).get? (s.heap.push (itO l1)).objs.size = some _ := (Heap.get?_push_of_some _ (Heap.get?_push_of_some _ (Heap.get?_push_of_some _ (Heap.get?_push_size _ rfl))))
  have g2 : (((((s.heap.push (itO l1)).push (itO l2)).push { cls := .type "tuple", data := .seq #[.ref s.heap.objs.size, .ref (s.heap.push (itO l1)).objs.size] }).push { cls := .type "tuple", data := .seq #[.none, .none] }).push { cls := .type "zip", data := .fields #[.none, .bool false, .bool false, .ref ((s.heap.push (itO l1)).push (itO l2)).objs.size, .ref (((s.heap.push (itO l1)).push (itO l2)).push { cls := .type "tuple", data := .seq #[.ref s.heap.objs.size, .ref (s.heap.push (itO l1)).objs.size] }).objs.size] }).get? ((s.heap.push (itO l1)).push (itO l2)).objs.size = some _ := (Heap.get?_push_of_some _ (Heap.get?_push_of_some _ (Heap.get?_push_size _ rfl)))
  have g3 : (((((s.heap.push (itO l1)).push (itO l2)).push { cls := .type "tuple", data := .seq #[.ref s.heap.objs.size, .ref (s.heap.push (itO l1)).objs.size] }).push { cls := .type "tuple", data := .seq #[.none, .none] }).push { cls := .type "zip", data := .fields #[.none, .bool false, .bool false, .ref ((s.heap.push (itO l1)).push (itO l2)).objs.size, .ref (((s.heap.push (itO l1)).push (itO l2)).push { cls := .type "tuple", data := .seq #[.ref s.heap.objs.size, .ref (s.heap.push (itO l1)).objs.size] }).objs.size] }).get? (((s.heap.push (itO l1)).push (itO l2)).push { cls := .type "tuple", data := .seq #[.ref s.heap.objs.size, .ref (s.heap.push (itO l1)).objs.size] }).objs.size = some _ := (Heap.get?_push_of_some _ (Heap.get?_push_size _ rfl))
  have g4 : (((((s.heap.push (itO l1)).push (itO l2)).push { cls := .type "tuple", data := .seq #[.ref s.heap.objs.size, .ref (s.heap.push (itO l1)).objs.size] }).push { cls := .type "tuple", data := .seq #[.none, .none] }).push { cls := .type "zip", data := .fields #[.none, .bool false, .bool false, .ref ((s.heap.push (itO l1)).push (itO l2)).objs.size, .ref (((s.heap.push (itO l1)).push (itO l2)).push { cls := .type "tuple", data := .seq #[.ref s.heap.objs.size, .ref (s.heap.push (itO l1)).objs.size] }).objs.size] }).get? ((((s.heap.push (itO l1)).push (itO l2)).push { cls := .type "tuple", data := .seq #[.ref s.heap.objs.size, .ref (s.heap.push (itO l1)).objs.size] }).push { cls := .type "tuple", data := .seq #[.none, .none] }).objs.size = some _ := (Heap.get?_push_size _ rfl)
  have up : ∀ c o, s.heap.get? c = some o → (((((s.heap.push (itO l1)).push (itO l2)).push { cls := .type "tuple", data := .seq #[.ref s.heap.objs.size, .ref (s.heap.push (itO l1)).objs.size] }).push { cls := .type "tuple", data := .seq #[.none, .none] }).push { cls := .type "zip", data := .fields #[.none, .bool false, .bool false, .ref ((s.heap.push (itO l1)).push (itO l2)).objs.size, .ref (((s.heap.push (itO l1)).push (itO l2)).push { cls := .type "tuple", data := .seq #[.ref s.heap.objs.size, .ref (s.heap.push (itO l1)).objs.size] }).objs.size] }).get? c = some o := fun c o q => (Heap.get?_push_of_some _ (Heap.get?_push_of_some _ (Heap.get?_push_of_some _ (Heap.get?_push_of_some _ (Heap.get?_push_of_some _ q)))))
  show _ ∧ _
  generalize (((((s.heap.push (itO l1)).push (itO l2)).push { cls := .type "tuple", data := .seq #[.ref s.heap.objs.size, .ref (s.heap.push (itO l1)).objs.size] }).push { cls := .type "tuple", data := .seq #[.none, .none] }).push { cls := .type "zip", data := .fields #[.none, .bool false, .bool false, .ref ((s.heap.push (itO l1)).push (itO l2)).objs.size, .ref (((s.heap.push (itO l1)).push (itO l2)).push { cls := .type "tuple", data := .seq #[.ref s.heap.objs.size, .ref (s.heap.push (itO l1)).objs.size] }).objs.size] }) = h9 at g0 g1 g2 g3 g4 z5 up ⊢
  rw [z1] at g1
  rw [z1, z2] at g2
  rw [z3] at g3
  rw [z2, z3, z4] at g4
  rw [z4]
  refine ⟨⟨_, g4, rfl⟩, h _ ⟨g4, ?_, ?_, fun j i l a b => match j, a, b with
    | 0, a, b => by cases a; cases b; exact ⟨_, g0, rfl, rfl⟩
    | 1, a, b => by cases a; cases b; exact ⟨_, g1, rfl, rfl⟩
    | _ + 2, a, b => by simp at a, fun j l xs a b => match j, a, b with
    | 0, a, b => by cases a; cases b; obtain ⟨o, u, v⟩ := q1; exact ⟨o, up _ _ u, v⟩
    | 1, a, b => by cases a; cases b; obtain ⟨o, u, v⟩ := q2; exact ⟨o, up _ _ u, v⟩
    | _ + 2, a, b => by simp at a⟩ z5 up⟩
  · exact g2
  · exact g3
theorem call_z3 {l1 l2 l3 : Addr} {x1 x2 x3 : List Value} {Q : Value → Shared → Prop} (q1 : s.heap.IsTuple l1 x1.toArray) (q2 : s.heap.IsTuple l2 x2.toArray) (q3 : s.heap.IsTuple l3 x3.toArray)
    (h : ∀ h', ZN h' (s.heap.objs.size + 5) (s.heap.objs.size + 3) (s.heap.objs.size + 4) [s.heap.objs.size, s.heap.objs.size + 1, s.heap.objs.size + 2] [l1, l2, l3] .none (.bool false) (fun _ => 0) [.none, .none, .none] [x1, x2, x3] → h'.objs.size = s.heap.objs.size + 6 → (∀ c o, s.heap.get? c = some o → h'.get? c = some o) → Q (.ref (s.heap.objs.size + 5)) { s with heap := h' }) :
    wpAny (model prog w) A (call (.type "zip") [.ref l1, .ref l2, .ref l3]) Q E s := by
  refine callType_new F.called_zip (by decide) (tc_zip3 _ _ _) (nc_zip3 _ _ _) (fun o => ao_zip3 o _ _ _) F.entry_zip_new (mt_zip3 l1 l2 l3 x1.toArray x2.toArray x3.toArray) ⟨q1, q2, q3, ?_⟩
  have z1 : (s.heap.push (itO l1)).objs.size = s.heap.objs.size + 1 := Heap.size_push ..
  have z2 : ((s.heap.push (itO l1)).push (itO l2)).objs.size = s.heap.objs.size + 2 := by rw [Heap.size_push, z1]
  have z3 : (((s.heap.push (itO l1)).push (itO l2)).push (itO l3)).objs.size = s.heap.objs.size + 3 := by rw [Heap.size_push, z2]
  have z4 : ((((s.heap.push (itO l1)).push (itO l2)).push (itO l3)).push { cls := .type "tuple", data := .seq #[.ref s.heap.objs.size, .ref (s.heap.push (itO l1)).objs.size, .ref ((s.heap.push (itO l1)).push (itO l2)).objs.size] }).objs.size = s.heap.objs.size + 4 := by rw [Heap.size_push, z3]
  have z5 : (((((s.heap.push (itO l1)).push (itO l2)).push (itO l3)).push { cls := .type "tuple", data := .seq #[.ref s.heap.objs.size, .ref (s.heap.push (itO l1)).objs.size, .ref ((s.heap.push (itO l1)).push (itO l2)).objs.size] }).push { cls := .type "tuple", data := .seq #[.none, .none, .none] }).objs.size = s.heap.objs.size + 5 := by rw [Heap.size_push, z4]
  have z6 : ((((((s.heap.push (itO l1)).push (itO l2)).push (itO l3)).push { cls := .type "tuple", data := .seq #[.ref s.heap.objs.size, .ref (s.heap.push (itO l1)).objs.size, .ref ((s.heap.push (itO l1)).push (itO l2)).objs.size] }).push { cls := .type "tuple", data := .seq #[.none, .none, .none] }).push { cls := .type "zip", data := .fields #[.none, .bool false, .bool false, .ref (((s.heap.push (itO l1)).push (itO l2)).push (itO l3)).objs.size, .ref ((((s.heap.push (itO l1)).push (itO l2)).push (itO l3)).push { cls := .type "tuple", data := .seq #[.ref s.heap.objs.size, .ref (s.heap.push (itO l1)).objs.size, .ref ((s.heap.push (itO l1)).push (itO l2)).objs.size] }).objs.size] }).objs.size = s.heap.objs.size + 6 := by rw [Heap.size_push, z5]
  have g0 : ((((((s.heap.push (itO l1)).push (itO l2)).push (itO l3)).push { cls := .type "tuple", data := .seq #[.ref s.heap.objs.size, .ref (s.heap.push (itO l1)).objs.size, .ref ((s.heap.push (itO l1)).push (itO l2)).objs.size] }).push { cls := .type "tuple", data := .seq #[.none, .none, .none] }).push { cls := .type "zip", data := .fields #[.none, .bool false, .bool false, .ref (((s.heap.push (itO l1)).push (itO l2)).push (itO l3)).objs.size, .ref ((((s.heap.push (itO l1)).push (itO l2)).push (itO l3)).push { cls := .type "tuple", data := .seq #[.ref s.heap.objs.size, .ref (s.heap.push (itO l1)).objs.size, .ref ((s.heap.push (itO l1)).push (itO l2)).objs.size] }).objs.size] }).get? s.heap.objs.size = some _ := (Heap.get?_push_of_some _ (Heap.get?_push_of_some _ (Heap.get?_push_of_some _ (Heap.get?_push_of_some _ (Heap.get?_push_of_some _ (Heap.get?_push_size _ rfl))))))
  have g1 : ((((((s.heap.push (itO l1)).push (itO l2)).push (itO l3)).push { cls := .type "tuple", data := .seq #[.ref s.heap.objs.size, .ref (s.heap.push (itO l1)).objs.size, .ref ((s.heap.push (itO l1)).push (itO l2)).objs.size] }).push { cls := .type "tuple", data := .seq #[.none, .none, .none] }).push { cls := .type "zip", data := .fields #[.none, .bool false, .bool false, .ref (((s.heap.push (itO l1)).push (itO l2)).push (itO l3)).objs.size, .ref ((((s.heap.push (itO l1)).push (itO l2)).push (itO l3)).push { cls := .type "tuple", data := .seq #[.ref s.heap.objs.size, .ref (s.heap.push (itO l1)).objs.size, .ref ((s.heap.push (itO l1)).push (itO l2)).objs.size] }).objs.size] }).get? (s.heap.push (itO l1)).objs.size = some _ := (Heap.get?_push_of_some _ (Heap.get?_push_of_some _ (Heap.get?_push_of_some _ (Heap.get?_push_of_some _ (Heap.get?_push_size _ rfl)))))
  have g2 : ((((((s.heap.push (itO l1)).push (itO l2)).push (itO l3)).push { cls := .type "tuple", data := .seq #[.ref s.heap.objs.size, .ref (s.heap.push (itO l1)).objs.size, .ref ((s.heap.push (itO l1)).push (itO l2)).objs.size] }).push { cls := .type "tuple", data := .seq #[.none, .none, .none] }).push { cls := .type "zip", data := .fields #[.none, .bool false, .bool false, .ref (((s.heap.push (itO l1)).push (itO l2)).push (itO l3)).objs.size, .ref ((((s.heap.push (itO l1)).push (itO l2)).push (itO l3)).push { cls := .type "tuple", data := .seq #[.ref s.heap.objs.size, .ref (s.heap.push (itO l1)).objs.size, .ref ((s.heap.push (itO l1)).push (itO l2)).objs.size] }).objs.size] }).get? ((s.heap.push (itO l1)).push (itO l2)).objs.size = some _ := (Heap.get?_push_of_some _ (Heap.get?_push_of_some _ (Heap.get?_push_of_some _ (Heap.get?_push_size _ rfl))))
  have g3 : ((((((s.heap.push (itO l1)).push (itO l2)).push (itO l3)).push { cls := .type "tuple", data := .seq #[.ref s.heap.objs.size, .ref (s.heap.push (itO l1)).objs.size, .ref ((s.heap.push (itO l1)).push (itO l2)).objs.size] }).push { cls := .type "tuple", data := .seq #[.none, .none, .none] }).push { cls := .type "zip", data := .fields #[.none, .bool false, .bool false, .ref (((s.heap.push (itO l1)).push (itO l2)).push (itO l3)).objs.size, .ref ((((s.heap.push (itO l1)).push (itO l2)).push (itO l3)).push { cls := .type "tuple", data := .seq #[.ref s.heap.objs.size, .ref (s.heap.push (itO l1)).objs.size, .ref ((s.heap.push (itO l1)).push (itO l2)).objs.size] }).objs.size] }).get? (((s.heap.push (itO l1)).push (itO l2)).push (itO l3)).objs.size = some _ := (Heap.get?_push_of_some _ (Heap.get?_push_of_some _ (Heap.get?_push_size _ rfl)))
  have g4 : ((((((s.heap.push (itO l1)).push (itO l2)).push (itO l3)).push { cls := .type "tuple", data := .seq #[.ref s.heap.objs.size, .ref (s.heap.push (itO l1)).objs.size, .ref ((s.heap.push (itO l1)).push (itO l2)).objs.size] }).push { cls := .type "tuple", data := .seq #[.none, .none, .none] }).push { cls := .type "zip", data := .fields #[.none, .bool false, .bool false, .ref (((s.heap.push (itO l1)).push (itO l2)).push (itO l3)).objs.size, .ref ((((s.heap.push (itO l1)).push (itO l2)).push (itO l3)).push { cls := .type "tuple", data := .seq #[.ref s.heap.objs.size, .ref (s.heap.push (itO l1)).objs.size, .ref ((s.heap.push (itO l1)).push (itO l2)).objs.size] }).objs.size] }).get? ((((s.heap.push (itO l1)).push (itO l2)).push (itO l3)).push { cls := .type "tuple", data := .seq #[.ref s.heap.objs.size, .ref (s.heap.push (itO l1)).objs.size, .ref ((s.heap.push (itO l1)).push (itO l2)).objs.size] }).objs.size = some _ := (Heap.get?_push_of_some _ (Heap.get?_push_size _ rfl))
  have g5 : ((((((s.heap.push (itO l1)).push (itO l2)).push (itO l3)).push { cls := .type "tuple", data := .seq #[.ref s.heap.objs.size, .ref (s.heap.push (itO l1)).objs.size, .ref ((s.heap.push (itO l1)).push (itO l2)).objs.size] }).push { cls := .type "tuple", data := .seq #[.none, .none, .none] }).push { cls := .type "zip", data := .fields #[.none, .bool false, .bool false, .ref (((s.heap.push (itO l1)).push (itO l2)).push (itO l3)).objs.size, .ref ((((s.heap.push (itO l1)).push (itO l2)).push (itO l3)).push { cls := .type "tuple", data := .seq #[.ref s.heap.objs.size, .ref (s.heap.push (itO l1)).objs.size, .ref ((s.heap.push (itO l1)).push (itO l2)).objs.size] }).objs.size] }).get? (((((s.heap.push (itO l1)).push (itO l2)).push (itO l3)).push { cls := .type "tuple", data := .seq #[.ref s.heap.objs.size, .ref (s.heap.push (itO l1)).objs.size, .ref ((s.heap.push (itO l1)).push (itO l2)).objs.size] }).push { cls := .type "tuple", data := .seq #[.none, .none, .none] }).objs.size = some _ := (Heap.get?_push_size _ rfl)
  have up : ∀ c o, s.heap.get? c = some o → ((((((s.heap.push (itO l1)).push (itO l2)).push (itO l3)).push { cls := .type "tuple", data := .seq #[.ref s.heap.objs.size, .ref (s.heap.push (itO l1)).objs.size, .ref ((s.heap.push (itO l1)).push (itO l2)).objs.size] }).push { cls := .type "tuple", data := .seq #[.none, .none, .none] }).push { cls := .type "zip", data := .fields #[.none, .bool false, .bool false, .ref (((s.heap.push (itO l1)).push (itO l2)).push (itO l3)).objs.size, .ref ((((s.heap.push (itO l1)).push (itO l2)).push (itO l3)).push { cls := .type "tuple", data := .seq #[.ref s.heap.objs.size, .ref (s.heap.push (itO l1)).objs.size, .ref ((s.heap.push (itO l1)).push (itO l2)).objs.size] }).objs.size] }).get? c = some o := fun c o q => (Heap.get?_push_of_some _ (Heap.get?_push_of_some _ (Heap.get?_push_of_some _ (Heap.get?_push_of_some _ (Heap.get?_push_of_some _ (Heap.get?_push_of_some _ q))))))
  show _ ∧ _
  generalize ((((((s.heap.push (itO l1)).push (itO l2)).push (itO l3)).push { cls := .type "tuple", data := .seq #[.ref s.heap.objs.size, .ref (s.heap.push (itO l1)).objs.size, .ref ((s.heap.push (itO l1)).push (itO l2)).objs.size] }).push { cls := .type "tuple", data := .seq #[.none, .none, .none] }).push { cls := .type "zip", data := .fields #[.none, .bool false, .bool false, .ref (((s.heap.push (itO l1)).push (itO l2)).push (itO l3)).objs.size, .ref ((((s.heap.push (itO l1)).push (itO l2)).push (itO l3)).push { cls := .type "tuple", data := .seq #[.ref s.heap.objs.size, .ref (s.heap.push (itO l1)).objs.size, .ref ((s.heap.push (itO l1)).push (itO l2)).objs.size] }).objs.size] }) = h9 at g0 g1 g2 g3 g4 g5 z6 up ⊢
  rw [z1] at g1
  rw [z2] at g2
  rw [z1, z2, z3] at g3
  rw [z4] at g4
  rw [z3, z4, z5] at g5
  rw [z5]
  refine ⟨⟨_, g5, rfl⟩, h _ ⟨g5, ?_, ?_, fun j i l a b => match j, a, b with
    | 0, a, b => by cases a; cases b; exact ⟨_, g0, rfl, rfl⟩
    | 1, a, b => by cases a; cases b; exact ⟨_, g1, rfl, rfl⟩
    | 2, a, b => by cases a; cases b; exact ⟨_, g2, rfl, rfl⟩
    | _ + 3, a, b => by simp at a, fun j l xs a b => match j, a, b with
    | 0, a, b => by cases a; cases b; obtain ⟨o, u, v⟩ := q1; exact ⟨o, up _ _ u, v⟩
    | 1, a, b => by cases a; cases b; obtain ⟨o, u, v⟩ := q2; exact ⟨o, up _ _ u, v⟩
    | 2, a, b => by cases a; cases b; obtain ⟨o, u, v⟩ := q3; exact ⟨o, up _ _ u, v⟩
    | _ + 3, a, b => by simp at a⟩ z6 up⟩
  · exact g3
  · exact g4
theorem call_z4 {l1 l2 l3 l4 : Addr} {x1 x2 x3 x4 : List Value} {Q : Value → Shared → Prop} (q1 : s.heap.IsTuple l1 x1.toArray) (q2 : s.heap.IsTuple l2 x2.toArray) (q3 : s.heap.IsTuple l3 x3.toArray) (q4 : s.heap.IsTuple l4 x4.toArray)
    (h : ∀ h', ZN h' (s.heap.objs.size + 6) (s.heap.objs.size + 4) (s.heap.objs.size + 5) [s.heap.objs.size, s.heap.objs.size + 1, s.heap.objs.size + 2, s.heap.objs.size + 3] [l1, l2, l3, l4] .none (.bool false) (fun _ => 0) [.none, .none, .none, .none] [x1, x2, x3, x4] → h'.objs.size = s.heap.objs.size + 7 → (∀ c o, s.heap.get? c = some o → h'.get? c = some o) → Q (.ref (s.heap.objs.size + 6)) { s with heap := h' }) :
    wpAny (model prog w) A (call (.type "zip") [.ref l1, .ref l2, .ref l3, .ref l4]) Q E s := by
  refine callType_new F.called_zip (by decide) (tc_zip4 _ _ _ _) (nc_zip4 _ _ _ _) (fun o => ao_zip4 o _ _ _ _) F.entry_zip_new (mt_zip4 l1 l2 l3 l4 x1.toArray x2.toArray x3.toArray x4.toArray) ⟨q1, q2, q3, q4, ?_⟩
  have z1 : (s.heap.push (itO l1)).objs.size = s.heap.objs.size + 1 := Heap.size_push ..
  have z2 : ((s.heap.push (itO l1)).push (itO l2)).objs.size = s.heap.objs.size + 2 := by rw [Heap.size_push, z1]
  have z3 : (((s.heap.push (itO l1)).push (itO l2)).push (itO l3)).objs.size = s.heap.objs.size + 3 := by rw [Heap.size_push, z2]
  have z4 : ((((s.heap.push (itO l1)).push (itO l2)).push (itO l3)).push (itO l4)).objs.size = s.heap.objs.size + 4 := by rw [Heap.size_push, z3]
  have z5 : (((((s.heap.push (itO l1)).push (itO l2)).push (itO l3)).push (itO l4)).push { cls := .type "tuple", data := .seq #[.ref s.heap.objs.size, .ref (s.heap.push (itO l1)).objs.size, .ref ((s.heap.push (itO l1)).push (itO l2)).objs.size, .ref (((s.heap.push (itO l1)).push (itO l2)).push (itO l3)).objs.size] }).objs.size = s.heap.objs.size + 5 := by rw [Heap.size_push, z4]
  have z6 : ((((((s.heap.push (itO l1)).push (itO l2)).push (itO l3)).push (itO l4)).push { cls := .type "tuple", data := .seq #[.ref s.heap.objs.size, .ref (s.heap.push (itO l1)).objs.size, .ref ((s.heap.push (itO l1)).push (itO l2)).objs.size, .ref (((s.heap.push (itO l1)).push (itO l2)).push (itO l3)).objs.size] }).push { cls := .type "tuple", data := .seq #[.none, .none, .none, .none] }).objs.size = s.heap.objs.size + 6 := by rw [Heap.size_push, z5]
  have z7 : (((((((s.heap.push (itO l1)).push (itO l2)).push (itO l3)).push (itO l4)).push { cls := .type "tuple", data := .seq #[.ref s.heap.objs.size, .ref (s.heap.push (itO l1)).objs.size, .ref ((s.heap.push (itO l1)).push (itO l2)).objs.size, .ref (((s.heap.push (itO l1)).push (itO l2)).push (itO l3)).objs.size] }).push { cls := .type "tuple", data := .seq #[.none, .none, .none, .none] }).push { cls := .type "zip", data := .fields #[.none, .bool false, .bool false, .ref ((((s.heap.push (itO l1)).push (itO l2)).push (itO l3)).push (itO l4)).objs.size, .ref (((((s.heap.push (itO l1)).push (itO l2)).push (itO l3)).push (itO l4)).push { cls := .type "tuple", data := .seq #[.ref s.heap.objs.size, .ref (s.heap.push (itO l1)).objs.size, .ref ((s.heap.push (itO l1)).push (itO l2)).objs.size, .ref (((s.heap.push (itO l1)).push (itO l2)).push (itO l3)).objs.size] }).objs.size] }).objs.size = s.heap.objs.size + 7 := by rw [Heap.size_push, z6]
  have g0 : (((((((s.heap.push (itO l1)).push (itO l2)).push (itO l3)).push (itO l4)).push { cls := .type "tuple", data := .seq #[.ref s.heap.objs.size, .ref (s.heap.push (itO l1)).objs.size, .ref ((s.heap.push (itO l1)).push (itO l2)).objs.size, .ref (((s.heap.push (itO l1)).push (itO l2)).push (itO l3)).objs.size] }).push { cls := .type "tuple", data := .seq #[.none, .none, .none, .none] }).push { cls := .type "zip", data := .fields #[.none, .bool false, .bool false, .ref ((((s.heap.push (itO l1)).push (itO l2)).push (itO l3)).push (itO l4)).objs.size, .ref (((((s.heap.push (itO l1)).push (itO l2)).push (itO l3)).push (itO l4)).push { cls := .type "tuple", data := .seq #[.ref s.heap.objs.size, .ref (s.heap.push (itO l1)).objs.size, .ref ((s.heap.push (itO l1)).push (itO l2)).objs.size, .ref (((s.heap.push (itO l1)).push (itO l2)).push (itO l3)).objs.size] }).objs.size] }).get? s.heap.objs.size = some _ := (Heap.get?_push_of_some _ (Heap.get?_push_of_some _ (Heap.get?_push_of_some _ (Heap.get?_push_of_some _ (Heap.get?_push_of_some _ (Heap.get?_push_of_some _ (Heap.get?_push_size _ rfl)))))))
  have g1 : (((((((s.heap.push (itO l1)).push (itO l2)).push (itO l3)).push (itO l4)).push { cls := .type "tuple", data := .seq #[.ref s.heap.objs.size, .ref (s.heap.push (itO l1)).objs.size, .ref ((s.heap.push (itO l1)).push (itO l2)).objs.size, .ref (((s.heap.push (itO l1)).push (itO l2)).push (itO l3)).objs.size] }).push { cls := .type "tuple", data := .seq #[.none, .none, .none, .none] }).push { cls := .type "zip", data := .fields #[.none, .bool false, .bool false, .ref ((((s.heap.push (itO l1)).push (itO l2)).push (itO l3)).push (itO l4)).objs.size, .ref (((((s.heap.push (itO l1)).push (itO l2)).push (itO l3)).push (itO l4)).push { cls := .type "tuple", data := .seq #[.ref s.heap.objs.size, .ref (s.heap.push (itO l1)).objs.size, .ref ((s.heap.push (itO l1)).push (itO l2)).objs.size, .ref (((s.heap.push (itO l1)).push (itO l2)).push (itO l3)).objs.size] }).objs.size] }).get? (s.heap.push (itO l1)).objs.size = some _ := (Heap.get?_push_of_some _ (Heap.get?_push_of_some _ (Heap.get?_push_of_some _ (Heap.get?_push_of_some _ (Heap.get?_push_of_some _ (Heap.get?_push_size _ rfl))))))
  have g2 : (((((((s.heap.push (itO l1)).push (itO l2)).push (itO l3)).push (itO l4)).push { cls := .type "tuple", data := .seq #[.ref s.heap.objs.size, .ref (s.heap.push (itO l1)).objs.size, .ref ((s.heap.push (itO l1)).push (itO l2)).objs.size, .ref (((s.heap.push (itO l1)).push (itO l2)).push (itO l3)).objs.size] }).push { cls := .type "tuple", data := .seq #[.none, .none, .none, .none] }).push { cls := .type "zip", data := .fields #[.none, .bool false, .bool false, .ref ((((s.heap.push (itO l1)).push (itO l2)).push (itO l3)).push (itO l4)).objs.size, .ref (((((s.heap.push (itO l1)).push (itO l2)).push (itO l3)).push (itO l4)).push { cls := .type "tuple", data := .seq #[.ref s.heap.objs.size, .ref (s.heap.push (itO l1)).objs.size, .ref ((s.heap.push (itO l1)).push (itO l2)).objs.size, .ref (((s.heap.push (itO l1)).push (itO l2)).push (itO l3)).objs.size] }).objs.size] }).get? ((s.heap.push (itO l1)).push (itO l2)).objs.size = some _ := (Heap.get?_push_of_some _ (Heap.get?_push_of_some _ (Heap.get?_push_of_some _ (Heap.get?_push_of_some _ (Heap.get?_push_size _ rfl)))))
  have g3 : (((((((s.heap.push (itO l1)).push (itO l2)).push (itO l3)).push (itO l4)).push { cls := .type "tuple", data := .seq #[.ref s.heap.objs.size, .ref (s.heap.push (itO l1)).objs.size, .ref ((s.heap.push (itO l1)).push (itO l2)).objs.size, .ref (((s.heap.push (itO l1)).push (itO l2)).push (itO l3)).objs.size] }).push { cls := .type "tuple", data := .seq #[.none, .none, .none, .none] }).push { cls := .type "zip", data := .fields #[.none, .bool false, .bool false, .ref ((((s.heap.push (itO l1)).push (itO l2)).push (itO l3)).push (itO l4)).objs.size, .ref (((((s.heap.push (itO l1)).push (itO l2)).push (itO l3)).push (itO l4)).push { cls := .type "tuple", data := .seq #[.ref s.heap.objs.size, .ref (s.heap.push (itO l1)).objs.size, .ref ((s.heap.push (itO l1)).push (itO l2)).objs.size, .ref (((s.heap.push (itO l1)).push (itO l2)).push (itO l3)).objs.size] }).objs.size] }).get? (((s.heap.push (itO l1)).push (itO l2)).push (itO l3)).objs.size = some _ := (Heap.get?_push_of_some _ (Heap.get?_push_of_some _ (Heap.get?_push_of_some _ (Heap.get?_push_size _ rfl))))
  have g4 : (((((((s.heap.push (itO l1)).push (itO l2)).push (itO l3)).push (itO l4)).push { cls := .type "tuple", data := .seq #[.ref s.heap.objs.size, .ref (s.heap.push (itO l1)).objs.size, .ref ((s.heap.push (itO l1)).push (itO l2)).objs.size, .ref (((s.heap.push (itO l1)).push (itO l2)).push (itO l3)).objs.size] }).push { cls := .type "tuple", data := .seq #[.none, .none, .none, .none] }).push { cls := .type "zip", data := .fields #[.none, .bool false, .bool false, .ref ((((s.heap.push (itO l1)).push (itO l2)).push (itO l3)).push (itO l4)).objs.size, .ref (((((s.heap.push (itO l1)).push (itO l2)).push (itO l3)).push (itO l4)).push { cls := .type "tuple", data := .seq #[.ref s.heap.objs.size, .ref (s.heap.push (itO l1)).objs.size, .ref ((s.heap.push (itO l1)).push (itO l2)).objs.size, .ref (((s.heap.push (itO l1)).push (itO l2)).push (itO l3)).objs.size] }).objs.size] }).get? ((((s.heap.push (itO l1)).push (itO l2)).push (itO l3)).push (itO l4)).objs.size = some _ := (Heap.get?_push_of_some _ (Heap.get?_push_of_some _ (Heap.get?_push_size _ rfl)))
  have g5 : (((((((s.heap.push (itO l1)).push (itO l2)).push (itO l3)).push (itO l4)).push { cls := .type "tuple", data := .seq #[.ref s.heap.objs.size, .ref (s.heap.push (itO l1)).objs.size, .ref ((s.heap.push (itO l1)).push (itO l2)).objs.size, .ref (((s.heap.push (itO l1)).push (itO l2)).push (itO l3)).objs.size] }).push { cls := .type "tuple", data := .seq #[.none, .none, .none, .none] }).push { cls := .type "zip", data := .fields #[.none, .bool false, .bool false, .ref ((((s.heap.push (itO l1)).push (itO l2)).push (itO l3)).push (itO l4)).objs.size, .ref (((((s.heap.push (itO l1)).push (itO l2)).push (itO l3)).push (itO l4)).push { cls := .type "tuple", data := .seq #[.ref s.heap.objs.size, .ref (s.heap.push (itO l1)).objs.size, .ref ((s.heap.push (itO l1)).push (itO l2)).objs.size, .ref (((s.heap.push (itO l1)).push (itO l2)).push (itO l3)).objs.size] }).objs.size] }).get? (((((s.heap.push (itO l1)).push (itO l2)).push (itO l3)).push (itO l4)).push { cls := .type "tuple", data := .seq #[.ref s.heap.objs.size, .ref (s.heap.push (itO l1)).objs.size, .ref ((s.heap.push (itO l1)).push (itO l2)).objs.size, .ref (((s.heap.push (itO l1)).push (itO l2)).push (itO l3)).objs.size] }).objs.size = some _ := (Heap.get?_push_of_some _ (Heap.get?_push_size _ rfl))
  have g6 : (((((((s.heap.push (itO l1)).push (itO l2)).push (itO l3)).push (itO l4)).push { cls := .type "tuple", data := .seq #[.ref s.heap.objs.size, .ref (s.heap.push (itO l1)).objs.size, .ref ((s.heap.push (itO l1)).push (itO l2)).objs.size, .ref (((s.heap.push (itO l1)).push (itO l2)).push (itO l3)).objs.size] }).push { cls := .type "tuple", data := .seq #[.none, .none, .none, .none] }).push { cls := .type "zip", data := .fields #[.none, .bool false, .bool false, .ref ((((s.heap.push (itO l1)).push (itO l2)).push (itO l3)).push (itO l4)).objs.size, .ref (((((s.heap.push (itO l1)).push (itO l2)).push (itO l3)).push (itO l4)).push { cls := .type "tuple", data := .seq #[.ref s.heap.objs.size, .ref (s.heap.push (itO l1)).objs.size, .ref ((s.heap.push (itO l1)).push (itO l2)).objs.size, .ref (((s.heap.push (itO l1)).push (itO l2)).push (itO l3)).objs.size] }).objs.size] }).get? ((((((s.heap.push (itO l1)).push (itO l2)).push (itO l3)).push (itO l4)).push { cls := .type "tuple", data := .seq #[.ref s.heap.objs.size, .ref (s.heap.push (itO l1)).objs.size, .ref ((s.heap.push (itO l1)).push (itO l2)).objs.size, .ref (((s.heap.push (itO l1)).push (itO l2)).push (itO l3)).objs.size] }).push { cls := .type "tuple", data := .seq #[.none, .none, .none, .none] }).objs.size = some _ := (Heap.get?_push_size _ rfl)
  have up : ∀ c o, s.heap.get? c = some o → (((((((s.heap.push (itO l1)).push (itO l2)).push (itO l3)).push (itO l4)).push { cls := .type "tuple", data := .seq #[.ref s.heap.objs.size, .ref (s.heap.push (itO l1)).objs.size, .ref ((s.heap.push (itO l1)).push (itO l2)).objs.size, .ref (((s.heap.push (itO l1)).push (itO l2)).push (itO l3)).objs.size] }).push { cls := .type "tuple", data := .seq #[.none, .none, .none, .none] }).push { cls := .type "zip", data := .fields #[.none, .bool false, .bool false, .ref ((((s.heap.push (itO l1)).push (itO l2)).push (itO l3)).push (itO l4)).objs.size, .ref (((((s.heap.push (itO l1)).push (itO l2)).push (itO l3)).push (itO l4)).push { cls := .type "tuple", data := .seq #[.ref s.heap.objs.size, .ref (s.heap.push (itO l1)).objs.size, .ref ((s.heap.push (itO l1)).push (itO l2)).objs.size, .ref (((s.heap.push (itO l1)).push (itO l2)).push (itO l3)).objs.size] }).objs.size] }).get? c = some o := fun c o q => (Heap.get?_push_of_some _ (Heap.get?_push_of_some _ (Heap.get?_push_of_some _ (Heap.get?_push_of_some _ (Heap.get?_push_of_some _ (Heap.get?_push_of_some _ (Heap.get?_push_of_some _ q)))))))
  show _ ∧ _
  generalize (((((((s.heap.push (itO l1)).push (itO l2)).push (itO l3)).push (itO l4)).push { cls := .type "tuple", data := .seq #[.ref s.heap.objs.size, .ref (s.heap.push (itO l1)).objs.size, .ref ((s.heap.push (itO l1)).push (itO l2)).objs.size, .ref (((s.heap.push (itO l1)).push (itO l2)).push (itO l3)).objs.size] }).push { cls := .type "tuple", data := .seq #[.none, .none, .none, .none] }).push { cls := .type "zip", data := .fields #[.none, .bool false, .bool false, .ref ((((s.heap.push (itO l1)).push (itO l2)).push (itO l3)).push (itO l4)).objs.size, .ref (((((s.heap.push (itO l1)).push (itO l2)).push (itO l3)).push (itO l4)).push { cls := .type "tuple", data := .seq #[.ref s.heap.objs.size, .ref (s.heap.push (itO l1)).objs.size, .ref ((s.heap.push (itO l1)).push (itO l2)).objs.size, .ref (((s.heap.push (itO l1)).push (itO l2)).push (itO l3)).objs.size] }).objs.size] }) = h9 at g0 g1 g2 g3 g4 g5 g6 z7 up ⊢
  rw [z1] at g1
  rw [z2] at g2
  rw [z3] at g3
  rw [z1, z2, z3, z4] at g4
  rw [z5] at g5
  rw [z4, z5, z6] at g6
  rw [z6]
  refine ⟨⟨_, g6, rfl⟩, h _ ⟨g6, ?_, ?_, fun j i l a b => match j, a, b with
    | 0, a, b => by cases a; cases b; exact ⟨_, g0, rfl, rfl⟩
    | 1, a, b => by cases a; cases b; exact ⟨_, g1, rfl, rfl⟩
    | 2, a, b => by cases a; cases b; exact ⟨_, g2, rfl, rfl⟩
    | 3, a, b => by cases a; cases b; exact ⟨_, g3, rfl, rfl⟩
    | _ + 4, a, b => by simp at a, fun j l xs a b => match j, a, b with
    | 0, a, b => by cases a; cases b; obtain ⟨o, u, v⟩ := q1; exact ⟨o, up _ _ u, v⟩
    | 1, a, b => by cases a; cases b; obtain ⟨o, u, v⟩ := q2; exact ⟨o, up _ _ u, v⟩
    | 2, a, b => by cases a; cases b; obtain ⟨o, u, v⟩ := q3; exact ⟨o, up _ _ u, v⟩
    | 3, a, b => by cases a; cases b; obtain ⟨o, u, v⟩ := q4; exact ⟨o, up _ _ u, v⟩
    | _ + 4, a, b => by simp at a⟩ z7 up⟩
  · exact g4
  · exact g5
end
end RZ
namespace RZ
open PySem PySem.Spec PyProof.Rows L2
open PySem.Sem (wp)
/-- the tuples at as, side by side: a turn gives a new tuple of their items -/
def ItzN (K : PySem.W.Frag) (as : List Addr) : It :=
  ⟨fun i H => ∀ a ∈ as, ∃ xs : List V, SqT K H a xs ∧ i < xs.length,
    fun i H v H' => ∃ (T : Addr) (col : List V), v = .ref T ∧ H T = none ∧ H' = upd H T (.tup col) ∧ col.length = as.length ∧ ∀ (j : Nat) (a : Addr) (xs : List V), as[j]? = some a → SqT K H a xs → xs[i]? = col[j]?,
    fun i H => (∀ a ∈ as, ∃ xs : List V, SqT K H a xs) ∧ ∃ (a : Addr) (r : List Addr) (xs : List V), as = a :: r ∧ SqT K H a xs ∧ xs.length ≤ i⟩
theorem ZN.bare {h : Heap} {z TI TO : Addr} {is ls : List Addr} {f0 f1 : Value} {ks : Nat → Nat} {ws : List Value} {xss : List (List Value)} (Z : ZN h z TI TO is ls f0 f1 ks ws xss) : ZN h z TI TO is ls f0 f1 ks ws [] :=
  ⟨Z.hz, Z.hTI, Z.hTO, Z.hit, fun j l xs _ b => by simp at b⟩
theorem ZN.with {h : Heap} {z TI TO : Addr} {is ls : List Addr} {f0 f1 : Value} {ks : Nat → Nat} {ws : List Value} {xss : List (List Value)} (Z : ZN h z TI TO is ls f0 f1 ks ws []) (e : ∀ (j : Nat) (l : Addr) (xs : List Value), ls[j]? = some l → xss[j]? = some xs → h.IsTuple l xs.toArray) : ZN h z TI TO is ls f0 f1 ks ws xss :=
  ⟨Z.hz, Z.hTI, Z.hTO, Z.hit, e⟩
/-- what stands at tuples that are read: their values -/
theorem vals_of {X : Cx} {pins : List (Addr × Obj)} {σ : L2.St} {H : Hp} {s : Shared} (I : Inv X pins σ H s) : ∀ (as : List Addr), (∀ a ∈ as, ∃ xs : List V, SqT X.K H a xs) →
    ∃ (xss : List (List V)) (vss : List (List Value)), xss.length = as.length ∧ vss.length = as.length ∧ (∀ (j : Nat) (a : Addr) (xs : List V), as[j]? = some a → xss[j]? = some xs → SqT X.K H a xs) ∧
      (∀ (j : Nat) (a : Addr) (vs : List Value), as[j]? = some a → vss[j]? = some vs → s.heap.IsTuple a vs.toArray) ∧ ∀ (j : Nat) (xs : List V) (vs : List Value), xss[j]? = some xs → vss[j]? = some vs → Vals xs vs
  | [], _ => ⟨[], [], rfl, rfl, fun _ _ _ a => by simp at a, fun _ _ _ a => by simp at a, fun _ _ _ a => by simp at a⟩
  | a :: r, h => by
    obtain ⟨xs, hx⟩ := h a List.mem_cons_self
    obtain ⟨its, rv, p, _⟩ := I.tuple hx
    obtain ⟨xss, vss, l1, l2, t1, t2, t3⟩ := vals_of I r fun b hb => h b (List.mem_cons_of_mem _ hb)
    refine ⟨xs :: xss, its :: vss, by simp [l1], by simp [l2], fun j b ys e1 e2 => ?_, fun j b ys e1 e2 => ?_, fun j ys us e1 e2 => ?_⟩
    · cases j with
      | zero => cases e1; cases e2; exact hx
      | succ j => exact t1 j b ys e1 e2
    · cases j with
      | zero => cases e1; cases e2; exact p
      | succ j => exact t2 j b ys e1 e2
    · cases j with
      | zero => cases e1; cases e2; exact rv
      | succ j => exact t3 j ys us e1 e2
theorem vals_at {xs : List V} {vs : List Value} {i : Nat} (r : Vals xs vs) (h : i < xs.length) : ∃ x u, xs[i]? = some x ∧ vs[i]? = some u ∧ RelV x u := by
  have hx : xs[i]? = some xs[i] := List.getElem?_eq_getElem h
  obtain ⟨u, hu, ru⟩ := r.get hx
  exact ⟨_, u, hx, hu, ru⟩
theorem vals_col {i : Nat} : ∀ (xss : List (List V)) (vss : List (List Value)), xss.length = vss.length → (∀ (j : Nat) (xs : List V) (vs : List Value), xss[j]? = some xs → vss[j]? = some vs → Vals xs vs) → (∀ xs ∈ xss, i < xs.length) →
    ∃ (col : List V) (us : List Value), Vals col us ∧ col.length = xss.length ∧ us.length = xss.length ∧ (∀ (j : Nat) (xs : List V), xss[j]? = some xs → xs[i]? = col[j]?) ∧ ∀ j, j < vss.length → ∃ vs u, vss[j]? = some vs ∧ vs[i]? = some u ∧ us[j]? = some u
  | [], [], _, _, _ => ⟨[], [], .nil, rfl, rfl, fun _ _ a => by simp at a, fun j a => by simp at a⟩
  | [], _ :: _, h, _, _ => by simp at h
  | _ :: _, [], h, _, _ => by simp at h
  | xs :: xss, vs :: vss, h, hv, hi => by
    obtain ⟨x, u, e1, e2, ru⟩ := vals_at (hv 0 xs vs rfl rfl) (hi xs List.mem_cons_self)
    obtain ⟨col, us, rv, l1, l2, c1, c2⟩ := vals_col xss vss (by simpa using h) (fun j => hv (j + 1)) fun ys hy => hi ys (List.mem_cons_of_mem _ hy)
    refine ⟨x :: col, u :: us, .cons ru rv, by simp [l1], by simp [l2], fun j ys e => ?_, fun j q => ?_⟩
    · cases j with
      | zero => cases e; exact e1
      | succ j => exact c1 j ys e
    · cases j with
      | zero => exact ⟨vs, u, rfl, e2, rfl⟩
      | succ j => exact c2 j (by simpa using q)
theorem turn_zn {P : Program} {w : World} {K : PySem.W.Frag} {tn : Str} {tpos : Pos} {z TI TO : Addr} {is as : List Addr} (D : ZA z TI TO is as) (n0 : is ≠ []) (nz : is.length ≤ 1000) (hn : as.length = is.length) :
    Turn P w K (.Name tn tpos) (ItzN K as) (z :: TI :: TO :: is) z (fun i h => ∃ f0 f1 ws, ZN h z TI TO is as f0 f1 (fun _ => i) ws [] ∧ (f0 = .none ∨ ∃ a t, f0 = .int a t) ∧ ws.length = is.length) where
  mem := by simp
  obj := fun i h st c hc => by
    obtain ⟨f0, f1, ws, Z, _, _⟩ := st
    simp only [List.mem_cons] at hc
    rcases hc with q | q | q | q
    · rw [q]; exact ⟨_, Z.hz, fun v q => nomatch q⟩
    · rw [q]; exact ⟨_, Z.hTI, fun v q => nomatch q⟩
    · rw [q]; exact ⟨_, Z.hTO, fun v q => nomatch q⟩
    · obtain ⟨j, jl, rfl⟩ := List.mem_iff_getElem.mp q
      obtain ⟨o, e, _, dd⟩ := Z.hit j _ (as[j]'(by omega)) (List.getElem?_eq_getElem jl) (List.getElem?_eq_getElem (by omega))
      exact ⟨o, e, fun v q => by rw [dd] at q; cases q⟩
  keep := fun i h h' st k => by
    obtain ⟨f0, f1, ws, Z, a1, a2⟩ := st
    refine ⟨f0, f1, ws, ⟨k z (by simp) _ Z.hz, k TI (by simp) _ Z.hTI, k TO (by simp) _ Z.hTO, fun j i' l a b => ?_, fun j l xs _ b => by simp at b⟩, a1, a2⟩
    exact (Z.hit j i' l a b).at fun o q => k i' (by simp [List.mem_of_getElem? a]) o q
  item := by
    intro X hP hw hK hc i pins s σ H E I hf st hg
    subst hP hw hK
    obtain ⟨f0, f1, ws, Z, a1, a2⟩ := st
    obtain ⟨xss, vss, l1, l2, t1, t2, t3⟩ := vals_of I as fun a ha => by
      obtain ⟨xs, q, _⟩ := hg a ha
      exact ⟨xs, q⟩
    have hlen : ∀ xs ∈ xss, i < xs.length := fun xs hx => by
      obtain ⟨j, jl, rfl⟩ := List.mem_iff_getElem.mp hx
      obtain ⟨ys, q, qi⟩ := hg (as[j]'(by omega)) (List.getElem_mem _)
      have q2 := t1 j _ _ (List.getElem?_eq_getElem (by omega)) (List.getElem?_eq_getElem jl)
      rw [I.tuple_inj q2 q]
      exact qi
    obtain ⟨col, us, rv, c1, c2, c3, c4⟩ := vals_col (i := i) xss vss (by omega) t3 hlen
    refine pyNext_zn_item D (Z.with t2) a1 n0 nz hn a2 (col := us) (by omega) (fun j q => c4 j (by omega)) fun h' g0 g1 vs Z' b1 b2 hT hsz kp => ?_
    refine ⟨_, rfl, ?_⟩
    have go : ∀ {Q : Unit → Shared → Prop} {s : Shared}, Q () s → wpAny (model X.prog X.w) X.A (letOwnedTupleGo (.Name tn tpos) (.ref z) (.ref s.heap.objs.size)) Q E s := fun q => by
      unfold letOwnedTupleGo
      exact wpAny_pure q
    have new : ObjOk X.prog X.w (upd H s.heap.objs.size (.tup col)) h' s.heap.objs.size (.tup col) :=
      ⟨by show col.length ≤ sizeLine; have big : (1001 : Nat) ≤ sizeLine := by decide
          omega, us, rv, ⟨_, hT, rfl, _, rfl⟩⟩
    have I1 : Inv X pins σ (upd H s.heap.objs.size (.tup col)) { s with heap := h' } :=
      I.turnedNew (t' := s.toks) (ch := z :: TI :: TO :: is) (fun c o hb q => kp c o (fun q' => hb (by simp [q'])) (fun q' => hb (by simp [q'])) (fun q' => hb (by simp [q'])) q) hf (Nat.le_refl _) new
    unfold letOwnedTupleGo
    refine wpAny_pure ⟨.ref s.heap.objs.size, _, I1, rfl, ⟨_, col, rfl, I.hok.fresh (Nat.le_refl _), rfl, by omega, fun j a xs ha hx => ?_⟩, ⟨g0, g1, vs, Z'.bare, b1, b2⟩, fun c hcm => ?_⟩
    · have jl := (List.getElem?_eq_some_iff.mp ha).1
      have e : xss[j]? = some (xss[j]'(by omega)) := List.getElem?_eq_getElem (by omega)
      rw [I.tuple_inj hx (t1 j a _ ha e)]
      exact c3 j _ e
    · have hlt : c < s.heap.objs.size := by
        simp only [List.mem_cons] at hcm
        rcases hcm with q | q | q | q
        · rw [q]; exact Heap.lt_size Z.hz
        · rw [q]; exact Heap.lt_size Z.hTI
        · rw [q]; exact Heap.lt_size Z.hTO
        · obtain ⟨j, jl, rfl⟩ := List.mem_iff_getElem.mp q
          obtain ⟨o, e, _⟩ := Z.hit j _ (as[j]'(by omega)) (List.getElem?_eq_getElem jl) (List.getElem?_eq_getElem (by omega))
          exact Heap.lt_size e
      rw [upd_ne (Nat.ne_of_lt hlt)]
      exact (hf c hcm).1
  done := by
    intro X hP hw hK hc i pins s σ H E I hf st hg
    subst hP hw hK
    obtain ⟨f0, f1, ws, Z, a1, a2⟩ := st
    obtain ⟨hall, a, r, xs, rfl, hx, hend⟩ := hg
    obtain ⟨xss, vss, l1, l2, t1, t2, t3⟩ := vals_of I _ hall
    cases is with
    | nil => exact absurd rfl n0
    | cons i0 is =>
    cases xss with
    | nil => simp at l1
    | cons x0 xss =>
    cases vss with
    | nil => simp at l2
    | cons v0 vss =>
      have rv := t3 0 x0 v0 rfl rfl
      have e := I.tuple_inj hx (t1 0 a x0 rfl rfl)
      subst e
      have ll := rv.length
      refine pyNext_zn_end (I.ok.hd hc) D (Z.with t2) a1 (List.getElem?_eq_none (by omega)) fun h' kp => ⟨rfl, ?_⟩
      exact I.turnedL (t' := s.toks) (ch := z :: TI :: TO :: i0 :: is) (fun c o hb q => kp c o (fun q' => hb (by simp [q'])) (fun q' => hb (by simp [q'])) (fun q' => hb (List.mem_cons_of_mem _ (List.mem_cons_of_mem _ (List.mem_cons_of_mem _ q')))) q) hf
  self := fun A i s Q E st h => by
    obtain ⟨f0, f1, ws, Z, _, _⟩ := st
    exact pyIter_zn Z h
end RZ
namespace RZ
open PySem PySem.Spec PyProof.Rows L2 StX
open PySem.Sem (wp)
def iZipStar (K : PySem.W.Frag) (te : TE) : TI := fun σ H R => te σ H fun x H1 => ∃ (p : Addr) (as : List Addr), x = V.ref p ∧ SqT K H1 p (as.map V.ref) ∧ 1 ≤ as.length ∧ as.length ≤ 4 ∧ (∀ a ∈ as, ∃ xs : List V, SqT K H1 a xs) ∧ R (ItzN K as) H1
theorem vals_refs : ∀ {as : List Addr} {us : List Value}, Vals (as.map V.ref) us → us = as.map Value.ref
  | [], _, r => by cases r; rfl
  | a :: as, _, r => by
    cases r with
    | cons x y =>
      cases x
      rw [vals_refs y]
      rfl
theorem za_of {N n : Nat} {as is : List Addr} (hi : is = (List.range n).map (N + ·)) (ha : ∀ a ∈ as, a < N) : ZA (N + (n + 2)) (N + n) (N + (n + 1)) is as := by
  subst hi
  have mem : ∀ c, c ∈ (List.range n).map (N + ·) → N ≤ c ∧ c < N + n := fun c hc => by
    obtain ⟨j, hj, rfl⟩ := List.mem_map.mp hc
    rw [List.mem_range] at hj
    omega
  have ne : ∀ {x y : Nat}, x < y → (show Addr from x) ≠ (show Addr from y) := fun h => Nat.ne_of_lt h
  refine ⟨ne (by omega), ne (by omega), ne (by omega), fun q => ?_, fun q => ?_, fun q => ?_, ?_, fun q => ?_, fun q => ?_, fun i q q2 => ?_⟩
  · have := (mem _ q).2
    exact absurd this (Nat.not_lt.mpr (Nat.add_le_add_left (Nat.le_add_right n 2) N))
  · have := (mem _ q).2
    exact absurd this (Nat.lt_irrefl _)
  · have := (mem _ q).2
    exact absurd this (Nat.not_lt.mpr (Nat.add_le_add_left (Nat.le_add_right n 1) N))
  · refine List.pairwise_map.mpr (List.nodup_range.imp fun {a b} q z => q (Nat.add_left_cancel z))
  · have := ha _ q
    exact absurd this (Nat.not_lt.mpr (Nat.le_add_right N _))
  · have := ha _ q
    exact absurd this (Nat.not_lt.mpr (Nat.le_add_right N _))
  · have h1 := (mem _ q).1
    have h2 := ha _ q2
    exact absurd h1 (Nat.not_le.mpr h2)
theorem pi_zipS {X : Cx} {e : Expr} {te : TE} {p pos tpos sp : Pos} {tn : Str} (hg : Gl X "zip") (hm : X.mg "zip" = none) (he : PE X e te)
    (hst : starEach [.Starred e sp] X.env = [(true, eval e X.env)] := by rfl) : PI X (.Name tn tpos) (.Call (.Name "zip" p) [.Starred e sp] [] pos) (iZipStar X.K te) := by
  refine ⟨fun pins s σ H R I h => ?_⟩
  refine Call_ (ld_blt I hg hm PyProof.Rows.boot_zip ?_)
  rw [hst]
  refine PySem.W.ks_call (P := fun _ => True) rfl (fun h _ => ⟨.machine, .inr (.inl rfl), PySem.W.Looks.of_pure rfl⟩) (PySem.W.ks_lone (thn (he.run pins s σ H _ I h) fun v s1 ⟨y, H1, I1, ry, a, as, ey, hx, n1, n4, hall, q⟩ => ?_))
  subst ey
  obtain rfl : v = Value.ref a := ry
  refine StX.star_any I1 (.inl hx) fun us s2 I2 rv => ⟨trivial, ?_⟩
  obtain rfl := vals_refs rv
  obtain ⟨xss, vss, l1, l2, t1, t2, t3⟩ := vals_of I2 as hall
  have lo : ∀ a ∈ as, a < s2.heap.objs.size := fun a ha => by
    obtain ⟨j, jl, rfl⟩ := List.mem_iff_getElem.mp ha
    obtain ⟨o, e, _⟩ := t2 j _ (vss[j]'(by omega)) (List.getElem?_eq_getElem jl) (List.getElem?_eq_getElem (by omega))
    exact Heap.lt_size e
  have z1 : ∀ (as : List Addr) (vss : List (List Value)), as.length = 1 → vss.length = as.length → (∀ a ∈ as, a < s2.heap.objs.size) → (∀ (j : Nat) (a : Addr) (vs : List Value), as[j]? = some a → vss[j]? = some vs → s2.heap.IsTuple a vs.toArray) → R (ItzN X.K as) H1 →
      wpAny (model X.prog X.w) X.A (call (.type "zip") ([] ++ as.map Value.ref)) (fun v s1 => wpAny (model X.prog X.w) X.A (pyIter v) (PIE X pins σ (.Name tn tpos) R) X.xe s1) X.xe s2 := fun as vss e1 e2 lo t2 q => by
    match as, vss, e1, e2, lo, t2, q with
    | [a1], [v1], _, _, lo, t2, q =>
      refine call_z1 (t2 0 _ _ rfl rfl) fun h' Z sz up => ?_
      have I3 : Inv X pins σ H1 { s2 with heap := h' } := I2.kept (t' := s2.toks) up
      have D := za_of (N := s2.heap.objs.size) (n := 1) (as := [a1]) (is := [s2.heap.objs.size]) rfl lo
      refine pyIter_zn (s := { s2 with heap := h' }) Z ?_
      refine ⟨_, _, _, _, H1, rfl, I3, turn_zn (tn := tn) (tpos := tpos) D (by simp) (by simp) (by simp), ⟨_, _, _, Z.bare, .inl rfl, rfl⟩, fun c hc => ?_, q⟩
      have hle : s2.heap.objs.size ≤ c := by
        simp only [List.mem_cons, List.not_mem_nil, or_false] at hc
        rcases hc with q | q | q | q <;> (rw [q]; first | exact Nat.le_refl _ | exact Nat.le_add_right _ _)
      exact I2.fpOk hle (I2.hok.fresh hle)
  have z2 : ∀ (as : List Addr) (vss : List (List Value)), as.length = 2 → vss.length = as.length → (∀ a ∈ as, a < s2.heap.objs.size) → (∀ (j : Nat) (a : Addr) (vs : List Value), as[j]? = some a → vss[j]? = some vs → s2.heap.IsTuple a vs.toArray) → R (ItzN X.K as) H1 →
      wpAny (model X.prog X.w) X.A (call (.type "zip") ([] ++ as.map Value.ref)) (fun v s1 => wpAny (model X.prog X.w) X.A (pyIter v) (PIE X pins σ (.Name tn tpos) R) X.xe s1) X.xe s2 := fun as vss e1 e2 lo t2 q => by
    match as, vss, e1, e2, lo, t2, q with
    | [a1, a2], [v1, v2], _, _, lo, t2, q =>
      refine call_z2 (t2 0 _ _ rfl rfl) (t2 1 _ _ rfl rfl) fun h' Z sz up => ?_
      have I3 : Inv X pins σ H1 { s2 with heap := h' } := I2.kept (t' := s2.toks) up
      have D := za_of (N := s2.heap.objs.size) (n := 2) (as := [a1, a2]) (is := [s2.heap.objs.size, s2.heap.objs.size + 1]) rfl lo
      refine pyIter_zn (s := { s2 with heap := h' }) Z ?_
      refine ⟨_, _, _, _, H1, rfl, I3, turn_zn (tn := tn) (tpos := tpos) D (by simp) (by simp) (by simp), ⟨_, _, _, Z.bare, .inl rfl, rfl⟩, fun c hc => ?_, q⟩
      have hle : s2.heap.objs.size ≤ c := by
        simp only [List.mem_cons, List.not_mem_nil, or_false] at hc
        rcases hc with q | q | q | q | q <;> (rw [q]; first | exact Nat.le_refl _ | exact Nat.le_add_right _ _)
      exact I2.fpOk hle (I2.hok.fresh hle)
  have z3 : ∀ (as : List Addr) (vss : List (List Value)), as.length = 3 → vss.length = as.length → (∀ a ∈ as, a < s2.heap.objs.size) → (∀ (j : Nat) (a : Addr) (vs : List Value), as[j]? = some a → vss[j]? = some vs → s2.heap.IsTuple a vs.toArray) → R (ItzN X.K as) H1 →
      wpAny (model X.prog X.w) X.A (call (.type "zip") ([] ++ as.map Value.ref)) (fun v s1 => wpAny (model X.prog X.w) X.A (pyIter v) (PIE X pins σ (.Name tn tpos) R) X.xe s1) X.xe s2 := fun as vss e1 e2 lo t2 q => by
    match as, vss, e1, e2, lo, t2, q with
    | [a1, a2, a3], [v1, v2, v3], _, _, lo, t2, q =>
      refine call_z3 (t2 0 _ _ rfl rfl) (t2 1 _ _ rfl rfl) (t2 2 _ _ rfl rfl) fun h' Z sz up => ?_
      have I3 : Inv X pins σ H1 { s2 with heap := h' } := I2.kept (t' := s2.toks) up
      have D := za_of (N := s2.heap.objs.size) (n := 3) (as := [a1, a2, a3]) (is := [s2.heap.objs.size, s2.heap.objs.size + 1, s2.heap.objs.size + 2]) rfl lo
      refine pyIter_zn (s := { s2 with heap := h' }) Z ?_
      refine ⟨_, _, _, _, H1, rfl, I3, turn_zn (tn := tn) (tpos := tpos) D (by simp) (by simp) (by simp), ⟨_, _, _, Z.bare, .inl rfl, rfl⟩, fun c hc => ?_, q⟩
      have hle : s2.heap.objs.size ≤ c := by
        simp only [List.mem_cons, List.not_mem_nil, or_false] at hc
        rcases hc with q | q | q | q | q | q <;> (rw [q]; first | exact Nat.le_refl _ | exact Nat.le_add_right _ _)
      exact I2.fpOk hle (I2.hok.fresh hle)
  have z4 : ∀ (as : List Addr) (vss : List (List Value)), as.length = 4 → vss.length = as.length → (∀ a ∈ as, a < s2.heap.objs.size) → (∀ (j : Nat) (a : Addr) (vs : List Value), as[j]? = some a → vss[j]? = some vs → s2.heap.IsTuple a vs.toArray) → R (ItzN X.K as) H1 →
      wpAny (model X.prog X.w) X.A (call (.type "zip") ([] ++ as.map Value.ref)) (fun v s1 => wpAny (model X.prog X.w) X.A (pyIter v) (PIE X pins σ (.Name tn tpos) R) X.xe s1) X.xe s2 := fun as vss e1 e2 lo t2 q => by
    match as, vss, e1, e2, lo, t2, q with
    | [a1, a2, a3, a4], [v1, v2, v3, v4], _, _, lo, t2, q =>
      refine call_z4 (t2 0 _ _ rfl rfl) (t2 1 _ _ rfl rfl) (t2 2 _ _ rfl rfl) (t2 3 _ _ rfl rfl) fun h' Z sz up => ?_
      have I3 : Inv X pins σ H1 { s2 with heap := h' } := I2.kept (t' := s2.toks) up
      have D := za_of (N := s2.heap.objs.size) (n := 4) (as := [a1, a2, a3, a4]) (is := [s2.heap.objs.size, s2.heap.objs.size + 1, s2.heap.objs.size + 2, s2.heap.objs.size + 3]) rfl lo
      refine pyIter_zn (s := { s2 with heap := h' }) Z ?_
      refine ⟨_, _, _, _, H1, rfl, I3, turn_zn (tn := tn) (tpos := tpos) D (by simp) (by simp) (by simp), ⟨_, _, _, Z.bare, .inl rfl, rfl⟩, fun c hc => ?_, q⟩
      have hle : s2.heap.objs.size ≤ c := by
        simp only [List.mem_cons, List.not_mem_nil, or_false] at hc
        rcases hc with q | q | q | q | q | q | q <;> (rw [q]; first | exact Nat.le_refl _ | exact Nat.le_add_right _ _)
      exact I2.fpOk hle (I2.hok.fresh hle)
  have c : as.length = 1 ∨ as.length = 2 ∨ as.length = 3 ∨ as.length = 4 := by omega
  rcases c with c | c | c | c
  · exact z1 as vss c l2 lo t2 q
  · exact z2 as vss c l2 lo t2 q
  · exact z3 as vss c l2 lo t2 q
  · exact z4 as vss c l2 lo t2 q
/-- a walk over tuples of one length, side by side -/
theorem walk_zipS {K : PySem.W.Frag} {as : List Addr} {n : Nat} (h0 : as ≠ []) : Walk (ItzN K as) n (fun H => ∀ a ∈ as, ∃ xs : List V, SqT K H a xs ∧ xs.length = n)
    (fun i H x H' => ∃ (T : Addr) (col : List V), x = .ref T ∧ H T = none ∧ H' = upd H T (.tup col) ∧ col.length = as.length ∧ ∀ (j : Nat) (a : Addr) (xs : List V), as[j]? = some a → SqT K H a xs → xs[i]? = col[j]?) where
  goes := fun i H hi q a ha => by
    obtain ⟨xs, h1, h2⟩ := q a ha
    exact ⟨xs, h1, by omega⟩
  stops := fun H q => by
    cases as with
    | nil => exact absurd rfl h0
    | cons a r =>
      obtain ⟨xs, h1, h2⟩ := q a List.mem_cons_self
      exact ⟨fun b hb => by obtain ⟨ys, h3, _⟩ := q b hb; exact ⟨ys, h3⟩, a, r, xs, rfl, h1, by omega⟩
  yields := fun i H x H' _ _ q => q
end RZ

/-! zip of two rows, each of them a list or a tuple. -/
namespace L2
open PySem PySem.Spec PyProof.Rows
/-- what kind a row is of -/
inductive Kd where
  | lst
  | tup
def Cur (k : Kd) (h : Heap) (it l : Addr) (i : Nat) : Prop := match k with
  | .lst => h.IsListIter it l i
  | .tup => h.IsTupleIter it l i
def Own (k : Kd) (h : Heap) (l : Addr) (xs : Array Value) : Prop := match k with
  | .lst => h.IsList l xs
  | .tup => h.IsTuple l xs
def SqK (k : Kd) (K : PySem.W.Frag) (H : Hp) (a : Addr) (xs : List V) : Prop := match k with
  | .lst => SqL K H a xs
  | .tup => SqT K H a xs
theorem Cur.at {k : Kd} {h h' : Heap} {it l : Addr} {i : Nat} (c : Cur k h it l i) (e : ∀ o, h.get? it = some o → h'.get? it = some o) : Cur k h' it l i := by
  cases k
  · exact Heap.IsListIter.at c e
  · exact Heap.IsTupleIter.at c e
theorem Cur.but {k : Kd} {h h' : Heap} {b it l : Addr} {i : Nat} (c : Cur k h it l i) (e : Heap.ExtBut b h h') (n : it ≠ b) : Cur k h' it l i := c.at fun o z => e _ o n z
theorem Own.but {k : Kd} {h h' : Heap} {b l : Addr} {xs : Array Value} (c : Own k h l xs) (e : Heap.ExtBut b h h') (n : l ≠ b) : Own k h' l xs := by
  cases k
  · exact Heap.IsList.extBut c e n
  · exact Heap.IsTuple.extBut c e n
theorem Cur.obj {k : Kd} {h : Heap} {it l : Addr} {i : Nat} (c : Cur k h it l i) : ∃ o, h.get? it = some o ∧ ∀ v, o.data ≠ .cell v := by
  cases k <;> exact let ⟨o, e, _, d⟩ := c; ⟨o, e, fun v z => by rw [d] at z; cases z⟩
section
variable {prog : Program} {w : World} {A : Around} {E : Value → Shared → Prop} {s : Shared}
theorem cur_next {k : Kd} {it l : Addr} {i : Nat} {xs : Array Value} {x : Value} {Q : Value → Shared → Prop} (c : Cur k s.heap it l i) (o : Own k s.heap l xs) (hx : xs[i]? = some x)
    (q : ∀ h', Cur k h' it l (i + 1) → Heap.SameBut it s.heap h' → Q x { s with heap := h' }) : wpAny (model prog w) A (Builtin.SmallTypes.nextOf (.ref it)) Q E s := by
  cases k
  · exact wpAny_nextOf_list_item c o hx q
  · exact RZ.nextOf_tuple_item c o hx q
theorem cur_end {k : Kd} {it l : Addr} {i : Nat} {xs : Array Value} {Q : Value → Shared → Prop} (hh : A.handled = none) (c : Cur k s.heap it l i) (o : Own k s.heap l xs) (hx : xs[i]? = none)
    (q : ∀ h' e, Heap.ExtBut it s.heap h' → (∃ o, h'.get? e = some o ∧ o.cls = .type "StopIteration") → E (.ref e) { s with heap := h' }) : wpAny (model prog w) A (Builtin.SmallTypes.nextOf (.ref it)) Q E s := by
  cases k
  · exact wpAny_nextOf_list_end hh c o hx q
  · exact RZ.nextOf_tuple_end hh c o hx q

/-- both take their next things -/
theorem zipK_item {k1 k2 : Kd} {z TI TO i1 i2 l1 l2 : Addr} {n1 n2 : Nat} {xs ys : Array Value} {x y a b : Value} {Q : Value → Shared → Prop} (D : ZipApart z TI TO i1 i2 l1 l2) (hz : IsZip s.heap z TI TO .none)
    (hI : IsPair s.heap TI (.ref i1) (.ref i2)) (hO : IsPair s.heap TO a b) (c1 : Cur k1 s.heap i1 l1 n1) (c2 : Cur k2 s.heap i2 l2 n2) (o1 : Own k1 s.heap l1 xs) (o2 : Own k2 s.heap l2 ys) (hx : xs[n1]? = some x) (hy : ys[n2]? = some y)
    (q : ∀ h', IsZip h' z TI TO (rawInt s.heap.objs.size) → IsPair h' TO x y → Cur k1 h' i1 l1 (n1 + 1) → Cur k2 h' i2 l2 (n2 + 1) → IsPair h' s.heap.objs.size x y →
      (∀ c o, c ≠ z → c ≠ TO → c ≠ i1 → c ≠ i2 → s.heap.get? c = some o → h'.get? c = some o) → Q (.ref s.heap.objs.size) { s with heap := h' }) : wpAny (model prog w) A (Builtin.«zip.__next__» ⟨[.ref z], []⟩) (fun f s' => ∃ v, f = .done (.ret v) ∧ Q v s') E s := by
  change wpAny _ _ (field (.ref z) 2 >>= _) _ _ _
  refine wpAny_bind ?_; refine wpAny_field (x := .bool false) hz rfl rfl ?_
  change wpAny _ _ (field (.ref z) 3 >>= _) _ _ _
  refine wpAny_bind ?_; refine wpAny_field (x := .ref TI) hz rfl rfl ?_
  refine wpAny_bind ?_; refine wpAny_seqItems hI rfl ?_
  change wpAny _ _ (Builtin.SmallTypes.ownedTupleIsFree (.ref z) >>= _) _ _ _
  unfold Builtin.SmallTypes.ownedTupleIsFree
  refine wpAny_bind ?_; refine wpAny_bind (wpAny_field (x := .none) hz rfl rfl (wpAny_pure ?_))
  simp only [if_true]
  refine wpAny_bind ?_; refine wpAny_rule ?_
  refine wpAny_bind ?_; refine wpAny_field (x := .ref TO) hz rfl rfl ?_
  refine wpAny_bind ?_; refine wpAny_setField_rec hz (by simp) fun ha za ea => ?_
  have za' : IsZip ha z TI TO .ellipsis := za
  refine wpAny_bind ?_
  simp only [List.zipIdx_cons, List.zipIdx_nil, List.forIn_cons, List.forIn_nil]
  refine wpAny_bind ?_; refine wpAny_bind (wpAny_onRaise ?_)
  change wpAny _ _ (Builtin.SmallTypes.nextOf (.ref i1) >>= _) _ _ _
  refine wpAny_bind ?_; refine cur_next (c1.but ea.extBut D.i1z) (o1.but ea.extBut D.l1z) hx fun hb cb eb => wpAny_pure ?_
  have Ob : IsPair hb TO a b := eb.extBut _ _ D.TOi1 (ea.extBut _ _ D.TOz hO)
  refine wpAny_bind ?_; refine wpAny_seqItems Ob rfl ?_
  refine wpAny_bind ?_; refine wpAny_updateSeq_pair Ob fun hc Oc ec => ?_
  have Oc' : IsPair hc TO x b := Oc
  refine wpAny_bind ?_; refine wpAny_letGo (wpAny_pure ?_)
  refine wpAny_bind ?_; refine wpAny_bind (wpAny_onRaise ?_)
  change wpAny _ _ (Builtin.SmallTypes.nextOf (.ref i2) >>= _) _ _ _
  refine wpAny_bind ?_; refine cur_next (((c2.but ea.extBut D.i2z).but eb.extBut D.i12.symm).but ec.extBut D.TOi2.symm) (((o2.but ea.extBut D.l2z).but eb.extBut D.l2i1).but ec.extBut D.l2TO) hy fun hd cd ed => wpAny_pure ?_
  have Od : IsPair hd TO x b := ed.extBut _ _ D.TOi2 Oc'
  refine wpAny_bind ?_; refine wpAny_seqItems Od rfl ?_
  refine wpAny_bind ?_; refine wpAny_updateSeq_pair Od fun he Oe ee => ?_
  have Oe' : IsPair he TO x y := Oe
  refine wpAny_bind ?_; refine wpAny_letGo (wpAny_pure (wpAny_pure ?_))
  refine wpAny_bind ?_; refine wpAny_seqItems Oe' rfl ?_
  refine wpAny_bind ?_; refine wpAny_newTuple ?_
  have size : he.objs.size = s.heap.objs.size := by rw [ee.1, ed.1, ec.1, eb.1, ea.1]
  have ze : IsZip he z TI TO .ellipsis := ee.extBut _ _ D.TOz.symm (ed.extBut _ _ D.i2z.symm (ec.extBut _ _ D.TOz.symm (eb.extBut _ _ D.i1z.symm za')))
  have old : ∀ c o, c ≠ z → c ≠ TO → c ≠ i1 → c ≠ i2 → s.heap.get? c = some o → he.get? c = some o :=
    fun c o p1 p2 p3 p4 e => ee.extBut _ _ p2 (ed.extBut _ _ p4 (ec.extBut _ _ p2 (eb.extBut _ _ p3 (ea.extBut _ _ p1 e))))
  have ce1 : Cur k1 he i1 l1 (n1 + 1) := ((cb.but ec.extBut D.TOi1.symm).but ed.extBut D.i12).but ee.extBut D.TOi1.symm
  have ce2 : Cur k2 he i2 l2 (n2 + 1) := cd.but ee.extBut D.TOi2.symm
  have zl : z < he.objs.size := Heap.lt_size ze
  change wpAny _ _ (Builtin.SmallTypes.ownedTupleHandOut (.ref z) (.ref he.objs.size) >>= _) _ _ _
  refine wpAny_bind ?_
  unfold Builtin.SmallTypes.ownedTupleHandOut
  have zp : IsZip (he.push { cls := .type "tuple", data := .seq #[x, y] }) z TI TO .ellipsis := Heap.get?_push_of_some _ ze
  refine wpAny_bind ?_; refine wpAny_setField_rec zp (by simp) fun hf zf ef => ?_
  have zf' : IsZip hf z TI TO (rawInt he.objs.size) := zf
  refine wpAny_setField_rec zf' (by simp) fun hg zg eg => ?_
  have zg' : IsZip hg z TI TO (rawInt he.objs.size) := zg
  have up : ∀ c o, c ≠ z → he.get? c = some o → hg.get? c = some o := fun c o p1 e => eg.extBut _ _ p1 (ef.extBut _ _ p1 (Heap.get?_push_of_some _ e))
  have nw : IsPair hg he.objs.size x y := eg.extBut _ _ (Nat.ne_of_gt zl) (ef.extBut _ _ (Nat.ne_of_gt zl) (Heap.get?_push_size _ rfl))
  rw [size] at zg' nw
  refine wpAny_pure ⟨_, rfl, ?_⟩
  change Q (.ref he.objs.size) _
  rw [size]
  exact q hg zg' (up _ _ D.TOz Oe') (ce1.at fun o e => up _ o D.i1z e) (ce2.at fun o e => up _ o D.i2z e) nw fun c o p1 p2 p3 p4 e => up c o p1 (old c o p1 p2 p3 p4 e)
/-- one of them has no more -/
theorem zipK_end {k1 k2 : Kd} {z TI TO i1 i2 l1 l2 : Addr} {n1 n2 : Nat} {xs ys : Array Value} {a b : Value} {Q : Fin → Shared → Prop} (hh : A.handled = none) (D : ZipApart z TI TO i1 i2 l1 l2) (hz : IsZip s.heap z TI TO .none)
    (hI : IsPair s.heap TI (.ref i1) (.ref i2)) (hO : IsPair s.heap TO a b) (c1 : Cur k1 s.heap i1 l1 n1) (c2 : Cur k2 s.heap i2 l2 n2) (o1 : Own k1 s.heap l1 xs) (o2 : Own k2 s.heap l2 ys) (hend : xs[n1]? = none ∨ ys[n2]? = none)
    (q : ∀ h' e, (∀ c o, c ≠ z → c ≠ TO → c ≠ i1 → c ≠ i2 → s.heap.get? c = some o → h'.get? c = some o) → (∃ o, h'.get? e = some o ∧ o.cls = .type "StopIteration") → E (.ref e) { s with heap := h' }) : wpAny (model prog w) A (Builtin.«zip.__next__» ⟨[.ref z], []⟩) Q E s := by
  change wpAny _ _ (field (.ref z) 2 >>= _) _ _ _
  refine wpAny_bind ?_; refine wpAny_field (x := .bool false) hz rfl rfl ?_
  change wpAny _ _ (field (.ref z) 3 >>= _) _ _ _
  refine wpAny_bind ?_; refine wpAny_field (x := .ref TI) hz rfl rfl ?_
  refine wpAny_bind ?_; refine wpAny_seqItems hI rfl ?_
  change wpAny _ _ (Builtin.SmallTypes.ownedTupleIsFree (.ref z) >>= _) _ _ _
  unfold Builtin.SmallTypes.ownedTupleIsFree
  refine wpAny_bind ?_; refine wpAny_bind (wpAny_field (x := .none) hz rfl rfl (wpAny_pure ?_))
  simp only [if_true]
  refine wpAny_bind ?_; refine wpAny_rule ?_
  refine wpAny_bind ?_; refine wpAny_field (x := .ref TO) hz rfl rfl ?_
  refine wpAny_bind ?_; refine wpAny_setField_rec hz (by simp) fun ha za ea => ?_
  have za' : IsZip ha z TI TO .ellipsis := za
  refine wpAny_bind ?_
  simp only [List.zipIdx_cons, List.zipIdx_nil, List.forIn_cons, List.forIn_nil]
  refine wpAny_bind ?_; refine wpAny_bind (wpAny_onRaise ?_)
  change wpAny _ _ (Builtin.SmallTypes.nextOf (.ref i1) >>= _) _ _ _
  have not_z : ∀ {h : Heap} {f : Value} {e : Addr} {o : Obj}, IsZip h z TI TO f → h.get? e = some o → o.cls = .type "StopIteration" → e ≠ z := by
    intro h f e o g ge gc en
    subst en
    rw [g] at ge
    cases ge
    simp at gc
  cases hx : xs[n1]? with
  | none =>
    refine wpAny_bind ?_; refine cur_end hh (c1.but ea.extBut D.i1z) (o1.but ea.extBut D.l1z) hx fun hb e eb ⟨oe, ge, gc⟩ => ?_
    have zb : IsZip hb z TI TO .ellipsis := eb _ _ D.i1z.symm za'
    refine wpAny_setField_rec zb (by simp) fun hc _ ec => q hc e (fun c o p1 _ p3 _ g => ec.extBut _ _ p1 (eb _ _ p3 (ea.extBut _ _ p1 g))) ⟨oe, ec.extBut _ _ (not_z zb ge gc) ge, gc⟩
  | some x =>
    have hy : ys[n2]? = none := hend.resolve_left (by rw [hx]; exact fun g => nomatch g)
    refine wpAny_bind ?_; refine cur_next (c1.but ea.extBut D.i1z) (o1.but ea.extBut D.l1z) hx fun hb cb eb => wpAny_pure ?_
    have Ob : IsPair hb TO a b := eb.extBut _ _ D.TOi1 (ea.extBut _ _ D.TOz hO)
    refine wpAny_bind ?_; refine wpAny_seqItems Ob rfl ?_
    refine wpAny_bind ?_; refine wpAny_updateSeq_pair Ob fun hc Oc ec => ?_
    refine wpAny_bind ?_; refine wpAny_letGo (wpAny_pure ?_)
    refine wpAny_bind ?_; refine wpAny_bind (wpAny_onRaise ?_)
    change wpAny _ _ (Builtin.SmallTypes.nextOf (.ref i2) >>= _) _ _ _
    refine wpAny_bind ?_; refine cur_end hh (((c2.but ea.extBut D.i2z).but eb.extBut D.i12.symm).but ec.extBut D.TOi2.symm) (((o2.but ea.extBut D.l2z).but eb.extBut D.l2i1).but ec.extBut D.l2TO) hy fun hd e ed ⟨oe, ge, gc⟩ => ?_
    have zd : IsZip hd z TI TO .ellipsis := ed _ _ D.i2z.symm (ec.extBut _ _ D.TOz.symm (eb.extBut _ _ D.i1z.symm za'))
    refine wpAny_setField_rec zd (by simp) fun hf _ ef => q hf e (fun c o p1 p2 p3 p4 g => ef.extBut _ _ p1 (ed _ _ p4 (ec.extBut _ _ p2 (eb.extBut _ _ p3 (ea.extBut _ _ p1 g))))) ⟨oe, ef.extBut _ _ (not_z zd ge gc) ge, gc⟩

theorem pyNext_zipK {k1 k2 : Kd} {z TI TO i1 i2 l1 l2 : Addr} {n1 n2 : Nat} {xs ys : Array Value} {x y a b : Value} {Q : Option Value → Shared → Prop} (D : ZipApart z TI TO i1 i2 l1 l2) (hz : IsZip s.heap z TI TO .none)
    (hI : IsPair s.heap TI (.ref i1) (.ref i2)) (hO : IsPair s.heap TO a b) (c1 : Cur k1 s.heap i1 l1 n1) (c2 : Cur k2 s.heap i2 l2 n2) (o1 : Own k1 s.heap l1 xs) (o2 : Own k2 s.heap l2 ys) (hx : xs[n1]? = some x) (hy : ys[n2]? = some y)
    (q : ∀ h', IsZip h' z TI TO (rawInt s.heap.objs.size) → IsPair h' TO x y → Cur k1 h' i1 l1 (n1 + 1) → Cur k2 h' i2 l2 (n2 + 1) → IsPair h' s.heap.objs.size x y →
      (∀ c o, c ≠ z → c ≠ TO → c ≠ i1 → c ≠ i2 → s.heap.get? c = some o → h'.get? c = some o) → Q (some (.ref s.heap.objs.size)) { s with heap := h' }) : wpAny (model prog w) A (pyNext (.ref z)) Q E s := by
  have T : s.TypeIs (.ref z) "zip" := ⟨_, hz, rfl⟩
  refine wpAny_bind (wpAny_attempt (wpAny_callSpecial?_slot (name := Str.ofString "__next__") T F.slot_zip_next (wpAny_call_entry F.slot_zip_next T F.entry_zip_next ?_ (F.args_zip_next_1 _))))
  exact zipK_item D hz hI hO c1 c2 o1 o2 hx hy fun h' a1 a2 a3 a4 a5 a6 => wpAny_pure (q h' a1 a2 a3 a4 a5 a6)
theorem pyNext_zipK_end {k1 k2 : Kd} {z TI TO i1 i2 l1 l2 : Addr} {n1 n2 : Nat} {xs ys : Array Value} {a b : Value} {Q : Option Value → Shared → Prop} (hh : A.handled = none) (D : ZipApart z TI TO i1 i2 l1 l2) (hz : IsZip s.heap z TI TO .none)
    (hI : IsPair s.heap TI (.ref i1) (.ref i2)) (hO : IsPair s.heap TO a b) (c1 : Cur k1 s.heap i1 l1 n1) (c2 : Cur k2 s.heap i2 l2 n2) (o1 : Own k1 s.heap l1 xs) (o2 : Own k2 s.heap l2 ys) (hend : xs[n1]? = none ∨ ys[n2]? = none)
    (q : ∀ h', (∀ c o, c ≠ z → c ≠ TO → c ≠ i1 → c ≠ i2 → s.heap.get? c = some o → h'.get? c = some o) → Q none { s with heap := h' }) : wpAny (model prog w) A (pyNext (.ref z)) Q E s := by
  have T : s.TypeIs (.ref z) "zip" := ⟨_, hz, rfl⟩
  refine wpAny_bind (wpAny_attempt (wpAny_callSpecial?_slot (name := Str.ofString "__next__") T F.slot_zip_next (wpAny_call_entry F.slot_zip_next T F.entry_zip_next ?_ (F.args_zip_next_1 _))))
  refine zipK_end hh D hz hI hO c1 c2 o1 o2 hend fun h' e hk ⟨o, ge, gc⟩ => ?_
  refine wpAny_bind ?_; refine wpAny_isInstance (T := "StopIteration") (b := true) ⟨o, ge, gc⟩ isSubtype_stop (wpAny_pure (q _ hk))
end
/-! ### a new zip -/
def Kd.it : Kd → String
  | .lst => "list_iterator"
  | .tup => "tuple_iterator"
def zA (k : Kd) (h : Heap) (l : Addr) : Heap := h.push { cls := .type k.it, data := .fields #[.ref l, .int 0 0] }
def zB (h : Heap) (a b : Value) : Heap := h.push { cls := .type "tuple", data := .seq #[a, b] }
def zAll (k1 k2 : Kd) (h : Heap) (l1 l2 : Addr) : Heap :=
  (zB (zB (zA k2 (zA k1 h l1) l2) (.ref h.objs.size) (.ref (zA k1 h l1).objs.size)) .none .none).push
    { cls := .type "zip", data := .fields #[.none, .bool false, .bool false, .ref (zA k2 (zA k1 h l1) l2).objs.size, .ref (zB (zA k2 (zA k1 h l1) l2) (.ref h.objs.size) (.ref (zA k1 h l1).objs.size)).objs.size] }
theorem own_push {k : Kd} {h : Heap} {l : Addr} {xs : Array Value} {o : Obj} (c : Own k h l xs) : Own k (h.push o) l xs := by
  cases k
  · exact Heap.IsList.push c _
  · exact Heap.IsTuple.push c _
theorem meets_zipK (k1 k2 : Kd) (l1 l2 : Addr) (xs ys : Array Value) : Meets (Builtin.«zip.__new__» ⟨[.type "zip", .ref l1, .ref l2], []⟩) (fun _ R s => Own k1 s.heap l1 xs ∧ Own k2 s.heap l2 ys ∧
    R (.ok (.ret (.ref (zB (zB (zA k2 (zA k1 s.heap l1) l2) (.ref s.heap.objs.size) (.ref (zA k1 s.heap l1).objs.size)) .none .none).objs.size))) { s with heap := zAll k1 k2 s.heap l1 l2 }) :=
  .of_wp fun prog w A R s h => by
    obtain ⟨hp, g, d, tk, os⟩ := s
    obtain ⟨a1, a2, h⟩ := h
    have sb := sub_zip
    have b2 : Own k2 (zA k1 hp l1) l2 ys := own_push a2
    cases k1 <;> cases k2
    · have q1 : Heap.IsList (Shared.heap ⟨hp, g, d, tk, os⟩) l1 xs := a1
      have q2 : Heap.IsList (Shared.heap ⟨zA .lst hp l1, g, d, tk, os⟩) l2 ys := b2
      unfold zA Kd.it at q2
      wp_walk using wpAny_pyIter_list q1, wpAny_pyIter_list q2
      exact ⟨_, rfl, h⟩
    · have q1 : Heap.IsList (Shared.heap ⟨hp, g, d, tk, os⟩) l1 xs := a1
      have q2 : Heap.IsTuple (Shared.heap ⟨zA .lst hp l1, g, d, tk, os⟩) l2 ys := b2
      unfold zA Kd.it at q2
      wp_walk using wpAny_pyIter_list q1, wpAny_pyIter_tuple q2
      exact ⟨_, rfl, h⟩
    · have q1 : Heap.IsTuple (Shared.heap ⟨hp, g, d, tk, os⟩) l1 xs := a1
      have q2 : Heap.IsList (Shared.heap ⟨zA .tup hp l1, g, d, tk, os⟩) l2 ys := b2
      unfold zA Kd.it at q2
      wp_walk using wpAny_pyIter_tuple q1, wpAny_pyIter_list q2
      exact ⟨_, rfl, h⟩
    · have q1 : Heap.IsTuple (Shared.heap ⟨hp, g, d, tk, os⟩) l1 xs := a1
      have q2 : Heap.IsTuple (Shared.heap ⟨zA .tup hp l1, g, d, tk, os⟩) l2 ys := b2
      unfold zA Kd.it at q2
      wp_walk using wpAny_pyIter_tuple q1, wpAny_pyIter_tuple q2
      exact ⟨_, rfl, h⟩
theorem zA_get {k : Kd} {h : Heap} {l : Addr} {c : Addr} {o : Obj} (e : h.get? c = some o) : (zA k h l).get? c = some o := Heap.get?_push_of_some _ e
theorem zB_get {h : Heap} {a b : Value} {c : Addr} {o : Obj} (e : h.get? c = some o) : (zB h a b).get? c = some o := Heap.get?_push_of_some _ e
theorem zA_size {k : Kd} {h : Heap} {l : Addr} : (zA k h l).objs.size = h.objs.size + 1 := Heap.size_push ..
theorem zB_size {h : Heap} {a b : Value} : (zB h a b).objs.size = h.objs.size + 1 := Heap.size_push ..
theorem zA_new {k : Kd} {h : Heap} {l : Addr} : (zA k h l).get? h.objs.size = some { cls := .type k.it, data := .fields #[.ref l, .int 0 0] } := Heap.get?_push_size _ rfl
theorem zB_new {h : Heap} {a b : Value} : (zB h a b).get? h.objs.size = some { cls := .type "tuple", data := .seq #[a, b] } := Heap.get?_push_size _ rfl
theorem cur_of {k : Kd} {h : Heap} {it l : Addr} (e : h.get? it = some { cls := .type k.it, data := .fields #[.ref l, .int 0 0] }) : Cur k h it l 0 := by
  cases k <;> exact ⟨_, e, rfl, rfl⟩
section
variable {prog : Program} {w : World} {A : Around} {E : Value → Shared → Prop} {s : Shared}
theorem call_zipK {k1 k2 : Kd} {l1 l2 : Addr} {xs ys : Array Value} {Q : Value → Shared → Prop} (o1 : Own k1 s.heap l1 xs) (o2 : Own k2 s.heap l2 ys)
    (q : ∀ h', IsZip h' (s.heap.objs.size + 4) (s.heap.objs.size + 2) (s.heap.objs.size + 3) .none → IsPair h' (s.heap.objs.size + 2) (.ref s.heap.objs.size) (.ref (s.heap.objs.size + 1)) → IsPair h' (s.heap.objs.size + 3) .none .none →
      Cur k1 h' s.heap.objs.size l1 0 → Cur k2 h' (s.heap.objs.size + 1) l2 0 → (∀ c o, s.heap.get? c = some o → h'.get? c = some o) → Q (.ref (s.heap.objs.size + 4)) { s with heap := h' }) : wpAny (model prog w) A (call (.type "zip") [.ref l1, .ref l2]) Q E s := by
  refine callType_new F.called_zip (by decide) (F.typeCall_zip_2 _ _) (F.newCall_zip_2 _ _) (fun _ => F.args_object_init_3 _ _ _) F.entry_zip_new (meets_zipK k1 k2 l1 l2 xs ys) ⟨o1, o2, ?_⟩
  have up : ∀ c o, (zB (zB (zA k2 (zA k1 s.heap l1) l2) (.ref s.heap.objs.size) (.ref (zA k1 s.heap l1).objs.size)) .none .none).get? c = some o → (zAll k1 k2 s.heap l1 l2).get? c = some o := fun c o e => Heap.get?_push_of_some _ e
  have g0 : (zAll k1 k2 s.heap l1 l2).get? (zB (zB (zA k2 (zA k1 s.heap l1) l2) (.ref s.heap.objs.size) (.ref (zA k1 s.heap l1).objs.size)) .none .none).objs.size = some _ := Heap.get?_push_size _ rfl
  have g1 := up _ _ (zB_new (h := zB (zA k2 (zA k1 s.heap l1) l2) (.ref s.heap.objs.size) (.ref (zA k1 s.heap l1).objs.size)) (a := .none) (b := .none))
  have g2 := up _ _ (zB_get (a := .none) (b := .none) (zB_new (h := zA k2 (zA k1 s.heap l1) l2) (a := .ref s.heap.objs.size) (b := .ref (zA k1 s.heap l1).objs.size)))
  have g3 := up _ _ (zB_get (a := .none) (b := .none) (zB_get (a := .ref s.heap.objs.size) (b := .ref (zA k1 s.heap l1).objs.size) (zA_new (k := k2) (h := zA k1 s.heap l1) (l := l2))))
  have g4 := up _ _ (zB_get (a := .none) (b := .none) (zB_get (a := .ref s.heap.objs.size) (b := .ref (zA k1 s.heap l1).objs.size) (zA_get (k := k2) (l := l2) (zA_new (k := k1) (h := s.heap) (l := l1)))))
  show _ ∧ _
  have n1 : (zA k1 s.heap l1).objs.size = s.heap.objs.size + 1 := zA_size
  have n2 : (zA k2 (zA k1 s.heap l1) l2).objs.size = s.heap.objs.size + 2 := by rw [zA_size, n1]
  have n3 : (zB (zA k2 (zA k1 s.heap l1) l2) (.ref s.heap.objs.size) (.ref (zA k1 s.heap l1).objs.size)).objs.size = s.heap.objs.size + 3 := by rw [zB_size, n2]
  have n4 : (zB (zB (zA k2 (zA k1 s.heap l1) l2) (.ref s.heap.objs.size) (.ref (zA k1 s.heap l1).objs.size)) .none .none).objs.size = s.heap.objs.size + 4 := by rw [zB_size, n3]
  rw [n4, n2, n3] at g0
  rw [n3] at g1
  rw [n2, n1] at g2
  rw [n1] at g3
  rw [n4]
  exact ⟨⟨_, g0, rfl⟩, q _ g0 g2 g1 (cur_of g4) (cur_of g3) fun c o e => up c o (zB_get (zB_get (zA_get (zA_get e))))⟩
end

/-! ### the walk -/
def ItzK (k1 k2 : Kd) (K : PySem.W.Frag) (a b : Addr) : It where
  go := fun i H => ∃ xs ys x y, SqK k1 K H a xs ∧ SqK k2 K H b ys ∧ xs[i]? = some x ∧ ys[i]? = some y
  yld := fun i H v H' => ∃ T x y, v = .ref T ∧ H T = none ∧ H' = upd H T (.tup [x, y]) ∧ (∀ xs, SqK k1 K H a xs → xs[i]? = some x) ∧ (∀ ys, SqK k2 K H b ys → ys[i]? = some y)
  stop := fun i H => ∃ xs ys, SqK k1 K H a xs ∧ SqK k2 K H b ys ∧ (xs.length ≤ i ∨ ys.length ≤ i)
theorem inv_own {X : Cx} {pins : List (Addr × Obj)} {σ : L2.St} {H : Hp} {s : Shared} (I : Inv X pins σ H s) {k : Kd} {a : Addr} {xs : List V} (q : SqK k X.K H a xs) :
    ∃ its : List Value, Vals xs its ∧ Own k s.heap a its.toArray ∧ a < s.heap.objs.size := by
  cases k
  · obtain ⟨its, r, p, _⟩ := I.list q
    exact ⟨its, r, p.isList, p.lt⟩
  · obtain ⟨its, r, p, _⟩ := I.tuple q
    have p' : s.heap.IsTuple a its.toArray := p
    obtain ⟨o, e, _⟩ := id p'
    exact ⟨its, r, p', Heap.lt_size e⟩
theorem inv_inj {X : Cx} {pins : List (Addr × Obj)} {σ : L2.St} {H : Hp} {s : Shared} (I : Inv X pins σ H s) {k : Kd} {a : Addr} {xs ys : List V} (p : SqK k X.K H a xs) (q : SqK k X.K H a ys) : xs = ys := by
  cases k
  · exact I.list_inj p q
  · exact I.tuple_inj p q
/-- one of five -/
theorem five {P : Addr → Prop} {z TI TO i1 i2 : Addr} (a1 : P z) (a2 : P TI) (a3 : P TO) (a4 : P i1) (a5 : P i2) : ∀ c ∈ [z, TI, TO, i1, i2], P c := by
  intro c h
  simp only [List.mem_cons, List.mem_nil_iff, or_false] at h
  rcases h with e | e | e | e | e <;> rw [e] <;> assumption
theorem not_five {c z TI TO i1 i2 : Addr} (h : c ∉ [z, TI, TO, i1, i2]) : c ≠ z ∧ c ≠ TI ∧ c ≠ TO ∧ c ≠ i1 ∧ c ≠ i2 := by
  simpa using h
theorem turn_zipK {P : Program} {w : World} {K : PySem.W.Frag} {elts : List Expr} {kk : Nat} {tpos : Pos} {k1 k2 : Kd} {a b z TI TO i1 i2 : Addr} (D : ZipApart z TI TO i1 i2 a b) :
    Turn P w K (.Tuple elts kk tpos) (ItzK k1 k2 K a b) [z, TI, TO, i1, i2] z (fun i h => IsZip h z TI TO .none ∧ IsPair h TI (.ref i1) (.ref i2) ∧ (∃ x y, IsPair h TO x y) ∧ Cur k1 h i1 a i ∧ Cur k2 h i2 b i) where
  mem := List.mem_cons_self
  obj := fun i h st => by
    obtain ⟨hz, hI, ⟨x, y, hO⟩, c1, c2⟩ := st
    exact five ⟨_, hz, fun _ g => nomatch g⟩ ⟨_, hI, fun _ g => nomatch g⟩ ⟨_, hO, fun _ g => nomatch g⟩ c1.obj c2.obj
  keep := fun i h h' st k => by
    obtain ⟨hz, hI, ⟨x, y, hO⟩, c1, c2⟩ := st
    exact ⟨k _ (by simp) _ hz, k _ (by simp) _ hI, ⟨x, y, k _ (by simp) _ hO⟩, c1.at (k _ (by simp)), c2.at (k _ (by simp))⟩
  item := by
    intro X hP hw hK hc i pins s σ H E I hf st hg
    subst hP hw hK
    obtain ⟨hz, hI, ⟨x0, y0, hO⟩, c1, c2⟩ := st
    obtain ⟨xs, ys, x, y, qx, qy, hx, hy⟩ := hg
    obtain ⟨us, rx, ox, _⟩ := inv_own I qx
    obtain ⟨vs, ry, oy, _⟩ := inv_own I qy
    obtain ⟨u, hu, ru⟩ := rx.get hx
    obtain ⟨v, hv, rv⟩ := ry.get hy
    have zl : z < s.heap.objs.size := Heap.lt_size hz
    refine pyNext_zipK D hz hI hO c1 c2 ox oy (x := u) (y := v) (by simpa using hu) (by simpa using hv) fun h1 zz OO d1 d2 nw old => ⟨_, rfl, ?_⟩
    refine wpAny_letOwnedTupleGo_zip (s := { s with heap := h1 }) zz fun h2 z2 sb => ?_
    have keeps : ∀ c o, c ≠ z → c ≠ TO → c ≠ i1 → c ≠ i2 → s.heap.get? c = some o → h2.get? c = some o := fun c o p1 p2 p3 p4 e => (sb.2 c p1).trans (old c o p1 p2 p3 p4 e)
    have pair : h2.get? s.heap.objs.size = some { cls := .type "tuple", data := .seq #[u, v] } := (sb.2 _ (Nat.ne_of_gt zl)).trans nw
    have isnew : ObjOk X.prog X.w (upd H s.heap.objs.size (.tup [x, y])) h2 s.heap.objs.size (.tup [x, y]) := ⟨by show 2 ≤ sizeLine; decide, [u, v], .cons ru (.cons rv .nil), ⟨_, pair, rfl, _, rfl⟩⟩
    have I2 := I.turnedNew (t' := s.toks) (ch := [z, TI, TO, i1, i2]) (h' := h2) (fun c o hb e => let n := not_five hb; keeps c o n.1 n.2.2.1 n.2.2.2.1 n.2.2.2.2 e) hf (Nat.le_refl _) isnew
    have lts : ∀ c ∈ [z, TI, TO, i1, i2], c < s.heap.objs.size := five zl (Heap.lt_size hI) (Heap.lt_size hO) (let ⟨_, e, _⟩ := c1.obj; Heap.lt_size e) (let ⟨_, e, _⟩ := c2.obj; Heap.lt_size e)
    refine ⟨.ref s.heap.objs.size, _, I2, rfl, ⟨_, x, y, rfl, I.hok.fresh (Nat.le_refl _), rfl, fun l hl => ?_, fun l hl => ?_⟩, ⟨z2, ?_, ⟨u, v, (sb.2 _ D.TOz).trans OO⟩, d1.at fun o e => (sb.2 _ D.i1z).trans e, d2.at fun o e => (sb.2 _ D.i2z).trans e⟩, fun c hm => ?_⟩
    · rw [inv_inj I hl qx]
      exact hx
    · rw [inv_inj I hl qy]
      exact hy
    · exact keeps _ _ D.TIz D.TITO D.TIi1 D.TIi2 hI
    · rw [upd_ne (Nat.ne_of_lt (lts c hm))]
      exact (hf c hm).1
  done := by
    intro X hP hw hK hc i pins s σ H E I hf st hg
    subst hP hw hK
    obtain ⟨hz, hI, ⟨x0, y0, hO⟩, c1, c2⟩ := st
    obtain ⟨xs, ys, qx, qy, hend⟩ := hg
    obtain ⟨us, rx, ox, _⟩ := inv_own I qx
    obtain ⟨vs, ry, oy, _⟩ := inv_own I qy
    have l1 := rx.length
    have l2 := ry.length
    have none_at : us.toArray[i]? = none ∨ vs.toArray[i]? = none := hend.imp (fun g => by simp; omega) (fun g => by simp; omega)
    refine pyNext_zipK_end (I.ok.hd hc) D hz hI hO c1 c2 ox oy none_at fun h1 old => ⟨rfl, I.turnedL (t' := s.toks) (ch := [z, TI, TO, i1, i2]) (fun c o hb e => ?_) hf⟩
    have n := not_five hb
    exact old c o n.1 n.2.2.1 n.2.2.2.1 n.2.2.2.2 e
  self := fun A i s Q E st h => wpAny_pyIter_zip st.1 h
def iZipK (K : PySem.W.Frag) (ta : TA) : TI := fun σ H R => ta σ H fun vs H1 => ∃ (k1 k2 : Kd) (a b : Addr) (xs ys : List V), vs = [.ref a, .ref b] ∧ SqK k1 K H1 a xs ∧ SqK k2 K H1 b ys ∧ R (ItzK k1 k2 K a b) H1
theorem k_piZK {X : Cx} {K : PySem.W.Frag} {e e2 : Expr} {ta : TA} {p pos tpos : Pos} {elts : List Expr} {kk : Nat} (hg : Gl X "zip") (hm : X.mg "zip" = none) (ha : PA X [e, e2] ta)
    (hs : starEach [e, e2] X.env = (false, eval e X.env) :: starEach [e2] X.env := by rfl)
    (hpl : (backTo pos (starEach [e2] X.env)).any (·.1) = false := by rfl) (ek : X.K = K := by rfl) : PI X (.Tuple elts kk tpos) (.Call (.Name "zip" p) [e, e2] [] pos) (iZipK K ta) := by
  subst ek
  refine ⟨fun pins s σ H R I h => Call_ (ld_blt I hg hm boot_zip (callWith_type1 (thn (ha.run pos pins s σ H _ I h) fun us t ⟨vs, H1, I1, r1, k1, k2, a, b, xs, ys, ex, qx, qy, q⟩ => ?_) hs hpl))⟩
  subst ex
  obtain ⟨u, v, rfl, ru, rv⟩ := vals2 r1
  cases ru
  cases rv
  obtain ⟨_, _, ox, la⟩ := inv_own I1 qx
  obtain ⟨_, _, oy, lb⟩ := inv_own I1 qy
  refine call_zipK ox oy fun h1 hz hI hO d1 d2 hk => wpAny_pyIter_zip hz ?_
  refine ⟨_, _, _, _, H1, rfl, I1.kept (t' := t.toks) hk, turn_zipK (PySem.W.ktu_apart t.heap.objs.size a b la lb), ⟨hz, hI, ⟨_, _, hO⟩, d1, d2⟩, five ?_ ?_ ?_ ?_ ?_, q⟩
  all_goals exact I1.fpOk (by omega) (I1.hok.fresh (by omega))
theorem walk_zipK {K : PySem.W.Frag} {k1 k2 : Kd} {a b : Addr} {xs ys : List V} {n : Nat} (h1 : n ≤ xs.length) (h2 : n ≤ ys.length) (h3 : xs.length = n ∨ ys.length = n) :
    Walk (ItzK k1 k2 K a b) n (fun H => SqK k1 K H a xs ∧ SqK k2 K H b ys) (YPair (fun i => xs[i]?) (fun i => ys[i]?)) where
  goes := fun i _ hi q => ⟨xs, ys, xs[i]'(by omega), ys[i]'(by omega), q.1, q.2, by simp [show i < xs.length by omega], by simp [show i < ys.length by omega]⟩
  stops := fun _ q => ⟨xs, ys, q.1, q.2, by omega⟩
  yields := fun i H v H' _ q ⟨T, x, y, e1, e2, e3, e4, e5⟩ => ⟨T, x, y, e1, e2, e3, e4 xs q.1, e5 ys q.2⟩
end L2

/-! Things of many kinds whose texts are known; repr of any datum. -/
namespace L2
open PySem PySem.Spec PyProof.Rows
/-! ### repr of any datum -/
def rReprV (K : PySem.W.Frag) : List V → Hp → VK → Prop := fun xs H Q => ∃ x d, xs = [x] ∧ Dp K H x d ∧ (d.showable = true ∧ d.hasDict = false ∧ d.depth ≤ 8 ∧ d.shown.length ≤ sizeLine) ∧ Q (.str d.shown) H
theorem k_reprV {X : Cx} {K : PySem.W.Frag} (hu : X.A.units + 64 < cLine) (hg : X.A.guards = some []) (e : X.K = K := by rfl) : CallR X (.builtin "repr") (rReprV K) := by
  subst e
  intro pins s σ H xs us Q I r h
  obtain ⟨x, d, rfl, hd, ⟨h2, h3, h4, h5⟩, q⟩ := h
  cases d with
  | list ds => exact my_repr hu hg pins s σ H [x] us Q I r ⟨x, _, rfl, hd, ⟨rfl, h2, h3, h4, h5⟩, q⟩
  | tuple ds => exact my_repr hu hg pins s σ H [x] us Q I r ⟨x, _, rfl, hd, ⟨rfl, h2, h3, h4, h5⟩, q⟩
  | dict kvs => cases h3
  | int i =>
    cases hd
    obtain ⟨u, rfl, t, rfl⟩ := vals1 r
    exact PySem.P.repr_of_int (of_decide_eq_true h2) ⟨.str _, H, I.tok _, ⟨_, rfl⟩, q⟩
  | str z =>
    cases hd
    obtain ⟨u, rfl, t, rfl⟩ := vals1 r
    exact PySem.P.repr_of_str ⟨.str _, H, I.tok _, ⟨_, rfl⟩, q⟩ h5
  | bool b =>
    cases hd
    obtain ⟨u, rfl, ru⟩ := vals1 r
    cases ru
    refine PySem.P.repr_of_bool ?_
    cases b
    · exact ⟨.str _, H, I.tok _, ⟨_, rfl⟩, q⟩
    · exact ⟨.str _, H, I.tok _, ⟨_, rfl⟩, q⟩
  | none =>
    cases hd
    obtain ⟨u, rfl, ru⟩ := vals1 r
    cases ru
    exact PySem.P.repr_of_none ⟨.str _, H, I.tok _, ⟨_, rfl⟩, q⟩
/-! ### l != [] -/
def rNeL0 (K : PySem.W.Frag) : R2 := fun x y H Q => ∃ a b xs, x = .ref a ∧ y = .ref b ∧ SqL K H a xs ∧ SqL K H b [] ∧ Q (.bl (!xs.isEmpty)) H
theorem op_neL0 {X : Cx} {K : PySem.W.Frag} (hu : X.A.units + 64 < cLine) (ek : X.K = K := by rfl) : OpR X (compareOp .NotEq) (rNeL0 K) := by
  subst ek
  intro pins s σ H x y v u Q I rx ry h
  obtain ⟨a, b, xs, rfl, rfl, ha, hb, q⟩ := h
  cases rx
  cases ry
  obtain ⟨us, r1, p1, z1⟩ := I.list ha
  obtain ⟨ws, r2, p2, z2⟩ := I.list hb
  have t1 : s.heap.IsList a us.toArray := p1.isList
  have t2 : s.heap.IsList b ws.toArray := p2.isList
  have l1 := r1.length
  cases r2
  cases xs with
  | nil =>
    cases r1
    exact SeqAt.RcNeAt.lists (A := X.A) (e := fun _ => true) t1 t2 rfl (by omega) (fun j h1 _ => absurd h1 (by simp)) X.prog X.w _ _ ⟨.bl _, H, I, rfl, q⟩
  | cons x r =>
    cases r1
    exact SeqAt.RcNeAt.lists_lengths (A := X.A) t1 t2 rfl (by omega) X.prog X.w _ _ ⟨.bl _, H, I, rfl, q⟩
theorem room65 {k : Nat} {A : Around} (r : Room k A) : A.units + 65 < cLine := by
  have := r.un
  omega
theorem k_notInD {X : Cx} {K : PySem.W.Frag} (hu : X.A.units + 65 < cLine) (e : X.K = K := by rfl) : OpR X (compareOp .NotIn) (rNotInD K) := by
  subst e
  exact op_notInD hu
end L2
namespace My
open PySem PySem.Spec PyProof.Rows L2
/-! ### things of many kinds -/
inductive Th where
  | int (i : Int)
  | bl (b : Bool)
  | str (s : Str)
  | non
  | lst
  | dct
  | tup (ds : List Th)
def thTy : Th → String
  | .int _ => "int"
  | .bl _ => "bool"
  | .str _ => "str"
  | .non => "NoneType"
  | .lst => "list"
  | .dct => "dict"
  | .tup _ => "tuple"
mutual
inductive Rt (K : PySem.W.Frag) (H : Hp) : V → Th → Prop
  | int (i : Int) : Rt K H (.int i) (.int i)
  | bl (b : Bool) : Rt K H (.bl b) (.bl b)
  | str (s : Str) : Rt K H (.str s) (.str s)
  | non : Rt K H .non .non
  | lst {a : Addr} {xs : List V} (h : H a = some (.lst xs)) : Rt K H (.ref a) .lst
  | dct {a : Addr} {kvs : List (Key × V)} (h : H a = some (.dK kvs)) : Rt K H (.ref a) .dct
  | tup {a : Addr} {xs : List V} {ds : List Th} (h : SqT K H a xs) (hx : RtAll K H xs ds) : Rt K H (.ref a) (.tup ds)
inductive RtAll (K : PySem.W.Frag) (H : Hp) : List V → List Th → Prop
  | nil : RtAll K H [] []
  | cons {v : V} {vs : List V} {d : Th} {ds : List Th} (h : Rt K H v d) (r : RtAll K H vs ds) : RtAll K H (v :: vs) (d :: ds)
end
variable {K : PySem.W.Frag} {H H' : Hp}
mutual
theorem Rt.same (e : Same H H') : ∀ (d : Th) (v : V), Rt K H v d → Rt K H' v d
  | .int _, _, h => by cases h; exact .int _
  | .bl _, _, h => by cases h; exact .bl _
  | .str _, _, h => by cases h; exact .str _
  | .non, _, h => by cases h; exact .non
  | .lst, _, h => by
    cases h with
    | lst h => exact .lst (e _ _ h)
  | .dct, _, h => by
    cases h with
    | dct h => exact .dct (e _ _ h)
  | .tup ds, _, h => by
    cases h with
    | tup h hx => exact .tup (Same.tk e _ _ h) (RtAll.same e ds _ hx)
theorem RtAll.same (e : Same H H') : ∀ (ds : List Th) (vs : List V), RtAll K H vs ds → RtAll K H' vs ds
  | [], _, h => by cases h; exact .nil
  | d :: r, _, h => by
    cases h with
    | cons h1 h2 => exact .cons (Rt.same e d _ h1) (RtAll.same e r _ h2)
end
theorem Rt.at (e : Same H H') {v : V} {d : Th} (h : Rt K H v d) : Rt K H' v d := Rt.same e d v h
theorem RtAll.len : ∀ {vs : List V} {ds : List Th}, RtAll K H vs ds → vs.length = ds.length
  | _, _, .nil => rfl
  | _, _, .cons _ h => by simp [RtAll.len h]
theorem RtAll.get : ∀ {vs : List V} {ds : List Th} {i : Nat} {v : V}, RtAll K H vs ds → vs[i]? = some v → ∃ d, ds[i]? = some d ∧ Rt K H v d
  | _, _, _, _, .nil, h => by cases h
  | _, _, 0, _, .cons h1 _, h => by
    cases h
    exact ⟨_, rfl, h1⟩
  | _, _, i + 1, _, .cons _ h2, h => RtAll.get (i := i) h2 h
theorem RtAll.app : ∀ {vs us : List V} {ds es : List Th}, RtAll K H vs ds → RtAll K H us es → RtAll K H (vs ++ us) (ds ++ es)
  | _, _, _, _, .nil, h => h
  | _, _, _, _, .cons h1 h2, h => .cons h1 (RtAll.app h2 h)
theorem RtAll.drop : ∀ {vs : List V} {ds : List Th} (n : Nat), RtAll K H vs ds → RtAll K H (vs.drop n) (ds.drop n)
  | _, _, 0, h => h
  | _, _, _ + 1, .nil => .nil
  | _, _, n + 1, .cons _ h => RtAll.drop n h
theorem RtAll.take : ∀ {vs : List V} {ds : List Th} (n : Nat), RtAll K H vs ds → RtAll K H (vs.take n) (ds.take n)
  | _, _, 0, _ => .nil
  | _, _, _ + 1, .nil => .nil
  | _, _, n + 1, .cons h1 h => .cons h1 (RtAll.take n h)
theorem Rt.ty {v : V} {d : Th} (h : Rt K H v d) : TyX K H v (.type (thTy d)) := by
  cases h with
  | int i => exact .base (.int i)
  | bl b => exact .base (.bl b)
  | str x => exact .base (.str x)
  | non => exact .base .non
  | lst h => exact .base (.lst h)
  | dct h => exact .base (.dK h)
  | tup h _ => exact h.ty
theorem kit_th (t c : String) (b : Bool) (h : PySem.W.kitOne K (.type t) (.type c) = some b) : PySem.W.kitOne K (.type t) (.type c) = some b := h
def isInt : Th → Bool
  | .int _ => true
  | _ => false
theorem kit_tup : ∀ d : Th, PySem.W.kitOne K (.type (thTy d)) (.type "tuple") = some (match d with | .tup _ => true | _ => false)
  | .int _ => kit_ty (by show kitB "int" "tuple" = some false; decide +kernel)
  | .bl _ => kit_ty (by show kitB "bool" "tuple" = some false; decide +kernel)
  | .str _ => kit_ty (by show kitB "str" "tuple" = some false; decide +kernel)
  | .non => kit_ty (by show kitB "NoneType" "tuple" = some false; decide +kernel)
  | .lst => kit_ty (by show kitB "list" "tuple" = some false; decide +kernel)
  | .dct => kit_ty (by show kitB "dict" "tuple" = some false; decide +kernel)
  | .tup _ => kit_ty (by show kitB "tuple" "tuple" = some true; decide +kernel)
theorem kit_str : ∀ d : Th, PySem.W.kitOne K (.type (thTy d)) (.type "str") = some (match d with | .str _ => true | _ => false)
  | .int _ => kit_ty (by show kitB "int" "str" = some false; decide +kernel)
  | .bl _ => kit_ty (by show kitB "bool" "str" = some false; decide +kernel)
  | .str _ => kit_ty (by show kitB "str" "str" = some true; decide +kernel)
  | .non => kit_ty (by show kitB "NoneType" "str" = some false; decide +kernel)
  | .lst => kit_ty (by show kitB "list" "str" = some false; decide +kernel)
  | .dct => kit_ty (by show kitB "dict" "str" = some false; decide +kernel)
  | .tup _ => kit_ty (by show kitB "tuple" "str" = some false; decide +kernel)
theorem kit_int : ∀ d : Th, PySem.W.kitOne K (.type (thTy d)) (.type "int") = some (match d with | .int _ => true | .bl _ => true | _ => false)
  | .int _ => kit_ty (by show kitB "int" "int" = some true; decide +kernel)
  | .bl _ => kit_ty (by show kitB "bool" "int" = some true; decide +kernel)
  | .str _ => kit_ty (by show kitB "str" "int" = some false; decide +kernel)
  | .non => kit_ty (by show kitB "NoneType" "int" = some false; decide +kernel)
  | .lst => kit_ty (by show kitB "list" "int" = some false; decide +kernel)
  | .dct => kit_ty (by show kitB "dict" "int" = some false; decide +kernel)
  | .tup _ => kit_ty (by show kitB "tuple" "int" = some false; decide +kernel)
theorem kit_bool : ∀ d : Th, PySem.W.kitOne K (.type (thTy d)) (.type "bool") = some (match d with | .bl _ => true | _ => false)
  | .int _ => kit_ty (by show kitB "int" "bool" = some false; decide +kernel)
  | .bl _ => kit_ty (by show kitB "bool" "bool" = some true; decide +kernel)
  | .str _ => kit_ty (by show kitB "str" "bool" = some false; decide +kernel)
  | .non => kit_ty (by show kitB "NoneType" "bool" = some false; decide +kernel)
  | .lst => kit_ty (by show kitB "list" "bool" = some false; decide +kernel)
  | .dct => kit_ty (by show kitB "dict" "bool" = some false; decide +kernel)
  | .tup _ => kit_ty (by show kitB "tuple" "bool" = some false; decide +kernel)
theorem whole_th (d : Th) : ((match d with | .int _ => true | .bl _ => true | _ => false) && !(match d with | .bl _ => true | _ => false)) = isInt d := by
  cases d <;> rfl
theorem cutV_one (xs : List V) : cutV xs (some 1) none = xs.drop 1 := by
  unfold cutV
  rw [show (some (1 : Int)) = some ((1 : Nat) : Int) from rfl, HT.sIx_nat, HT.sIx_none]
  cases xs with
  | nil => rfl
  | cons x r =>
    rw [Nat.min_eq_left (by simp)]
    simp
theorem rd_cutTh {a : Addr} {xs : List V} {ds : List Th} {Q : VK} (hT : SqT K H a xs) (hX : RtAll K H xs ds)
    (k : ∀ w H', Same H H' → Rt K H' w (.tup (ds.drop 1)) → Q w H') : rSlA K (.ref a) (some 1) none H Q := by
  have hc : RtAll K H (cutV xs (some 1) none) (ds.drop 1) := by
    rw [cutV_one]
    exact hX.drop 1
  refine ⟨a, xs, rfl, hT, fun w => ?_, fun _ p hp => ?_⟩
  · refine k _ H (Same.refl H) (.tup hT ?_)
    have e : cutV xs (some 1) none = xs := by
      unfold cutV
      rw [w.1, w.2, List.drop_zero, Nat.sub_zero, List.take_length]
    rw [e] at hc
    exact hc
  · exact k _ _ (same_upd hp _) (.tup (SqT.of upd_same) (RtAll.same (same_upd hp _) _ _ hc))
theorem Rt.tuple {v : V} {ds : List Th} (h : Rt K H v (.tup ds)) : ∃ a xs, v = .ref a ∧ SqT K H a xs ∧ RtAll K H xs ds := by
  cases h with
  | tup h1 h2 => exact ⟨_, _, rfl, h1, h2⟩
end My

/-! Tracks and pedals: what they are, what they sound, how they go on. -/
namespace L2
open PySem PySem.Spec PyProof.Rows
theorem k_inS {X : Cx} {K : PySem.W.Frag} (e : X.K = K := by rfl) : OpR X (compareOp .In) (rIn K false) := by
  subst e
  exact op_in_seq
theorem k_notInS {X : Cx} {K : PySem.W.Frag} (e : X.K = K := by rfl) : OpR X (compareOp .NotIn) (rIn K true) := by
  subst e
  exact op_notIn_seq
theorem k_piZS {X : Cx} {K : PySem.W.Frag} {e : Expr} {te : TE} {p pos tpos sp : Pos} {tn : Str} (hg : Gl X "zip") (hm : X.mg "zip" = none) (he : PE X e te)
    (hst : starEach [.Starred e sp] X.env = [(true, eval e X.env)] := by rfl) (ek : X.K = K := by rfl) : PI X (.Name tn tpos) (.Call (.Name "zip" p) [.Starred e sp] [] pos) (RZ.iZipStar K te) := by
  subst ek
  exact RZ.pi_zipS hg hm he hst
end L2
namespace My
open PySem PySem.Spec PyProof.Rows L2
variable {K : PySem.W.Frag} {H H' : Hp}
inductive Md where
  | empty
  | record
  | play
  | dub
  | stop
  deriving DecidableEq
def Md.s : Md → Str
  | .empty => "empty"
  | .record => "record"
  | .play => "play"
  | .dub => "dub"
  | .stop => "stop"
structure Tr where
  md : Md
  lay : List (List Int)
  und : List (List Int)
  pt : Int
  way : Int
  pace : Int
  sign : Int
  mu : Bool
def Tr.e : Tr := ⟨.empty, [], [], 0, 1, 2, 1, false⟩
abbrev Tr.rc (c : List Int) : Tr := ⟨.record, [c], [], 0, 1, 2, 1, false⟩
def trD (t : Tr) : PyData := .tuple [.str t.md.s, dLoops t.lay, dLoops t.und, .int t.pt, .int t.way, .int t.pace, .int t.sign, .bool t.mu]
abbrev dBoard (ts : List Tr) : PyData := .tuple (ts.map trD)
def Md.on : Md → Bool
  | .play => true
  | .dub => true
  | _ => false
def Md.holds : Md → Bool
  | .play => true
  | .dub => true
  | .stop => true
  | _ => false
structure OkH (t : Tr) (n : Nat) : Prop where
  md : t.md.holds = true
  n1 : 1 ≤ n
  n64 : n ≤ 64
  l1 : 1 ≤ t.lay.length
  l4 : t.lay.length + t.und.length ≤ 4
  ln : ∀ l ∈ t.lay, l.length = n
  un : ∀ l ∈ t.und, l.length = n
  db : t.md = .dub → 2 ≤ t.lay.length ∧ t.und = []
  p0 : 0 ≤ t.pt
  p1 : t.pt < 2 * (n : Int)
  st : t.md = .stop → t.pt = 0
  wy : t.way = 1 ∨ t.way = -1
  pc : t.pace = 1 ∨ t.pace = 2 ∨ t.pace = 4
  sg : t.sign = 1 ∨ t.sign = -1
inductive OkT : Tr → Prop
  | e : OkT Tr.e
  | r (c : List Int) (h : c.length < 64) : OkT (Tr.rc c)
  | h (t : Tr) (n : Nat) (h : OkH t n) : OkT t
def OkB (ts : List Tr) : Prop := 1 ≤ ts.length ∧ ts.length ≤ 4 ∧ ∀ t ∈ ts, OkT t
theorem _root_.L2.Dp.tr {v : V} {t : Tr} (h : Dp K H v (trD t)) : ∃ a v1 v2, v = .ref a ∧ SqT K H a [.str t.md.s, v1, v2, .int t.pt, .int t.way, .int t.pace, .int t.sign, .bl t.mu] ∧ Dp K H v1 (dLoops t.lay) ∧ Dp K H v2 (dLoops t.und) := by
  obtain ⟨a, xs, rfl, hT, hX⟩ := Dp.tuple h
  cases hX with
  | cons a1 hX =>
  cases hX with
  | cons a2 hX =>
  cases hX with
  | cons a3 hX =>
  cases hX with
  | cons a4 hX =>
  cases hX with
  | cons a5 hX =>
  cases hX with
  | cons a6 hX =>
  cases hX with
  | cons a7 hX =>
  cases hX with
  | cons a8 hX =>
  cases hX
  cases a1
  cases a4
  cases a5
  cases a6
  cases a7
  cases a8
  exact ⟨a, _, _, rfl, hT, a2, a3⟩
theorem Dp.ofTr {a : Addr} {v1 v2 : V} {t : Tr} (h : SqT K H a [.str t.md.s, v1, v2, .int t.pt, .int t.way, .int t.pace, .int t.sign, .bl t.mu]) (h1 : Dp K H v1 (dLoops t.lay)) (h2 : Dp K H v2 (dLoops t.und)) : Dp K H (.ref a) (trD t) :=
  .tup h (.cons (.str _) (.cons h1 (.cons h2 (.cons (.int _) (.cons (.int _) (.cons (.int _) (.cons (.int _) (.cons (.bl _) .nil))))))))
theorem dpRefs : ∀ {ls : List (List Int)} {xs : List V}, DpAll K H xs (ls.map dInts) → ∃ as : List Addr, xs = as.map V.ref ∧ as.length = ls.length ∧ ∀ (j : Nat) (a : Addr) (l : List Int), as[j]? = some a → ls[j]? = some l → SqT K H a (l.map V.int)
  | [], _, h => by
    cases h
    exact ⟨[], rfl, rfl, fun j a l e => by simp at e⟩
  | l :: r, _, h => by
    cases h with
    | cons h1 h2 =>
    obtain ⟨a, rfl, hT⟩ := Dp.ints h1
    obtain ⟨as, rfl, hl, q⟩ := dpRefs h2
    refine ⟨a :: as, rfl, by simp [hl], fun j b m e1 e2 => ?_⟩
    cases j with
    | zero => cases e1; cases e2; exact hT
    | succ j => exact q j b m e1 e2
/-! ### what tracks sound and how they go on -/
def colS (ls : List (List Int)) (c : Nat) : Int := (ls.map fun l => l.getD c 0).sum
def sndT (t : Tr) : Int := if t.md.on then colS t.lay (t.pt.toNat / 2) else 0
def hearB (ts : List Tr) : Int := (ts.map fun t => if t.mu then 0 else t.sign * sndT t).sum
def lenT (t : Tr) : Nat := (t.lay.headD []).length
def wrapP (t : Tr) : Int := (t.pt + t.way * t.pace) % (2 * (lenT t : Int))
def addAt (l : List Int) (c : Nat) (s : Int) : List Int := l.set c (l.getD c 0 + s)
def dubL (ls : List (List Int)) (c : Nat) (s : Int) : List (List Int) := ls.dropLast ++ [addAt (ls.getLastD []) c s]
def goT (t : Tr) (s : Int) : Tr := match t.md with
  | .record => if (t.lay.headD [] ++ [s]).length = 64 then { t with md := .play, lay := [t.lay.headD [] ++ [s]] } else { t with lay := [t.lay.headD [] ++ [s]] }
  | .play => { t with pt := wrapP t }
  | .dub => { t with lay := dubL t.lay (t.pt.toNat / 2) s, pt := wrapP t }
  | _ => t
def goB (ts : List Tr) (s : Int) : List Tr := ts.map fun t => goT t s
theorem wrap_lt {t : Tr} {n : Nat} (h : lenT t = n) (n1 : 1 ≤ n) : 0 ≤ wrapP t ∧ wrapP t < 2 * (n : Int) := by
  unfold wrapP
  rw [h]
  exact ⟨Int.emod_nonneg _ (by omega), Int.emod_lt_of_pos _ (by omega)⟩
theorem OkH.len {t : Tr} {n : Nat} (h : OkH t n) : lenT t = n := by
  obtain ⟨md, lay, und, pt, way, pace, sign, mu⟩ := t
  have l1 := h.l1
  cases lay with
  | nil => simp at l1
  | cons l r => exact h.ln l List.mem_cons_self
theorem go_ok {t : Tr} (s : Int) (h : OkT t) : OkT (goT t s) := by
  cases h with
  | e => exact .e
  | r c h =>
    by_cases e : (c ++ [s]).length = 64
    · have g : goT (Tr.rc c) s = ⟨.play, [c ++ [s]], [], 0, 1, 2, 1, false⟩ := by
        show (if (c ++ [s]).length = 64 then _ else _) = _
        rw [if_pos e]
        rfl
      rw [g]
      exact .h _ 64 ⟨rfl, by decide, by decide, Nat.le_refl 1, by simp, by simpa using e, by simp, by simp, by simp, by simp, by simp, .inl rfl, .inr (.inl rfl), .inl rfl⟩
    · have g : goT (Tr.rc c) s = Tr.rc (c ++ [s]) := by
        show (if (c ++ [s]).length = 64 then _ else _) = _
        rw [if_neg e]
        rfl
      rw [g]
      exact .r _ (by simp at e ⊢; omega)
  | h t n h =>
    obtain ⟨w0, w1⟩ := wrap_lt h.len h.n1
    obtain ⟨md, lay, und, pt, way, pace, sign, mu⟩ := t
    have hm := h.md
    cases md with
    | empty => cases hm
    | record => cases hm
    | stop => exact .h _ n h
    | play => exact .h _ n ⟨rfl, h.n1, h.n64, h.l1, h.l4, h.ln, h.un, h.db, w0, w1, (by intro z; cases z), h.wy, h.pc, h.sg⟩
    | dub =>
      obtain ⟨d1, d2⟩ := h.db rfl
      have hl := h.ln
      have h4 := h.l4
      dsimp only at d1 d2 hl h4
      have eL : (dubL lay (pt.toNat / 2) s).length = lay.length := by
        unfold dubL
        simp
        omega
      refine .h _ n ⟨rfl, h.n1, h.n64, ?_, ?_, fun l hm => ?_, h.un, fun _ => ⟨?_, d2⟩, w0, w1, (by intro z; cases z), h.wy, h.pc, h.sg⟩
      · show 1 ≤ (dubL lay (pt.toNat / 2) s).length
        omega
      · show (dubL lay (pt.toNat / 2) s).length + und.length ≤ 4
        omega
      · have hm : l ∈ dubL lay (pt.toNat / 2) s := hm
        unfold dubL at hm
        rcases List.mem_append.mp hm with q | q
        · exact hl l ((List.dropLast_sublist _).subset q)
        · rw [List.mem_singleton.mp q]
          unfold addAt
          rw [List.length_set]
          cases lay with
          | nil => simp at d1
          | cons x r =>
            rw [List.getLastD_cons]
            cases r with
            | nil => exact hl x List.mem_cons_self
            | cons y r =>
              refine hl _ (List.mem_cons_of_mem _ ?_)
              rw [List.getLastD_eq_getLast?, List.getLast?_eq_some_getLast (by simp)]
              exact List.getLast_mem _
      · show 2 ≤ (dubL lay (pt.toNat / 2) s).length
        omega
theorem goB_ok {ts : List Tr} (s : Int) (h : OkB ts) : OkB (goB ts s) := by
  unfold goB
  refine ⟨by rw [List.length_map]; exact h.1, by rw [List.length_map]; exact h.2.1, fun t ht => ?_⟩
  obtain ⟨u, hu, rfl⟩ := List.mem_map.mp ht
  exact go_ok s (h.2.2 u hu)
end My
namespace My
/-- what a turning track adds once round -/
def onceT (t : Tr) : List Int := (List.range (2 * lenT t / Nat.gcd (2 * lenT t) t.pace.toNat)).map fun k => t.sign * colS t.lay (((t.pt + t.way * t.pace * (k : Nat)) % (2 * (lenT t : Int))).toNat / 2)
def waitT (t : Tr) : Nat := if t.md = .record then 64 - lenT t else 0
def waitB (ts : List Tr) : Nat := (ts.map waitT).foldr max 0
def runB : Nat → List Tr → List Int × List Tr
  | 0, ts => ([], ts)
  | n + 1, ts => (hearB ts :: (runB n (goB ts 0)).1, (runB n (goB ts 0)).2)
def earlyB (ts : List Tr) : List Int := (runB (waitB ts) ts).1
def endB (ts : List Tr) : List Tr := (runB (waitB ts) ts).2
def turns (t : Tr) : Bool := t.md.on && !t.mu
def turnB (ts : List Tr) : List (List Int) := ((endB ts).filter turns).map onceT
theorem wait_go {t : Tr} (h : OkT t) (s : Int) : waitT (goT t s) = waitT t - 1 := by
  cases h with
  | e => rfl
  | r c h =>
    by_cases e : (c ++ [s]).length = 64
    · have g : goT (Tr.rc c) s = ⟨.play, [c ++ [s]], [], 0, 1, 2, 1, false⟩ := by
        show (if (c ++ [s]).length = 64 then _ else _) = _
        rw [if_pos e]
        rfl
      rw [g]
      show 0 = 64 - c.length - 1
      simp at e
      omega
    · have g : goT (Tr.rc c) s = Tr.rc (c ++ [s]) := by
        show (if (c ++ [s]).length = 64 then _ else _) = _
        rw [if_neg e]
        rfl
      rw [g]
      show 64 - (c ++ [s]).length = 64 - c.length - 1
      simp
      omega
  | h t n h =>
    obtain ⟨md, lay, und, pt, way, pace, sign, mu⟩ := t
    have hm := h.md
    cases md with
    | empty => cases hm
    | record => cases hm
    | stop => rfl
    | play => rfl
    | dub => rfl
theorem wait_pos {t : Tr} (h : OkT t) : 0 < waitT t ↔ t.md = .record := by
  cases h with
  | e => exact ⟨fun q => absurd q (by decide), fun q => by cases q⟩
  | r c h =>
    refine ⟨fun _ => rfl, fun _ => ?_⟩
    show 0 < 64 - c.length
    omega
  | h t n h =>
    obtain ⟨md, lay, und, pt, way, pace, sign, mu⟩ := t
    have hm := h.md
    cases md with
    | empty => cases hm
    | record => cases hm
    | stop => exact ⟨fun q => absurd q (by simp [waitT]), fun q => by cases q⟩
    | play => exact ⟨fun q => absurd q (by simp [waitT]), fun q => by cases q⟩
    | dub => exact ⟨fun q => absurd q (by simp [waitT]), fun q => by cases q⟩
theorem waitB_go : ∀ {ts : List Tr}, (∀ t ∈ ts, OkT t) → ∀ s, waitB (goB ts s) = waitB ts - 1
  | [], _, _ => rfl
  | t :: r, h, s => by
    have q := waitB_go (ts := r) (fun u hu => h u (List.mem_cons_of_mem _ hu)) s
    have q1 := wait_go (h t List.mem_cons_self) s
    show max (waitT (goT t s)) (waitB (goB r s)) = max (waitT t) (waitB r) - 1
    rw [q, q1]
    omega
theorem waitB_pos : ∀ {ts : List Tr}, (∀ t ∈ ts, OkT t) → (0 < waitB ts ↔ ∃ t ∈ ts, t.md = .record)
  | [], _ => ⟨fun q => absurd q (by decide), fun ⟨_, q, _⟩ => by cases q⟩
  | t :: r, h => by
    have q := waitB_pos (ts := r) fun u hu => h u (List.mem_cons_of_mem _ hu)
    have q1 := wait_pos (h t List.mem_cons_self)
    show 0 < max (waitT t) (waitB r) ↔ _
    constructor
    · intro z
      by_cases e : 0 < waitT t
      · exact ⟨t, List.mem_cons_self, q1.mp e⟩
      · obtain ⟨u, hu, e2⟩ := q.mp (by omega)
        exact ⟨u, List.mem_cons_of_mem _ hu, e2⟩
    · rintro ⟨u, hu, e⟩
      cases hu with
      | head => have := q1.mpr e; omega
      | tail _ hu => have := q.mpr ⟨u, hu, e⟩; omega
theorem run_step {ts : List Tr} (h : ∀ t ∈ ts, OkT t) (p : 0 < waitB ts) : runB (waitB ts) ts = (hearB ts :: (runB (waitB (goB ts 0)) (goB ts 0)).1, (runB (waitB (goB ts 0)) (goB ts 0)).2) := by
  rw [waitB_go h 0]
  cases e : waitB ts with
  | zero => omega
  | succ n => rfl
theorem waitT_le {t : Tr} (_ : OkT t) : waitT t ≤ 64 := by
  unfold waitT
  split <;> omega
theorem waitB_le : ∀ {ts : List Tr}, (∀ t ∈ ts, OkT t) → waitB ts ≤ 64
  | [], _ => by decide
  | t :: r, h => by
    have q := waitB_le (ts := r) fun u hu => h u (List.mem_cons_of_mem _ hu)
    have q1 := waitT_le (h t List.mem_cons_self)
    show max (waitT t) (waitB r) ≤ 64
    omega
end My
namespace My
open PySem PySem.Spec PyProof.Rows L2
theorem cutD_pre (ds : List PyData) (i : Nat) : cutD ds none (some (i : Int)) = ds.take i := by
  have e := cutD_to (fun d : PyData => d) ds (i := (i : Int)) (by omega)
  rw [List.map_id', List.map_id'] at e
  exact e
theorem cutD_suf (ds : List PyData) {i : Nat} (h : i ≤ ds.length) : cutD ds (some (i : Int)) none = ds.drop i := by
  have e := cutD_from (fun d : PyData => d) ds (i := (i : Int)) (by omega) (by omega)
  rw [List.map_id', List.map_id'] at e
  exact e
theorem cutD_last (ds : List PyData) : cutD ds none (some (-1)) = ds.dropLast := by
  unfold L2.cutD HT.sIx
  cases ds with
  | nil => rfl
  | cons d r =>
    rw [List.dropLast_eq_take]
    simp
    have e : (-1 + ((r.length : Int) + 1)).toNat = r.length := by omega
    rw [e]
    omega
theorem any_false {bs : List Bool} (h : ∀ b ∈ bs, b = false) : bs.any id = false := by
  induction bs with
  | nil => rfl
  | cons b r ih =>
    rw [List.any_cons, ih fun c hc => h c (List.mem_cons_of_mem _ hc), h b List.mem_cons_self]
    rfl
theorem _root_.L2.DpAll.map_get {α : Type} {K : PySem.W.Frag} {H : Hp} {f : α → PyData} {ls : List α} {xs : List V} {i : Nat} {x : V} (h : DpAll K H xs (ls.map f)) (hx : xs[i]? = some x) : ∃ l, ls[i]? = some l ∧ Dp K H x (f l) := by
  obtain ⟨d, e, q⟩ := h.get hx
  rw [List.getElem?_map] at e
  cases el : ls[i]? with
  | none => rw [el] at e; cases e
  | some l =>
    rw [el] at e
    cases e
    exact ⟨l, rfl, q⟩
end My
namespace My
open PySem PySem.Spec PyProof.Rows L2
theorem flat_ints (ns : List Int) : (ns.map V.int).all flatV = true := by
  rw [List.all_eq_true]
  intro v hv
  obtain ⟨i, _, rfl⟩ := List.mem_map.mp hv
  rfl
theorem inV_ints {ns : List Int} {x : Int} (h : x ∈ ns) : inV (.int x) (ns.map V.int) = true := by
  unfold inV
  rw [List.any_eq_true]
  exact ⟨.int x, List.mem_map_of_mem h, beq_self_eq_true x⟩
end My
namespace My
open PySem PySem.Spec PyProof.Rows L2
theorem ret_nat {r p k : Nat} (hr : 0 < r) : r ∣ p * k ↔ r / Nat.gcd r p ∣ k := by
  have g0 : 0 < Nat.gcd r p := Nat.gcd_pos_of_pos_left _ hr
  have e1 : r = Nat.gcd r p * (r / Nat.gcd r p) := (Nat.mul_div_cancel' (Nat.gcd_dvd_left r p)).symm
  have e2 : p = Nat.gcd r p * (p / Nat.gcd r p) := (Nat.mul_div_cancel' (Nat.gcd_dvd_right r p)).symm
  have cp : Nat.Coprime (r / Nat.gcd r p) (p / Nat.gcd r p) := Nat.coprime_div_gcd_div_gcd g0
  constructor
  · intro h
    have h2 : Nat.gcd r p * (r / Nat.gcd r p) ∣ Nat.gcd r p * ((p / Nat.gcd r p) * k) := by
      rw [← e1, ← Nat.mul_assoc, ← e2]
      exact h
    exact cp.dvd_of_dvd_mul_left (Nat.dvd_of_mul_dvd_mul_left g0 h2)
  · rintro ⟨j, rfl⟩
    refine ⟨p / Nat.gcd r p * j, ?_⟩
    calc p * (r / Nat.gcd r p * j) = (Nat.gcd r p * (p / Nat.gcd r p)) * (r / Nat.gcd r p * j) := by rw [← e2]
      _ = (Nat.gcd r p * (r / Nat.gcd r p)) * (p / Nat.gcd r p * j) := by
          rw [Nat.mul_assoc, Nat.mul_assoc, Nat.mul_left_comm (p / Nat.gcd r p)]
      _ = r * (p / Nat.gcd r p * j) := by rw [← e1]
theorem ret_iff {n : Nat} {pt way pace : Int} (n1 : 1 ≤ n) (p0 : 0 ≤ pt) (p1 : pt < 2 * (n : Int)) (hw : way = 1 ∨ way = -1) (hp : 1 ≤ pace) (k : Nat) :
    (pt + way * pace * (k : Int)) % (2 * (n : Int)) = pt ↔ 2 * n / Nat.gcd (2 * n) pace.toNat ∣ k := by
  rw [← ret_nat (by omega)]
  have ep : pace = ((pace.toNat : Nat) : Int) := by omega
  have e0 : (2 * (n : Int)) = ((2 * n : Nat) : Int) := by omega
  have key : (pt + way * pace * (k : Int)) % (2 * (n : Int)) = pt ↔ (2 * (n : Int)) ∣ way * pace * (k : Int) := by
    constructor
    · intro h
      have h2 : (pt + way * pace * (k : Int)) % (2 * (n : Int)) = pt % (2 * (n : Int)) := by rw [h, Int.emod_eq_of_lt p0 p1]
      have h3 := Int.emod_emod_of_dvd (pt + way * pace * (k : Int)) (Int.dvd_refl (2 * (n : Int)))
      have h4 : (pt + way * pace * (k : Int) - pt) % (2 * (n : Int)) = 0 := Int.emod_eq_emod_iff_emod_sub_eq_zero.mp h2
      have h5 : pt + way * pace * (k : Int) - pt = way * pace * (k : Int) := by omega
      rw [h5] at h4
      exact Int.dvd_of_emod_eq_zero h4
    · rintro ⟨j, hj⟩
      rw [hj, Int.add_mul_emod_self_left, Int.emod_eq_of_lt p0 p1]
  rw [key, e0]
  rcases hw with rfl | rfl
  · rw [Int.one_mul, ep, ← Int.natCast_mul, Int.natCast_dvd_natCast]
    rw [Int.toNat_natCast]
  · rw [Int.neg_mul, Int.neg_mul, Int.dvd_neg, Int.one_mul, ep, ← Int.natCast_mul, Int.natCast_dvd_natCast]
    rw [Int.toNat_natCast]
def atK (t : Tr) (k : Nat) : Tr := { t with pt := (t.pt + t.way * t.pace * (k : Int)) % (2 * (lenT t : Int)) }
theorem add0 {l : List Int} (c : Nat) : addAt l c 0 = l := by
  unfold addAt
  rw [Int.add_zero]
  refine List.ext_getElem? fun j => ?_
  by_cases e : j = c
  · subst e
    rw [List.getElem?_set_self']
    cases h : l[j]? with
    | none => rfl
    | some y =>
      show some (l.getD j 0) = some y
      rw [List.getD_eq_getElem?_getD, h]
      rfl
  · rw [List.getElem?_set_ne (Ne.symm e)]
theorem dub0 {lay : List (List Int)} (h : lay ≠ []) (c : Nat) : dubL lay c 0 = lay := by
  unfold dubL
  have e : lay.getLastD [] = lay.getLast h := by
    rw [List.getLastD_eq_getLast?, List.getLast?_eq_some_getLast h]
    rfl
  rw [add0, e, List.dropLast_concat_getLast h]
theorem go0 {t : Tr} {n : Nat} (h : OkH t n) (e : t.md.on = true) : goT t 0 = { t with pt := wrapP t } := by
  obtain ⟨md, lay, und, pt, way, pace, sign, mu⟩ := t
  have l1 := h.l1
  have lne : lay ≠ [] := fun z => by rw [z] at l1; simp at l1
  cases md with
  | play => rfl
  | dub =>
    show Tr.mk .dub (dubL lay (pt.toNat / 2) 0) und _ way pace sign mu = _
    rw [dub0 lne]
  | empty => cases e
  | stop => cases e
  | record => cases e
theorem atK_ok {t : Tr} {n : Nat} (h : OkH t n) (e : t.md.on = true) (k : Nat) : OkH (atK t k) n := by
  have n1 := h.n1
  have el := h.len
  have q0 : 0 ≤ (t.pt + t.way * t.pace * (k : Int)) % (2 * (lenT t : Int)) := Int.emod_nonneg _ (by omega)
  have q1 : (t.pt + t.way * t.pace * (k : Int)) % (2 * (lenT t : Int)) < 2 * (n : Int) := by
    rw [el]
    exact Int.emod_lt_of_pos _ (by omega)
  exact ⟨h.md, h.n1, h.n64, h.l1, h.l4, h.ln, h.un, h.db, q0, q1, (fun z => by
    have z : t.md = .stop := z
    rw [z] at e
    cases e), h.wy, h.pc, h.sg⟩
theorem atK_go {t : Tr} {n : Nat} (h : OkH t n) (e : t.md.on = true) (k : Nat) : goT (atK t k) 0 = atK t (k + 1) := by
  rw [go0 (atK_ok h e k) e]
  show Tr.mk t.md t.lay t.und (wrapP (atK t k)) t.way t.pace t.sign t.mu = Tr.mk t.md t.lay t.und _ t.way t.pace t.sign t.mu
  congr 1
  show ((t.pt + t.way * t.pace * (k : Int)) % (2 * (lenT t : Int)) + t.way * t.pace) % (2 * (lenT t : Int)) = (t.pt + t.way * t.pace * ((k + 1 : Nat) : Int)) % (2 * (lenT t : Int))
  rw [Int.emod_add_emod]
  congr 1
  rw [Int.natCast_add, Int.mul_add]
  omega
theorem atK_zero {t : Tr} {n : Nat} (h : OkH t n) : atK t 0 = t := by
  have p0 := h.p0
  have p1 := h.p1
  unfold atK
  have e : (t.pt + t.way * t.pace * ((0 : Nat) : Int)) % (2 * (lenT t : Int)) = t.pt := by
    rw [h.len, Int.natCast_zero, Int.mul_zero, Int.add_zero, Int.emod_eq_of_lt p0 p1]
  rw [e]
def ringT (t : Tr) : Nat := 2 * lenT t / Nat.gcd (2 * lenT t) t.pace.toNat
theorem ring_pos {t : Tr} {n : Nat} (h : OkH t n) : 1 ≤ ringT t := by
  unfold ringT
  have n1 := h.n1
  rw [h.len]
  exact Nat.div_pos (Nat.gcd_le_left _ (by omega)) (Nat.gcd_pos_of_pos_left _ (by omega))
theorem ring_le {t : Tr} {n : Nat} (h : OkH t n) : ringT t ≤ 128 := by
  unfold ringT
  have n64 := h.n64
  rw [h.len]
  exact Nat.le_trans (Nat.div_le_self _ _) (by omega)
theorem atK_ret {t : Tr} {n : Nat} (h : OkH t n) (k : Nat) : (atK t k).pt = t.pt ↔ ringT t ∣ k := by
  have q := ret_iff (pace := t.pace) h.n1 h.p0 h.p1 h.wy (by rcases h.pc with e | e | e <;> rw [e] <;> decide) k
  show (t.pt + t.way * t.pace * (k : Int)) % (2 * (lenT t : Int)) = t.pt ↔ _
  unfold ringT
  rw [h.len]
  exact q
theorem once_at {t : Tr} {n : Nat} (h : OkH t n) (e : t.md.on = true) : onceT t = (List.range (ringT t)).map fun k => (atK t k).sign * sndT (atK t k) := by
  unfold onceT ringT
  refine List.map_congr_left fun k _ => ?_
  show _ = t.sign * (if t.md.on then colS t.lay (((t.pt + t.way * t.pace * (k : Int)) % (2 * (lenT t : Int))).toNat / 2) else 0)
  rw [e, if_pos rfl]
end My
namespace My
open PySem PySem.Spec PyProof.Rows L2
/-! ### what is told of pedals -/
def smA (z : Int) : Prop := z.natAbs ≤ 10 ^ 22
def SmT (t : Tr) : Prop := (∀ l ∈ t.lay, ∀ z ∈ l, smA z) ∧ ∀ l ∈ t.und, ∀ z ∈ l, smA z
/-- a track all of whose numbers have few digits -/
def FitT (t : Tr) : Prop := (∀ l ∈ t.lay, ∀ z ∈ l, z.natAbs < 10 ^ 40) ∧ ∀ l ∈ t.und, ∀ z ∈ l, z.natAbs < 10 ^ 40
theorem SmT.fit {t : Tr} (h : SmT t) : FitT t :=
  ⟨fun l hl z hz => Nat.lt_of_le_of_lt (h.1 l hl z hz) (by decide), fun l hl z hz => Nat.lt_of_le_of_lt (h.2 l hl z hz) (by decide)⟩
theorem md_fits : ∀ m : Md, fits 40 (.str m.s) = true
  | .empty => by decide +kernel
  | .record => by decide +kernel
  | .play => by decide +kernel
  | .dub => by decide +kernel
  | .stop => by decide +kernel
theorem OkT.pts {t : Tr} (h : OkT t) : 0 ≤ t.pt ∧ t.pt < 128 := by
  cases h with
  | e => exact ⟨by decide, by decide⟩
  | r c h => exact ⟨by show (0 : Int) ≤ 0; decide, by show (0 : Int) < 128; decide⟩
  | h t n h =>
    have := h.p0
    have := h.p1
    have := h.n64
    omega
theorem OkT.nums {t : Tr} (h : OkT t) : t.way.natAbs ≤ 1 ∧ t.pace.natAbs ≤ 4 ∧ t.sign.natAbs ≤ 1 := by
  cases h with
  | e => exact ⟨by decide, by decide, by decide⟩
  | r c h => exact ⟨by show (1 : Int).natAbs ≤ 1; decide, by show (2 : Int).natAbs ≤ 4; decide, by show (1 : Int).natAbs ≤ 1; decide⟩
  | h t n h =>
    refine ⟨?_, ?_, ?_⟩
    · rcases h.wy with e | e <;> rw [e] <;> decide
    · rcases h.pc with e | e | e <;> rw [e] <;> decide
    · rcases h.sg with e | e <;> rw [e] <;> decide
theorem lays4 {t : Tr} (h : OkT t) : (t.lay.length ≤ 4 ∧ ∀ l ∈ t.lay, l.length ≤ 64) ∧ t.und.length ≤ 4 ∧ ∀ l ∈ t.und, l.length ≤ 64 := by
  cases h with
  | e => exact ⟨⟨by decide, fun l hl => by cases hl⟩, by decide, fun l hl => by cases hl⟩
  | r c h => exact ⟨⟨by show 1 ≤ 4; decide, fun l hl => by rw [List.mem_singleton.mp hl]; omega⟩, by show 0 ≤ 4; decide, fun l hl => by cases hl⟩
  | h t n h =>
    have := h.l4
    have := h.n64
    exact ⟨⟨by omega, fun l hl => by rw [h.ln l hl]; omega⟩, by omega, fun l hl => by rw [h.un l hl]; omega⟩
theorem fitI {z : Int} (h : z.natAbs < 10 ^ 40) : fits 40 (.int z) = true := decide_eq_true h
theorem fits_tr {t : Tr} (ok : OkT t) (f : FitT t) : fits 40 (trD t) = true := by
  have e : (10 : Nat) ^ 40 > 1000 := by decide
  obtain ⟨p0, p1⟩ := ok.pts
  obtain ⟨w, p, s⟩ := ok.nums
  show (fits 40 (.str t.md.s) && (fits.go 40 (t.lay.map dInts) && (fits.go 40 (t.und.map dInts) && (fits 40 (.int t.pt) && (fits 40 (.int t.way) && (fits 40 (.int t.pace) && (fits 40 (.int t.sign) && (fits 40 (.bool t.mu) && true)))))))) = true
  rw [md_fits, fits_loops f.1, fits_loops f.2, fitI (by omega), fitI (by omega), fitI (by omega), fitI (by omega)]
  rfl
theorem room_tr {t : Tr} (ok : OkT t) : room 40 (trD t) ≤ 30000 := by
  obtain ⟨⟨a1, a2⟩, b1, b2⟩ := lays4 ok
  have q1 := room_loops 40 64 t.lay a2
  have q2 := room_loops 40 64 t.und b2
  show (1000 + 2 + (room.go 40 (t.lay.map dInts) + 4 + 2 + (room.go 40 (t.und.map dInts) + 4 + 2 + (41 + 2 + (41 + 2 + (41 + 2 + (41 + 2 + (10 + 2 + 0)))))))) + 4 ≤ 30000
  omega
theorem depth_tr (t : Tr) : (trD t).depth ≤ 3 := by
  have q1 := depth_loops t.lay
  have q2 := depth_loops t.und
  show max 0 (max (PyData.depthAll (t.lay.map dInts) + 1) (max (PyData.depthAll (t.und.map dInts) + 1) (max 0 (max 0 (max 0 (max 0 (max 0 0))))))) + 1 ≤ 3
  omega
theorem fits_board : ∀ {ts : List Tr}, (∀ t ∈ ts, OkT t) → (∀ t ∈ ts, FitT t) → fits.go 40 (ts.map trD) = true
  | [], _, _ => rfl
  | t :: r, h, f => by
    show (fits 40 (trD t) && fits.go 40 (r.map trD)) = true
    rw [fits_tr (h t List.mem_cons_self) (f t List.mem_cons_self), fits_board (fun u hu => h u (List.mem_cons_of_mem _ hu)) fun u hu => f u (List.mem_cons_of_mem _ hu)]
    rfl
theorem room_board : ∀ {ts : List Tr}, (∀ t ∈ ts, OkT t) → room.go 40 (ts.map trD) ≤ 30002 * ts.length
  | [], _ => Nat.le_refl _
  | t :: r, h => by
    have q := room_board (ts := r) fun u hu => h u (List.mem_cons_of_mem _ hu)
    have q1 := room_tr (h t List.mem_cons_self)
    show room 40 (trD t) + 2 + room.go 40 (r.map trD) ≤ 30002 * (r.length + 1)
    omega
theorem depth_board : ∀ ts : List Tr, PyData.depthAll (ts.map trD) ≤ 3
  | [] => by decide
  | t :: r => by
    have q := depth_board r
    have q1 := depth_tr t
    show max (trD t).depth (PyData.depthAll (r.map trD)) ≤ 3
    omega
theorem tells_board {ts : List Tr} (ok : OkB ts) (f : ∀ t ∈ ts, FitT t) : Tells (dBoard ts) := by
  refine tells 40 (by decide) (by decide) rfl (fits_board ok.2.2 f) ?_ ?_
  · have q := depth_board ts
    show PyData.depthAll (ts.map trD) + 1 ≤ 8
    omega
  · have q := room_board ok.2.2
    have := ok.2.1
    show room.go 40 (ts.map trD) + 4 ≤ _
    omega
theorem tells_pair {i : Int} {ls : List (List Int)} (hi : i.natAbs < 10 ^ 40) (hz : ∀ l ∈ ls, ∀ z ∈ l, z.natAbs < 10 ^ 40) (hb : ∀ l ∈ ls, l.length ≤ 128) (hl : ls.length ≤ 100) : Tells (.tuple [.int i, dLoops ls]) := by
  refine tells 40 (by decide) (by decide) rfl ?_ ?_ ?_
  · show (fits 40 (.int i) && (fits.go 40 (ls.map dInts) && true)) = true
    rw [fitI hi, fits_loops hz]
    rfl
  · have q := depth_loops ls
    show max 0 (max (PyData.depthAll (ls.map dInts) + 1) 0) + 1 ≤ 8
    omega
  · have q := room_loops 40 128 ls hb
    show (41 + 2 + (room.go 40 (ls.map dInts) + 4 + 2 + 0)) + 4 ≤ 16000000
    have q2 : ((40 + 3) * 128 + 6) * ls.length ≤ ((40 + 3) * 128 + 6) * 100 := Nat.mul_le_mul_left _ hl
    omega
theorem sm_add0 {l : List Int} (h : ∀ z ∈ l, smA z) : ∀ z ∈ l ++ [0], smA z := fun z hz => by
  rcases List.mem_append.mp hz with q | q
  · exact h z q
  · rw [List.mem_singleton.mp q]
    exact Nat.zero_le _
theorem SmT_go {t : Tr} (ok : OkT t) (h : SmT t) : SmT (goT t 0) := by
  cases ok with
  | e => exact h
  | r c hc =>
    have q := sm_add0 (h.1 c (by simp))
    by_cases e : (c ++ [0]).length = 64
    · have g : goT (Tr.rc c) 0 = ⟨.play, [c ++ [0]], [], 0, 1, 2, 1, false⟩ := by
        show (if (c ++ [0]).length = 64 then _ else _) = _
        rw [if_pos e]
        rfl
      rw [g]
      exact ⟨fun l hl => by rw [List.mem_singleton.mp hl]; exact q, fun l hl => by cases hl⟩
    · have g : goT (Tr.rc c) 0 = Tr.rc (c ++ [0]) := by
        show (if (c ++ [0]).length = 64 then _ else _) = _
        rw [if_neg e]
        rfl
      rw [g]
      exact ⟨fun l hl => by rw [List.mem_singleton.mp hl]; exact q, fun l hl => by cases hl⟩
  | h t n hh =>
    cases eo : t.md.on with
    | true =>
      rw [go0 hh eo]
      exact h
    | false =>
      obtain ⟨md, lay, und, pt, way, pace, sign, mu⟩ := t
      have hm := hh.md
      cases md with
      | empty => cases hm
      | record => cases hm
      | play => cases eo
      | dub => cases eo
      | stop => exact h
theorem SmB_go {ts : List Tr} (ok : ∀ t ∈ ts, OkT t) (h : ∀ t ∈ ts, SmT t) : ∀ t ∈ goB ts 0, SmT t := fun t ht => by
  obtain ⟨u, hu, rfl⟩ := List.mem_map.mp ht
  exact SmT_go (ok u hu) (h u hu)
theorem run_sm : ∀ (n : Nat) {ts : List Tr}, OkB ts → (∀ t ∈ ts, SmT t) → OkB (runB n ts).2 ∧ ∀ t ∈ (runB n ts).2, SmT t
  | 0, _, ok, h => ⟨ok, h⟩
  | n + 1, ts, ok, h => run_sm n (goB_ok 0 ok) (SmB_go ok.2.2 h)
theorem run_len : ∀ (n : Nat) (ts : List Tr), (runB n ts).1.length = n
  | 0, _ => rfl
  | n + 1, ts => by
    show (runB n (goB ts 0)).1.length + 1 = n + 1
    rw [run_len n]
theorem early_len (ts : List Tr) : (earlyB ts).length = waitB ts := run_len _ _
theorem col_small {B : Nat} : ∀ {ls : List (List Int)}, (∀ l ∈ ls, ∀ z ∈ l, z.natAbs ≤ B) → ∀ c, (colS ls c).natAbs ≤ B * ls.length
  | [], _, _ => Nat.zero_le _
  | l :: r, h, c => by
    have q := col_small (ls := r) (fun m hm => h m (List.mem_cons_of_mem _ hm)) c
    have e : (l.getD c 0).natAbs ≤ B := by
      rw [List.getD_eq_getElem?_getD]
      cases e : l[c]? with
      | none => exact Nat.zero_le _
      | some z => exact h l List.mem_cons_self z (List.mem_of_getElem? e)
    show (l.getD c 0 + colS r c).natAbs ≤ B * (r.length + 1)
    rw [Nat.mul_add]
    omega
theorem once_small {t : Tr} (ok : OkT t) (h : SmT t) : ∀ z ∈ onceT t, z.natAbs < 10 ^ 40 := fun z hz => by
  unfold onceT at hz
  obtain ⟨k, _, rfl⟩ := List.mem_map.mp hz
  have q := col_small h.1 (((t.pt + t.way * t.pace * (k : Nat)) % (2 * (lenT t : Int))).toNat / 2)
  have l4 := (lays4 ok).1.1
  have s1 := ok.nums.2.2
  rw [Int.natAbs_mul]
  have q2 : 10 ^ 22 * t.lay.length ≤ 10 ^ 22 * 4 := Nat.mul_le_mul_left _ l4
  exact Nat.lt_of_le_of_lt (Nat.mul_le_mul s1 (Nat.le_trans q q2)) (by decide)
theorem once_len {t : Tr} {n : Nat} (h : OkH t n) : (onceT t).length ≤ 128 := by
  unfold onceT
  rw [List.length_map, List.length_range]
  exact ring_le h
theorem turns_ok {t : Tr} (h : turns t = true) (ok : OkT t) : ∃ n, OkH t n := by
  unfold turns at h
  have e := (Bool.and_eq_true_iff.mp h).1
  cases ok with
  | e => cases e
  | r c h => cases e
  | h t n h => exact ⟨n, h⟩
theorem turn_facts {ts : List Tr} (ok : OkB ts) (h : ∀ t ∈ ts, SmT t) : (turnB ts).length ≤ 4 ∧ (∀ l ∈ turnB ts, l.length ≤ 128) ∧ ∀ l ∈ turnB ts, ∀ z ∈ l, z.natAbs < 10 ^ 40 := by
  obtain ⟨ok2, h2⟩ := run_sm (waitB ts) ok h
  unfold turnB endB
  refine ⟨?_, fun l hl => ?_, fun l hl => ?_⟩
  · rw [List.length_map]
    exact Nat.le_trans (List.length_filter_le _ _) ok2.2.1
  · obtain ⟨t, ht, rfl⟩ := List.mem_map.mp hl
    obtain ⟨a, b⟩ := List.mem_filter.mp ht
    obtain ⟨n, hn⟩ := turns_ok b (ok2.2.2 t a)
    exact once_len hn
  · obtain ⟨t, ht, rfl⟩ := List.mem_map.mp hl
    obtain ⟨a, b⟩ := List.mem_filter.mp ht
    exact once_small (ok2.2.2 t a) (h2 t a)
end My

/-! A dict of the written part whose keys are texts: its keys walked (pi_word, walk_word). -/
namespace RD
open PySem PySem.Spec PyProof.Rows L2
/-- at d: a written dict with these texts as keys, in their order -/
def Words (K : PySem.W.Frag) (d : Addr) (ks : List Str) : Prop :=
  ∃ es n, K.lookup d = some ⟨.type "dict", none, .dict es n, #[]⟩ ∧ (d == sysModules) = false ∧ ks.length = es.size ∧ ∀ (i : Nat) (k : Str), ks[i]? = some k → ∃ en t, es[i]? = some en ∧ en.key = .str k t
def Itw (ks : List Str) : It :=
  ⟨fun i _ => i < ks.length, fun i H x H' => H' = H ∧ ∃ k, ks[i]? = some k ∧ x = .str k, fun i _ => ks.length ≤ i⟩
theorem turn_word {P : Program} {w : World} {K : PySem.W.Frag} {tg : Expr} {d : Addr} {ks : List Str} {es : Array DictEntry} {n : Nat} (hl : K.lookup d = some ⟨.type "dict", none, .dict es n, #[]⟩) (hs : ks.length = es.size)
    (hk : ∀ (i : Nat) (k : Str), ks[i]? = some k → ∃ en t, es[i]? = some en ∧ en.key = .str k t) (it : Addr) : Turn P w K tg (Itw ks) [it] it (fun i h => h.IsKeyIter it d i es.size n) where
  mem := by simp
  obj := fun i h st b hb => by
    have e : b = it := by simpa using hb
    subst e
    obtain ⟨oi, e, c, dd⟩ := st
    exact ⟨oi, e, fun v z => by rw [dd] at z; cases z⟩
  keep := fun i h h' st k => st.at fun oi e => k it (by simp) oi e
  item := by
    intro X hP hw hK hc i pins s σ H E I hf st hg
    subst hP hw hK
    obtain ⟨f0, f1, f2, f3, f4, f5⟩ := hf it (by simp)
    have hi : i < ks.length := hg
    obtain ⟨en, t, hen, hkey⟩ := hk i _ (List.getElem?_eq_getElem hi)
    refine next_key_item st (I.kIn d _ hl) rfl rfl hen fun h' st' sb => ?_
    have I1 : Inv X pins σ H { s with heap := h' } := I.turned (t' := s.toks) (fun b ob hb e => (sb.2 b hb).trans e) f0 f1 f3 f4 f5
    obtain ⟨oi, e, c, dd⟩ := id st'
    rw [hkey]
    exact ⟨_, rfl, go_of (s := { s with heap := h' }) e c dd (by decide) ⟨.str ks[i], H, I1, ⟨t, rfl⟩, ⟨rfl, _, List.getElem?_eq_getElem hi, rfl⟩, st', fun b hb => (hf b hb).1⟩⟩
  done := by
    intro X hP hw hK hc i pins s σ H E I hf st hg
    subst hP hw hK
    obtain ⟨f0, f1, f2, f3, f4, f5⟩ := hf it (by simp)
    have hi : ks.length ≤ i := hg
    exact next_key_end (I.ok.hd hc) st (I.kIn d _ hl) rfl rfl (by rw [← hs]; exact hi) fun h' eb => ⟨rfl, I.turned (t' := s.toks) (fun b ob hb e => eb b ob hb e) f0 f1 f3 f4 f5⟩
  self := fun A i s Q E st h => wpAny_pyIter_keyiter st h
def iWords (K : PySem.W.Frag) (td : TE) : TI := fun σ H R => td σ H fun x H1 => ∃ d ks, x = .ref d ∧ Words K d ks ∧ R (Itw ks) H1
section
variable {X : Cx} {tg e : Expr} {td : TE}
theorem pi_word (he : PE X e td) : PI X tg e (iWords X.K td) := by
  refine ⟨fun pins s σ H R I h => ?_⟩
  refine thn (he.run pins s σ H _ I h) fun u s1 ⟨x, H1, I1, rx, d, ks, ex, ⟨es, n, hl, lo, hs, hk⟩, q⟩ => ?_
  subst ex
  obtain rfl : u = Value.ref d := rx
  exact iter_keys lo (I1.kIn d _ hl) ⟨rfl, rfl, rfl⟩ rfl (pi_one (tk := s1.toks) I1 _ (turn_word hl hs hk _) ⟨_, Heap.get?_push_size _ rfl, rfl, rfl⟩ q)
end
theorem walk_word {ks : List Str} : Walk (Itw ks) ks.length (fun _ => True) (fun i H x H' => H' = H ∧ ∃ k, ks[i]? = some k ∧ x = .str k) :=
  ⟨fun _ _ h _ => h, fun _ _ => Nat.le_refl _, fun _ _ _ _ _ _ y => y⟩
end RD
namespace L2
open PySem PySem.Spec PyProof.Rows
theorem k_piW {X : Cx} {K : PySem.W.Frag} {tg e : Expr} {td : TE} (he : PE X e td) (ek : X.K = K := by rfl) : PI X tg e (RD.iWords K td) := by
  subst ek
  exact RD.pi_word he
theorem k_ixD {X : Cx} {K : PySem.W.Frag} {w : World} (ek : X.K = K := by rfl) (ew : X.w = w := by rfl) : IxR X (rIxD K w) := by
  subst ek ew
  exact ix_kdict
/-- a call of a local that holds one of several defs: which one, and what it promises -/
def tCallR (i : Nat) (S : Addr → Sp → Prop) (t : TA) : TE := fun σ H Q => ∃ f sp, σ[i]? = some (some (.ref f)) ∧ S f sp ∧ t σ H fun vs H1 => sp vs H1 Q (fun _ _ _ => False)
theorem pe_callR {X : Cx} {k i : Nat} {x : Str} {p pos : Pos} {e : Expr} {es : List Expr} {t : TA} {S : Addr → Sp → Prop} (A : ∀ f sp, S f sp → Held X.prog X.w X.K X.mg X.base k f sp) (hr : Room k X.A) (ha : PA X (e :: es) t)
    (hN : X.N[i]? = some x := by rfl) (hv : Vis X.env.scope x := by first | exact Or.inl rfl | exact Or.inr (Or.inl rfl) | exact Or.inr (Or.inr rfl))
    (hdb : (x == ("__debug__" : Str)) = false := by decide) (hcd : (x == ("__classdict__" : Str)) = false := by decide)
    (he : starEach (e :: es) X.env = (false, eval e X.env) :: starEach es X.env := by rfl) (hpl : (backTo pos (starEach es X.env)).any (·.1) = false := by rfl) : PE X (.Call (.Name x p) (e :: es) [] pos) (tCallR i S t) := by
  refine ⟨fun pins s σ H Q I h => ?_⟩
  obtain ⟨f, sp, hs, hS, ht⟩ := h
  obtain ⟨fd, ps, F, hk, hb⟩ := (A f sp hS).ex
  refine (pe_callL (i := i) (f := f) (sp := sp) (dvs := []) (E := fun _ _ _ => False) F hr hN hv hk hb .nil (fun _ _ _ _ _ _ _ z => z.elim) ha hdb hcd he hpl).run pins s σ H Q I ⟨hs, ?_⟩
  have e0 : (fun (vs : List V) (H1 : Hp) => sp (vs ++ []) H1 Q (fun _ _ _ => False)) = fun vs H1 => sp vs H1 Q (fun _ _ _ => False) := by
    funext vs H1
    rw [List.append_nil]
  show t σ H (fun vs H1 => sp (vs ++ []) H1 Q (fun _ _ _ => False))
  rw [e0]
  exact ht
end L2

/-! Presses: what they make of tracks and pedals. -/
namespace My
open PySem PySem.Spec PyProof.Rows L2
inductive Dd where
  | tap
  | stop
  | clear
  | undo
  | redo
  | join
  | turn
  | flip
  | mute
  deriving DecidableEq
def Dd.s : Dd → Str
  | .tap => "tap"
  | .stop => "stop"
  | .clear => "clear"
  | .undo => "undo"
  | .redo => "redo"
  | .join => "join"
  | .turn => "turn"
  | .flip => "flip"
  | .mute => "mute"
def allD : List Dd := [.tap, .stop, .clear, .undo, .redo, .join, .turn, .flip, .mute]
theorem Dd.mem (d : Dd) : d ∈ allD := by cases d <;> decide
def joinL (ls : List (List Int)) : List Int := (List.range (ls.headD []).length).map fun c => colS ls c
def tapT (t : Tr) : Tr := match t.md with
  | .empty => Tr.rc []
  | .record => if t.lay = [[]] then Tr.e else { t with md := .play }
  | .play => if t.lay.length = 4 then t else { t with md := .dub, lay := t.lay ++ [List.replicate (lenT t) 0], und := [] }
  | _ => { t with md := .play }
def stopT (t : Tr) : Tr := if t.md = .empty ∨ t.lay = [[]] then Tr.e else { t with md := .stop, pt := 0 }
def undoT (t : Tr) : Tr := if t.lay.length < 2 then t else { t with md := if t.md = .dub then .play else t.md, lay := t.lay.dropLast, und := t.und ++ [t.lay.getLastD []] }
def redoT (t : Tr) : Tr := if t.und = [] then t else { t with lay := t.lay ++ [t.und.getLastD []], und := t.und.dropLast }
def joinT (t : Tr) : Tr := if t.md = .dub ∨ t.lay.length < 2 then t else { t with lay := [joinL t.lay], und := [] }
def turnT (t : Tr) : Tr := if t.md.holds then { t with way := - t.way } else t
def flipT (t : Tr) : Tr := if t.md.holds then { t with sign := - t.sign } else t
def muteT (t : Tr) : Tr := if t.md.holds then { t with mu := !t.mu } else t
def paceT (p : Int) (t : Tr) : Tr := if t.md.holds then { t with pace := p } else t
def deedT : Dd → Tr → Tr
  | .tap => tapT
  | .stop => stopT
  | .clear => fun _ => Tr.e
  | .undo => undoT
  | .redo => redoT
  | .join => joinT
  | .turn => turnT
  | .flip => flipT
  | .mute => muteT
inductive Pr where
  | d (w : Dd) (a : Nat)
  | p (a : Nat) (n : Int)
def Pr.at : Pr → Nat
  | .d _ a => a
  | .p a _ => a
def Pr.s : Pr → Str
  | .d w _ => w.s
  | .p _ _ => "pace"
def prD : Pr → PyData
  | .d w a => .tuple [.str w.s, .int (a : Nat)]
  | .p a n => .tuple [.str "pace", .int (a : Nat), .int n]
def pressT : Pr → Tr → Tr
  | .d w _ => deedT w
  | .p _ n => paceT n
structure OkP (p : Pr) (tracks : Nat) : Prop where
  at_ : p.at < tracks
  pc : ∀ a n, p = .p a n → n = 1 ∨ n = 2 ∨ n = 4
def pressB (ts : List Tr) (p : Pr) : List Tr := ts.set p.at (pressT p (ts.getD p.at Tr.e))
theorem OkH.lay_ne {t : Tr} {n : Nat} (h : OkH t n) : t.lay ≠ [[]] := fun e => by
  have q := h.ln [] (by rw [e]; exact List.mem_singleton.mpr rfl)
  have := h.n1
  simp at q
  omega
theorem OkH.ne {t : Tr} {n : Nat} (h : OkH t n) : t.lay ≠ [] := fun e => by
  have := h.l1
  rw [e] at this
  simp at this
theorem lastD_mem {α : Type} {ls : List α} (h : ls ≠ []) (d : α) : ls.getLastD d ∈ ls := by
  rw [List.getLastD_eq_getLast?, List.getLast?_eq_some_getLast h]
  exact List.getLast_mem h
theorem tap_ok {t : Tr} (h : OkT t) : OkT (tapT t) := by
  cases h with
  | e => exact .r [] (by decide)
  | r c h =>
    by_cases e : (Tr.rc c).lay = [[]]
    · have g : tapT (Tr.rc c) = Tr.e := by
        show (if (Tr.rc c).lay = [[]] then _ else _) = _
        rw [if_pos e]
      rw [g]
      exact .e
    · have g : tapT (Tr.rc c) = ⟨.play, [c], [], 0, 1, 2, 1, false⟩ := by
        show (if (Tr.rc c).lay = [[]] then _ else _) = _
        rw [if_neg e]
      rw [g]
      have c1 : c ≠ [] := fun q => e (by rw [q])
      have := List.length_pos_iff.mpr c1
      exact .h _ c.length ⟨rfl, this, by omega, Nat.le_refl 1, by simp, by simp, by simp, by simp, by simp, by simp; omega, by simp, .inl rfl, .inr (.inl rfl), .inl rfl⟩
  | h t n h =>
    have hn := h.len
    obtain ⟨md, lay, und, pt, way, pace, sign, mu⟩ := t
    have hm := h.md
    cases md with
    | empty => cases hm
    | record => cases hm
    | stop =>
      have e := h.st rfl
      exact .h _ n ⟨rfl, h.n1, h.n64, h.l1, h.l4, h.ln, h.un, (by intro z; cases z), h.p0, h.p1, (by intro z; cases z), h.wy, h.pc, h.sg⟩
    | dub => exact .h _ n ⟨rfl, h.n1, h.n64, h.l1, h.l4, h.ln, h.un, (by intro z; cases z), h.p0, h.p1, (by intro z; cases z), h.wy, h.pc, h.sg⟩
    | play =>
      by_cases e : lay.length = 4
      · have g : tapT ⟨.play, lay, und, pt, way, pace, sign, mu⟩ = ⟨.play, lay, und, pt, way, pace, sign, mu⟩ := by
          show (if lay.length = 4 then _ else _) = _
          rw [if_pos e]
        rw [g]
        exact .h _ n h
      · have g : tapT ⟨.play, lay, und, pt, way, pace, sign, mu⟩ = ⟨.dub, lay ++ [List.replicate n 0], [], pt, way, pace, sign, mu⟩ := by
          show (if lay.length = 4 then _ else _) = _
          rw [if_neg e]
          rw [hn]
        rw [g]
        have l1 := h.l1
        have l4 := h.l4
        dsimp only at l1 l4
        refine .h _ n ⟨rfl, h.n1, h.n64, ?_, ?_, fun l hl => ?_, by simp, fun _ => ⟨?_, rfl⟩, h.p0, h.p1, (by intro z; cases z), h.wy, h.pc, h.sg⟩
        · simp
        · simp
          omega
        · rcases List.mem_append.mp hl with q | q
          · exact h.ln l q
          · rw [List.mem_singleton.mp q, List.length_replicate]
        · simp
          omega
theorem stop_ok {t : Tr} (h : OkT t) : OkT (stopT t) := by
  unfold stopT
  split
  · exact .e
  · rename_i q
    cases h with
    | e => exact absurd (.inl rfl) q
    | r c h =>
      have c1 : c ≠ [] := fun z => q (.inr (by rw [z]))
      have := List.length_pos_iff.mpr c1
      exact .h _ c.length ⟨rfl, this, by omega, Nat.le_refl 1, by simp, by simp, by simp, by simp, by simp, by simp; omega, by simp, .inl rfl, .inr (.inl rfl), .inl rfl⟩
    | h t n h =>
      have := h.n1
      exact .h _ n ⟨rfl, h.n1, h.n64, h.l1, h.l4, h.ln, h.un, (by intro z; cases z), Int.le_refl 0, by show (0 : Int) < 2 * (n : Int); omega, fun _ => rfl, h.wy, h.pc, h.sg⟩
theorem undo_ok {t : Tr} (h : OkT t) : OkT (undoT t) := by
  unfold undoT
  split
  · exact h
  · rename_i q
    cases h with
    | e => exact absurd (by decide) q
    | r c h => exact absurd (by show 1 < 2; decide) q
    | h t n h =>
      have ne := h.ne
      have hl := lastD_mem ne []
      have l4 := h.l4
      refine .h _ n ⟨?_, h.n1, h.n64, ?_, ?_, fun l hl2 => h.ln l ((List.dropLast_sublist _).subset hl2), fun l hl2 => ?_, fun z => ?_, h.p0, h.p1, fun z => ?_, h.wy, h.pc, h.sg⟩
      · show (if t.md = .dub then Md.play else t.md).holds = true
        split
        · rfl
        · exact h.md
      · show 1 ≤ t.lay.dropLast.length
        rw [List.length_dropLast]
        omega
      · show t.lay.dropLast.length + (t.und ++ [t.lay.getLastD []]).length ≤ 4
        rw [List.length_dropLast, List.length_append, List.length_singleton]
        omega
      · rcases List.mem_append.mp hl2 with z | z
        · exact h.un l z
        · rw [List.mem_singleton.mp z]
          exact h.ln _ hl
      · exact absurd (show (if t.md = .dub then Md.play else t.md) = .dub from z) (by split <;> simp_all)
      · have z : (if t.md = .dub then Md.play else t.md) = .stop := z
        split at z
        · cases z
        · exact h.st z
theorem redo_ok {t : Tr} (h : OkT t) : OkT (redoT t) := by
  unfold redoT
  split
  · exact h
  · rename_i q
    cases h with
    | e => exact absurd rfl q
    | r c h => exact absurd rfl q
    | h t n h =>
      have hl := lastD_mem q []
      have l4 := h.l4
      have := List.length_pos_iff.mpr q
      refine .h _ n ⟨h.md, h.n1, h.n64, ?_, ?_, fun l hl2 => ?_, fun l hl2 => h.un l ((List.dropLast_sublist _).subset hl2), fun z => absurd (h.db z).2 q, h.p0, h.p1, h.st, h.wy, h.pc, h.sg⟩
      · show 1 ≤ (t.lay ++ [t.und.getLastD []]).length
        simp
      · show (t.lay ++ [t.und.getLastD []]).length + t.und.dropLast.length ≤ 4
        rw [List.length_dropLast, List.length_append, List.length_singleton]
        omega
      · rcases List.mem_append.mp hl2 with z | z
        · exact h.ln l z
        · rw [List.mem_singleton.mp z]
          exact h.un _ hl
theorem join_ok {t : Tr} (h : OkT t) : OkT (joinT t) := by
  unfold joinT
  split
  · exact h
  · rename_i q
    cases h with
    | e => exact absurd (.inr (by decide)) q
    | r c h => exact absurd (.inr (by show 1 < 2; decide)) q
    | h t n h =>
      have hn : (joinL t.lay).length = n := by
        have e := h.len
        unfold lenT at e
        unfold joinL
        rw [List.length_map, List.length_range]
        exact e
      refine .h _ n ⟨h.md, h.n1, h.n64, Nat.le_refl 1, (by show 1 + 0 ≤ 4; decide), fun l hl2 => ?_, (fun l hl2 => by cases hl2), fun z => absurd (.inl z) q, h.p0, h.p1, h.st, h.wy, h.pc, h.sg⟩
      rw [List.mem_singleton.mp hl2]
      exact hn
theorem neg_one {w : Int} (h : w = 1 ∨ w = -1) : -w = 1 ∨ -w = -1 := by omega
theorem turn_ok {t : Tr} (h : OkT t) : OkT (turnT t) := by
  unfold turnT
  split
  · rename_i q
    cases h with
    | e => cases q
    | r c h => cases q
    | h t n h => exact .h _ n ⟨h.md, h.n1, h.n64, h.l1, h.l4, h.ln, h.un, h.db, h.p0, h.p1, h.st, neg_one h.wy, h.pc, h.sg⟩
  · exact h
theorem flip_ok {t : Tr} (h : OkT t) : OkT (flipT t) := by
  unfold flipT
  split
  · rename_i q
    cases h with
    | e => cases q
    | r c h => cases q
    | h t n h => exact .h _ n ⟨h.md, h.n1, h.n64, h.l1, h.l4, h.ln, h.un, h.db, h.p0, h.p1, h.st, h.wy, h.pc, neg_one h.sg⟩
  · exact h
theorem mute_ok {t : Tr} (h : OkT t) : OkT (muteT t) := by
  unfold muteT
  split
  · rename_i q
    cases h with
    | e => cases q
    | r c h => cases q
    | h t n h => exact .h _ n ⟨h.md, h.n1, h.n64, h.l1, h.l4, h.ln, h.un, h.db, h.p0, h.p1, h.st, h.wy, h.pc, h.sg⟩
  · exact h
theorem pace_ok {t : Tr} {p : Int} (hp : p = 1 ∨ p = 2 ∨ p = 4) (h : OkT t) : OkT (paceT p t) := by
  unfold paceT
  split
  · rename_i q
    cases h with
    | e => cases q
    | r c h => cases q
    | h t n h => exact .h _ n ⟨h.md, h.n1, h.n64, h.l1, h.l4, h.ln, h.un, h.db, h.p0, h.p1, h.st, h.wy, hp, h.sg⟩
  · exact h
theorem deed_ok (d : Dd) {t : Tr} (h : OkT t) : OkT (deedT d t) := by
  cases d with
  | tap => exact tap_ok h
  | stop => exact stop_ok h
  | clear => exact .e
  | undo => exact undo_ok h
  | redo => exact redo_ok h
  | join => exact join_ok h
  | turn => exact turn_ok h
  | flip => exact flip_ok h
  | mute => exact mute_ok h
theorem press_ok {p : Pr} {n : Nat} (hp : OkP p n) {t : Tr} (h : OkT t) : OkT (pressT p t) := by
  cases p with
  | d w a => exact deed_ok w h
  | p a m => exact pace_ok (hp.pc a m rfl) h
theorem pressB_ok {ts : List Tr} {p : Pr} (hp : OkP p ts.length) (h : OkB ts) : OkB (pressB ts p) := by
  unfold pressB
  refine ⟨by rw [List.length_set]; exact h.1, by rw [List.length_set]; exact h.2.1, fun t ht => ?_⟩
  rcases List.mem_or_eq_of_mem_set ht with q | q
  · exact h.2.2 t q
  · rw [q]
    refine press_ok hp (h.2.2 _ ?_)
    rw [List.getD_eq_getElem?_getD, List.getElem?_eq_getElem hp.at_]
    exact List.getElem_mem _
/-! ### how great the cells are: all of a column together -/
def colA (ls : List (List Int)) (c : Nat) : Nat := (ls.map fun l => (l.getD c 0).natAbs).sum
def BdT (t : Tr) (b : Nat) : Prop := ∀ c, colA (t.lay ++ t.und) c ≤ b
theorem colA_app (ls ms : List (List Int)) (c : Nat) : colA (ls ++ ms) c = colA ls c + colA ms c := by
  unfold colA
  rw [List.map_append, List.sum_append]
theorem colA_one (l : List Int) (c : Nat) : colA [l] c = (l.getD c 0).natAbs := by simp [colA]
theorem colS_le : ∀ (ls : List (List Int)) (c : Nat), (colS ls c).natAbs ≤ colA ls c
  | [], c => by simp [colS, colA]
  | l :: r, c => by
    have q := colS_le r c
    unfold colS colA at q ⊢
    rw [List.map_cons, List.sum_cons, List.map_cons, List.sum_cons]
    omega
theorem join_at (ls : List (List Int)) (c : Nat) : ((joinL ls).getD c 0).natAbs ≤ colA ls c := by
  unfold joinL
  rw [List.getD_eq_getElem?_getD, List.getElem?_map]
  by_cases h : c < (ls.headD []).length
  · rw [List.getElem?_range h]
    exact colS_le ls c
  · rw [List.getElem?_eq_none (by rw [List.length_range]; omega)]
    simp
theorem colA_last {ls : List (List Int)} (h : ls ≠ []) (c : Nat) : colA ls.dropLast c + ((ls.getLastD []).getD c 0).natAbs = colA ls c := by
  rw [show ls.getLastD [] = ls.getLast h from by rw [List.getLastD_eq_getLast?, List.getLast?_eq_some_getLast h]; rfl, ← colA_one, ← colA_app, List.dropLast_concat_getLast]
theorem BdT.e (b : Nat) : BdT Tr.e b := fun c => Nat.zero_le _
theorem rep_get0 (n c : Nat) : (List.replicate n (0 : Int)).getD c 0 = 0 := by
  rw [List.getD_eq_getElem?_getD, List.getElem?_replicate]
  split <;> rfl
theorem deed_bd (d : Dd) {t : Tr} {b : Nat} (h : BdT t b) : BdT (deedT d t) b := by
  intro c
  have q := h c
  rw [colA_app] at q
  cases d with
  | tap =>
    show colA ((tapT t).lay ++ (tapT t).und) c ≤ b
    obtain ⟨md, lay, und, pt, way, pace, sign, mu⟩ := t
    dsimp only at q
    rw [colA_app]
    cases md with
    | empty => exact Nat.zero_le _
    | record =>
      show colA (if lay = [[]] then Tr.e else _).lay c + colA (if lay = [[]] then Tr.e else _).und c ≤ b
      split
      · exact Nat.zero_le _
      · exact q
    | play =>
      unfold tapT
      dsimp only
      split
      · exact q
      · show colA (lay ++ [_]) c + 0 ≤ b
        rw [colA_app, colA_one, rep_get0]
        show colA lay c + 0 + 0 ≤ b
        omega
    | dub => exact q
    | stop => exact q
  | stop =>
    show colA ((stopT t).lay ++ (stopT t).und) c ≤ b
    rw [colA_app]
    unfold stopT
    split
    · exact Nat.zero_le _
    · exact q
  | clear => exact Nat.zero_le _
  | undo =>
    show colA ((undoT t).lay ++ (undoT t).und) c ≤ b
    rw [colA_app]
    unfold undoT
    split
    · exact q
    · rename_i z
      have ne : t.lay ≠ [] := fun y => z (by rw [y]; decide)
      have e := colA_last ne c
      show colA t.lay.dropLast c + colA (t.und ++ [t.lay.getLastD []]) c ≤ b
      rw [colA_app, colA_one]
      omega
  | redo =>
    show colA ((redoT t).lay ++ (redoT t).und) c ≤ b
    rw [colA_app]
    unfold redoT
    split
    · exact q
    · rename_i z
      have e := colA_last z c
      show colA (t.lay ++ [t.und.getLastD []]) c + colA t.und.dropLast c ≤ b
      rw [colA_app, colA_one]
      omega
  | join =>
    show colA ((joinT t).lay ++ (joinT t).und) c ≤ b
    rw [colA_app]
    unfold joinT
    split
    · exact q
    · have e := join_at t.lay c
      show colA [joinL t.lay] c + 0 ≤ b
      rw [colA_one]
      omega
  | turn =>
    show colA ((turnT t).lay ++ (turnT t).und) c ≤ b
    rw [colA_app]
    unfold turnT
    split <;> exact q
  | flip =>
    show colA ((flipT t).lay ++ (flipT t).und) c ≤ b
    rw [colA_app]
    unfold flipT
    split <;> exact q
  | mute =>
    show colA ((muteT t).lay ++ (muteT t).und) c ≤ b
    rw [colA_app]
    unfold muteT
    split <;> exact q
theorem press_bd (p : Pr) {t : Tr} {b : Nat} (h : BdT t b) : BdT (pressT p t) b := by
  cases p with
  | d w a => exact deed_bd w h
  | p a n =>
    intro c
    have q := h c
    rw [colA_app] at q
    show colA ((paceT n t).lay ++ (paceT n t).und) c ≤ b
    rw [colA_app]
    unfold paceT
    split <;> exact q
theorem colA_mem {ls : List (List Int)} {l : List Int} (h : l ∈ ls) (c : Nat) : (l.getD c 0).natAbs ≤ colA ls c := by
  unfold colA
  induction ls with
  | nil => cases h
  | cons m r ih =>
    rw [List.map_cons, List.sum_cons]
    cases h with
    | head => omega
    | tail _ z =>
      have := ih z
      omega
theorem BdT.cell {t : Tr} {b : Nat} (h : BdT t b) {l : List Int} (hl : l ∈ t.lay ++ t.und) {z : Int} (hz : z ∈ l) : z.natAbs ≤ b := by
  obtain ⟨c, hc, e⟩ := List.mem_iff_getElem.mp hz
  have q := Nat.le_trans (colA_mem hl c) (h c)
  rw [List.getD_eq_getElem?_getD, List.getElem?_eq_getElem hc, e] at q
  exact q
theorem colA_le {b : Nat} : ∀ {ls : List (List Int)}, (∀ l ∈ ls, ∀ z ∈ l, z.natAbs ≤ b) → ∀ c, colA ls c ≤ ls.length * b
  | [], _, c => Nat.zero_le _
  | l :: r, h, c => by
    have q := colA_le (ls := r) (fun m hm => h m (List.mem_cons_of_mem _ hm)) c
    have e : (l.getD c 0).natAbs ≤ b := by
      rw [List.getD_eq_getElem?_getD]
      by_cases hc : c < l.length
      · rw [List.getElem?_eq_getElem hc]
        exact h l List.mem_cons_self _ (List.getElem_mem hc)
      · rw [List.getElem?_eq_none (by omega)]
        exact Nat.zero_le _
    unfold colA at q ⊢
    rw [List.map_cons, List.sum_cons, List.length_cons, Nat.succ_mul]
    omega
theorem SmT.bd {t : Tr} (ok : OkT t) (h : SmT t) : BdT t (10 ^ 23) := fun c => by
  have l : (t.lay ++ t.und).length ≤ 4 := by
    cases ok with
    | e => decide
    | r c h => show 1 ≤ 4; decide
    | h t n h =>
      rw [List.length_append]
      exact h.l4
  have q := colA_le (b := 10 ^ 22) (ls := t.lay ++ t.und) (fun m hm z hz => by
    rcases List.mem_append.mp hm with y | y
    · exact h.1 m y z hz
    · exact h.2 m y z hz) c
  refine Nat.le_trans q (Nat.le_trans (Nat.mul_le_mul_right _ l) ?_)
  decide
theorem BdT.fit {t : Tr} (h : BdT t (10 ^ 23)) : FitT t :=
  ⟨fun l hl z hz => Nat.lt_of_le_of_lt (h.cell (List.mem_append.mpr (.inl hl)) hz) (by decide), fun l hl z hz => Nat.lt_of_le_of_lt (h.cell (List.mem_append.mpr (.inr hl)) hz) (by decide)⟩
theorem BdT.mono {t : Tr} {b b' : Nat} (h : BdT t b) (q : b ≤ b') : BdT t b' := fun c => Nat.le_trans (h c) q
end My

/-! Rows that are played: what is heard, the pedal behind, bounds. -/
namespace My
open PySem PySem.Spec PyProof.Rows L2
def stepB (ts : List Tr) (ps : List Pr) : List Tr := ps.foldl pressB ts
def playB : List Tr → List (List Pr) → List Int → List Int × List Tr
  | ts, st :: r, s :: ss => (hearB (stepB ts st) :: (playB (goB (stepB ts st) s) r ss).1, (playB (goB (stepB ts st) s) r ss).2)
  | ts, _, _ => ([], ts)
structure OkR (tracks : Nat) (row : List (List Pr)) : Prop where
  l : row.length ≤ 200
  s : ∀ st ∈ row, st.length ≤ 8 ∧ ∀ p ∈ st, OkP p tracks
theorem pressB_len (ts : List Tr) (p : Pr) : (pressB ts p).length = ts.length := by
  unfold pressB
  rw [List.length_set]
theorem stepB_len : ∀ (ps : List Pr) (ts : List Tr), (stepB ts ps).length = ts.length
  | [], ts => rfl
  | p :: r, ts => (stepB_len r (pressB ts p)).trans (pressB_len ts p)
theorem stepB_ok : ∀ {ps : List Pr} {ts : List Tr}, (∀ p ∈ ps, OkP p ts.length) → OkB ts → OkB (stepB ts ps)
  | [], ts, _, h => h
  | p :: r, ts, hp, h => stepB_ok (ps := r) (ts := pressB ts p) (fun q hq => by rw [pressB_len]; exact hp q (List.mem_cons_of_mem _ hq)) (pressB_ok (hp p List.mem_cons_self) h)
theorem stepB_bd {b : Nat} : ∀ {ps : List Pr} {ts : List Tr}, (∀ t ∈ ts, BdT t b) → ∀ t ∈ stepB ts ps, BdT t b
  | [], ts, h => h
  | p :: r, ts, h => stepB_bd (ps := r) (ts := pressB ts p) (fun t ht => by
    unfold pressB at ht
    rcases List.mem_or_eq_of_mem_set ht with q | q
    · exact h t q
    · rw [q]
      refine press_bd p ?_
      rw [List.getD_eq_getElem?_getD]
      cases e : ts[p.at]? with
      | none => exact BdT.e b
      | some u => exact h u (List.mem_of_getElem? e))
theorem goB_len (ts : List Tr) (s : Int) : (goB ts s).length = ts.length := by
  unfold goB
  rw [List.length_map]
theorem stepB_app (ps qs : List Pr) (ts : List Tr) : stepB ts (ps ++ qs) = stepB (stepB ts ps) qs := List.foldl_append
theorem playB_nil (ts : List Tr) (ss : List Int) : playB ts [] ss = ([], ts) := by cases ss <;> rfl
theorem playB_len : ∀ (row : List (List Pr)) (sound : List Int) (ts : List Tr), row.length = sound.length → (playB ts row sound).1.length = row.length ∧ (playB ts row sound).2.length = ts.length
  | [], ss, ts, _ => by rw [playB_nil]; exact ⟨rfl, rfl⟩
  | st :: r, [], ts, e => by simp at e
  | st :: r, s :: ss, ts, e => by
    obtain ⟨h1, h2⟩ := playB_len r ss (goB (stepB ts st) s) (by simpa using e)
    exact ⟨by show _ + 1 = _ + 1; rw [h1], by show (playB (goB (stepB ts st) s) r ss).2.length = _; rw [h2, goB_len, stepB_len]⟩
/-- one more step -/
theorem playB_snoc : ∀ (row : List (List Pr)) (sound : List Int) (ts : List Tr) (st : List Pr) (s : Int), row.length = sound.length →
    playB ts (row ++ [st]) (sound ++ [s]) = ((playB ts row sound).1 ++ [hearB (stepB (playB ts row sound).2 st)], goB (stepB (playB ts row sound).2 st) s)
  | [], [], ts, st, s, _ => by
    show (hearB (stepB ts st) :: (playB _ [] []).1, (playB _ [] []).2) = _
    rw [playB_nil]
    rfl
  | [], _ :: _, ts, st, s, e => by simp at e
  | _ :: _, [], ts, st, s, e => by simp at e
  | a :: r, x :: ss, ts, st, s, e => by
    have q := playB_snoc r ss (goB (stepB ts a) x) st s (by simpa using e)
    show (hearB (stepB ts a) :: (playB _ (r ++ [st]) (ss ++ [s])).1, (playB _ (r ++ [st]) (ss ++ [s])).2) = _
    rw [q]
    rfl
/-- a row in two parts -/
theorem playB_app : ∀ (r1 r2 : List (List Pr)) (s1 s2 : List Int) (ts : List Tr), r1.length = s1.length →
    playB ts (r1 ++ r2) (s1 ++ s2) = ((playB ts r1 s1).1 ++ (playB (playB ts r1 s1).2 r2 s2).1, (playB (playB ts r1 s1).2 r2 s2).2)
  | [], r2, [], s2, ts, _ => rfl
  | [], _, _ :: _, _, ts, e => by simp at e
  | _ :: _, _, [], _, ts, e => by simp at e
  | a :: r, r2, x :: ss, s2, ts, e => by
    have q := playB_app r r2 ss s2 (goB (stepB ts a) x) (by simpa using e)
    show (hearB (stepB ts a) :: (playB _ (r ++ r2) (ss ++ s2)).1, (playB _ (r ++ r2) (ss ++ s2)).2) = _
    rw [q]
    rfl
theorem playB_ok : ∀ (row : List (List Pr)) (sound : List Int) (ts : List Tr), (∀ st ∈ row, ∀ p ∈ st, OkP p ts.length) → OkB ts → OkB (playB ts row sound).2
  | [], ss, ts, _, h => by rw [playB_nil]; exact h
  | st :: r, [], ts, _, h => h
  | st :: r, s :: ss, ts, hp, h => by
    have l : (goB (stepB ts st) s).length = ts.length := by rw [goB_len, stepB_len]
    exact playB_ok r ss (goB (stepB ts st) s) (fun u hu p hq => by rw [l]; exact hp u (List.mem_cons_of_mem _ hu) p hq) (goB_ok s (stepB_ok (hp st List.mem_cons_self) h))
/-! ### bounds: a tick adds at most the sample to a column -/
theorem set_get (l : List Int) (c : Nat) (x : Int) (i : Nat) : (l.set c x).getD i 0 = if c = i ∧ c < l.length then x else l.getD i 0 := by
  rw [List.getD_eq_getElem?_getD, List.getD_eq_getElem?_getD, List.getElem?_set]
  by_cases e : c = i
  · subst e
    by_cases h : c < l.length
    · simp [h]
    · simp [h]
  · simp [e]
theorem add_at (l : List Int) (c : Nat) (s : Int) (i : Nat) : ((addAt l c s).getD i 0).natAbs ≤ (l.getD i 0).natAbs + s.natAbs := by
  unfold addAt
  rw [set_get]
  split
  · rename_i h
    rw [h.1]
    omega
  · omega
theorem app_get (l : List Int) (s : Int) (i : Nat) : ((l ++ [s]).getD i 0).natAbs ≤ (l.getD i 0).natAbs + s.natAbs := by
  rw [List.getD_eq_getElem?_getD, List.getD_eq_getElem?_getD]
  by_cases h : i < l.length
  · rw [List.getElem?_append_left h]
    omega
  · rw [List.getElem?_append_right (by omega)]
    cases e : ([s] : List Int)[i - l.length]? with
    | none => simp
    | some x =>
      have m := List.mem_of_getElem? e
      rw [List.mem_singleton.mp m]
      simp
theorem go_bd {t : Tr} {b : Nat} (ok : OkT t) (h : BdT t b) (s : Int) : BdT (goT t s) (b + s.natAbs) := by
  intro c
  have q := h c
  rw [colA_app] at q
  cases ok with
  | e => exact Nat.le_trans (h c) (by omega)
  | r l hl =>
    have q2 : (l.getD c 0).natAbs ≤ b := by
      have z : colA [l] c + colA ([] : List (List Int)) c ≤ b := q
      rw [colA_one] at z
      exact Nat.le_trans (Nat.le_add_right _ _) z
    have g : colA ((goT (Tr.rc l) s).lay ++ (goT (Tr.rc l) s).und) c = ((l ++ [s]).getD c 0).natAbs := by
      by_cases e : (l ++ [s]).length = 64
      · have g : goT (Tr.rc l) s = ⟨.play, [l ++ [s]], [], 0, 1, 2, 1, false⟩ := by
          show (if (l ++ [s]).length = 64 then _ else _) = _
          rw [if_pos e]
          rfl
        rw [g]
        exact colA_one _ _
      · have g : goT (Tr.rc l) s = Tr.rc (l ++ [s]) := by
          show (if (l ++ [s]).length = 64 then _ else _) = _
          rw [if_neg e]
          rfl
        rw [g]
        exact colA_one _ _
    rw [g]
    have := app_get l s c
    omega
  | h t n oh =>
    have ne := oh.ne
    have e := colA_last ne c
    obtain ⟨md, lay, und, pt, way, pace, sign, mu⟩ := t
    have hm := oh.md
    dsimp only at q e ne
    rw [colA_app]
    cases md with
    | empty => cases hm
    | record => cases hm
    | stop =>
      show colA lay c + colA und c ≤ _
      omega
    | play =>
      show colA lay c + colA und c ≤ _
      omega
    | dub =>
      show colA (dubL lay (pt.toNat / 2) s) c + colA und c ≤ _
      unfold dubL
      rw [colA_app, colA_one]
      have z := add_at (lay.getLastD []) (pt.toNat / 2) s c
      omega
theorem goB_bd {ts : List Tr} {b : Nat} (ok : ∀ t ∈ ts, OkT t) (h : ∀ t ∈ ts, BdT t b) (s : Int) : ∀ t ∈ goB ts s, BdT t (b + s.natAbs) := fun t ht => by
  unfold goB at ht
  obtain ⟨u, hu, rfl⟩ := List.mem_map.mp ht
  exact go_bd (ok u hu) (h u hu) s
theorem snd_le {t : Tr} {b : Nat} (h : BdT t b) : (sndT t).natAbs ≤ b := by
  unfold sndT
  split
  · have q := h (t.pt.toNat / 2)
    rw [colA_app] at q
    exact Nat.le_trans (colS_le _ _) (Nat.le_trans (Nat.le_add_right _ _) q)
  · exact Nat.zero_le _
theorem hear_le {b : Nat} : ∀ {ts : List Tr}, (∀ t ∈ ts, OkT t) → (∀ t ∈ ts, BdT t b) → (hearB ts).natAbs ≤ ts.length * b
  | [], _, _ => by simp [hearB]
  | t :: r, ok, h => by
    have q := hear_le (ts := r) (fun u hu => ok u (List.mem_cons_of_mem _ hu)) fun u hu => h u (List.mem_cons_of_mem _ hu)
    have s := snd_le (h t List.mem_cons_self)
    have g1 : -1 ≤ t.sign ∧ t.sign ≤ 1 := by
      cases ok t List.mem_cons_self with
      | e => exact ⟨by decide, by decide⟩
      | r c h => exact ⟨by show (-1 : Int) ≤ 1; decide, by show (1 : Int) ≤ 1; decide⟩
      | h t n h => rcases h.sg with e | e <;> rw [e] <;> decide
    have e : hearB (t :: r) = (if t.mu then 0 else t.sign * sndT t) + hearB r := by
      unfold hearB
      rw [List.map_cons, List.sum_cons]
    have z : (if t.mu then 0 else t.sign * sndT t).natAbs ≤ b := by
      split
      · exact Nat.zero_le _
      · rw [Int.natAbs_mul]
        have : t.sign.natAbs ≤ 1 := by omega
        exact Nat.le_trans (Nat.mul_le_mul this s) (by omega)
    rw [e, List.length_cons, Nat.succ_mul]
    omega
end My

namespace My
open PySem PySem.Spec PyProof.Rows L2
/-- x is not True -/
def rNotB : R2 := fun x y H Q => ∃ a b, x = .bl a ∧ y = .bl b ∧ Q (.bl (!decide (a = b))) H
theorem op_isNotB {X : Cx} : OpR X (compareOp .IsNot) rNotB := by
  intro pins s σ H x y v u Q I rx ry h
  obtain ⟨m, n, rfl, rfl, q⟩ := h
  cases (show v = Value.bool m from rx)
  cases (show u = Value.bool n from ry)
  by_cases e : m = n
  · subst e
    exact wpAny_isNot_self rfl ⟨.bl false, H, I, rfl, by simpa using q⟩
  · exact wpAny_isNot_other rfl (fun z => e (Value.bool.inj z)) ⟨.bl true, H, I, rfl, by simpa [e] using q⟩
mutual
theorem eqv_self : ∀ d : PyData, tupOnly d = true → PyData.eqv d d = true
  | .none, _ => rfl
  | .bool a, _ => by show (a == a) = true; simp
  | .int a, _ => by show (a == a) = true; simp
  | .str a, _ => by show (a == a) = true; simp
  | .tuple xs, h => by
    rw [PyData.eqv]
    exact eqv_selfs xs h
  | .list xs, h => by cases h
  | .dict xs, h => by cases h
theorem eqv_selfs : ∀ ds : List PyData, tupOnly.go ds = true → PyData.eqvAll ds ds = true
  | [], _ => by rw [PyData.eqvAll]
  | d :: r, h => by
    have h' := Bool.and_eq_true_iff.mp h
    rw [PyData.eqvAll, eqv_self d h'.1, eqv_selfs r h'.2]
    rfl
end
/-! ### pedals that nobody can tell apart -/
def flatT (t : Tr) : Prop := t.md.holds = true ∧ lenT t = 1
instance (t : Tr) : Decidable (flatT t) := inferInstanceAs (Decidable (_ ∧ _))
def plT (t : Tr) : Tr := if flatT t then { t with pt := 0, way := 1, pace := 2 } else t
def Tr.as (t : Tr) (a b c : Int) : Tr := { t with pt := a, way := b, pace := c }
theorem plT_as (t : Tr) (h : flatT t) (a b c : Int) : plT (t.as a b c) = plT t := by
  unfold plT
  rw [if_pos h, if_pos (show flatT (t.as a b c) from h)]
  rfl
theorem tw_cases {t u : Tr} (h : plT t = plT u) : t = u ∨ (flatT t ∧ ∃ a b c, u = t.as a b c) := by
  unfold plT at h
  by_cases h1 : flatT t
  · rw [if_pos h1] at h
    by_cases h2 : flatT u
    · rw [if_pos h2] at h
      refine .inr ⟨h1, u.pt, u.way, u.pace, ?_⟩
      obtain ⟨md, lay, und, pt, way, pace, sign, mu⟩ := t
      obtain ⟨md', lay', und', pt', way', pace', sign', mu'⟩ := u
      cases h
      rfl
    · rw [if_neg h2] at h
      refine absurd ?_ h2
      rw [← h]
      exact h1
  · rw [if_neg h1] at h
    by_cases h2 : flatT u
    · rw [if_pos h2] at h
      refine absurd ?_ h1
      rw [h]
      exact h2
    · rw [if_neg h2] at h
      exact .inl h
theorem flat_of {t u : Tr} (h : flatT t) (h1 : u.md.holds = true) (h2 : lenT u = lenT t) : flatT u := ⟨h1, h2.trans h.2⟩
theorem len_app {l m : List (List Int)} (h : l ≠ []) : ((l ++ m).headD []).length = (l.headD []).length := by
  cases l with
  | nil => exact absurd rfl h
  | cons a r => rfl
theorem len_drop {l : List (List Int)} (h : ¬ l.length < 2) : (l.dropLast.headD []).length = (l.headD []).length := by
  match l, h with
  | [], h => simp at h
  | [a], h => simp at h
  | a :: b :: r, _ => rfl
theorem tw_same {t' : Tr} (f : flatT t') (a b c : Int) : plT t' = plT (t'.as a b c) := (plT_as t' f a b c).symm
/-- a press keeps twins -/
theorem OkT.hdH {t : Tr} (h : OkT t) (e : t.md.holds = true) : ∃ n, OkH t n := by
  cases h with
  | e => cases e
  | r c h => cases e
  | h t n h => exact ⟨n, h⟩
theorem tw_press {t u : Tr} (p : Pr) (ok : OkT t) (h : plT t = plT u) : plT (pressT p t) = plT (pressT p u) := by
  rcases tw_cases h with e | ⟨f, a, b, c, e⟩
  · rw [e]
  obtain ⟨n, oh⟩ := ok.hdH f.1
  have hne := oh.ne
  have hl := oh.lay_ne
  obtain ⟨md, lay, und, pt, way, pace, sign, mu⟩ := t
  subst e
  have hm := f.1
  have f2 : (lay.headD []).length = 1 := f.2
  dsimp only at hm hne hl
  have nE : md ≠ .empty := fun z => by rw [z] at hm; cases hm
  cases p with
  | p k x =>
    show plT (if md.holds then _ else _) = plT (if md.holds then _ else _)
    rw [if_pos hm, if_pos hm]
    exact tw_same (t' := ⟨md, lay, und, pt, way, x, sign, mu⟩) ⟨hm, f2⟩ a b x
  | d w k =>
    cases w with
    | clear => rfl
    | turn =>
      show plT (if md.holds then _ else _) = plT (if md.holds then _ else _)
      rw [if_pos hm, if_pos hm]
      exact tw_same (t' := ⟨md, lay, und, pt, -way, pace, sign, mu⟩) ⟨hm, f2⟩ a (-b) c
    | flip =>
      show plT (if md.holds then _ else _) = plT (if md.holds then _ else _)
      rw [if_pos hm, if_pos hm]
      exact tw_same (t' := ⟨md, lay, und, pt, way, pace, -sign, mu⟩) ⟨hm, f2⟩ a b c
    | mute =>
      show plT (if md.holds then _ else _) = plT (if md.holds then _ else _)
      rw [if_pos hm, if_pos hm]
      exact tw_same (t' := ⟨md, lay, und, pt, way, pace, sign, !mu⟩) ⟨hm, f2⟩ a b c
    | stop =>
      have ng : ¬ (md = .empty ∨ lay = [[]]) := fun z => z.elim nE hl
      show plT (if md = .empty ∨ lay = [[]] then _ else _) = plT (if md = .empty ∨ lay = [[]] then _ else _)
      rw [if_neg ng, if_neg ng]
      exact tw_same (t' := ⟨.stop, lay, und, 0, way, pace, sign, mu⟩) ⟨rfl, f2⟩ 0 b c
    | undo =>
      show plT (if lay.length < 2 then _ else _) = plT (if lay.length < 2 then _ else _)
      by_cases q : lay.length < 2
      · rw [if_pos q, if_pos q]
        exact tw_same (t' := ⟨md, lay, und, pt, way, pace, sign, mu⟩) ⟨hm, f2⟩ a b c
      · rw [if_neg q, if_neg q]
        refine tw_same (t' := ⟨if md = .dub then .play else md, lay.dropLast, und ++ [lay.getLastD []], pt, way, pace, sign, mu⟩) ⟨?_, (len_drop q).trans f2⟩ a b c
        show (if md = .dub then Md.play else md).holds = true
        split
        · rfl
        · exact hm
    | redo =>
      show plT (if und = [] then _ else _) = plT (if und = [] then _ else _)
      by_cases q : und = []
      · rw [if_pos q, if_pos q]
        exact tw_same (t' := ⟨md, lay, und, pt, way, pace, sign, mu⟩) ⟨hm, f2⟩ a b c
      · rw [if_neg q, if_neg q]
        exact tw_same (t' := ⟨md, lay ++ [und.getLastD []], und.dropLast, pt, way, pace, sign, mu⟩) ⟨hm, (len_app hne).trans f2⟩ a b c
    | join =>
      show plT (if md = .dub ∨ lay.length < 2 then _ else _) = plT (if md = .dub ∨ lay.length < 2 then _ else _)
      by_cases q : md = .dub ∨ lay.length < 2
      · rw [if_pos q, if_pos q]
        exact tw_same (t' := ⟨md, lay, und, pt, way, pace, sign, mu⟩) ⟨hm, f2⟩ a b c
      · rw [if_neg q, if_neg q]
        refine tw_same (t' := ⟨md, [joinL lay], [], pt, way, pace, sign, mu⟩) ⟨hm, ?_⟩ a b c
        show (joinL lay).length = 1
        unfold joinL
        rw [List.length_map, List.length_range]
        exact f2
    | tap =>
      cases md with
      | empty => cases hm
      | record => cases hm
      | stop => exact tw_same (t' := ⟨.play, lay, und, pt, way, pace, sign, mu⟩) ⟨rfl, f2⟩ a b c
      | dub => exact tw_same (t' := ⟨.play, lay, und, pt, way, pace, sign, mu⟩) ⟨rfl, f2⟩ a b c
      | play =>
        show plT (if lay.length = 4 then _ else _) = plT (if lay.length = 4 then _ else _)
        by_cases q : lay.length = 4
        · rw [if_pos q, if_pos q]
          exact tw_same (t' := ⟨.play, lay, und, pt, way, pace, sign, mu⟩) ⟨hm, f2⟩ a b c
        · rw [if_neg q, if_neg q]
          exact tw_same (t' := ⟨.dub, lay ++ [List.replicate (lay.headD []).length 0], [], pt, way, pace, sign, mu⟩) ⟨rfl, (len_app hne).trans f2⟩ a b c
/-- the point of a track with one cell -/
theorem flat_pt {t : Tr} (ok : OkT t) (f : flatT t) : t.pt.toNat / 2 = 0 := by
  obtain ⟨n, oh⟩ := ok.hdH f.1
  have e := oh.len
  rw [f.2] at e
  subst e
  have := oh.p0
  have := oh.p1
  omega
theorem tw_snd {t u : Tr} (ok : OkT t) (ok2 : OkT u) (h : plT t = plT u) : (if t.mu then 0 else t.sign * sndT t) = if u.mu then 0 else u.sign * sndT u := by
  rcases tw_cases h with e | ⟨f, a, b, c, e⟩
  · rw [e]
  have e1 := flat_pt ok f
  have e2 := flat_pt ok2 (t := u) (by rw [e]; exact f)
  have es : sndT t = sndT u := by
    unfold sndT
    rw [e1, e2, e]
    rfl
  rw [es, e]
  rfl
theorem tw_go {t u : Tr} (s : Int) (ok : OkT t) (ok2 : OkT u) (h : plT t = plT u) : plT (goT t s) = plT (goT u s) := by
  rcases tw_cases h with e | ⟨f, a, b, c, e⟩
  · rw [e]
  have e1 := flat_pt ok f
  have e2 := flat_pt ok2 (t := u) (by rw [e]; exact f)
  obtain ⟨n, oh⟩ := ok.hdH f.1
  have hne := oh.ne
  have hdb := oh.db
  obtain ⟨md, lay, und, pt, way, pace, sign, mu⟩ := t
  subst e
  have hm := f.1
  have f2 : (lay.headD []).length = 1 := f.2
  dsimp only [Tr.as] at hm hne e1 e2 hdb
  cases md with
  | empty => cases hm
  | record => cases hm
  | stop => exact tw_same (t' := ⟨.stop, lay, und, pt, way, pace, sign, mu⟩) ⟨hm, f2⟩ a b c
  | play => exact tw_same (t' := ⟨.play, lay, und, wrapP ⟨.play, lay, und, pt, way, pace, sign, mu⟩, way, pace, sign, mu⟩) ⟨hm, f2⟩ (wrapP ⟨.play, lay, und, a, b, c, sign, mu⟩) b c
  | dub =>
    have g1 : goT ⟨.dub, lay, und, pt, way, pace, sign, mu⟩ s = ⟨.dub, dubL lay 0 s, und, wrapP ⟨.dub, lay, und, pt, way, pace, sign, mu⟩, way, pace, sign, mu⟩ := by
      show Tr.mk _ (dubL lay (pt.toNat / 2) s) _ _ _ _ _ _ = _
      rw [e1]
    have g2 : goT (Tr.as ⟨.dub, lay, und, pt, way, pace, sign, mu⟩ a b c) s = ⟨.dub, dubL lay 0 s, und, wrapP ⟨.dub, lay, und, a, b, c, sign, mu⟩, b, c, sign, mu⟩ := by
      show Tr.mk _ (dubL lay (a.toNat / 2) s) _ _ _ _ _ _ = _
      rw [e2]
      rfl
    rw [g1, g2]
    refine tw_same (t' := ⟨.dub, dubL lay 0 s, und, wrapP ⟨.dub, lay, und, pt, way, pace, sign, mu⟩, way, pace, sign, mu⟩) ⟨rfl, ?_⟩ (wrapP ⟨.dub, lay, und, a, b, c, sign, mu⟩) b c
    show ((dubL lay 0 s).headD []).length = 1
    have l2 := (hdb rfl).1
    unfold dubL
    have nd : lay.dropLast ≠ [] := fun z => by
      have q := congrArg List.length z
      rw [List.length_dropLast] at q
      simp at q
      omega
    rw [len_app nd, len_drop (by omega)]
    exact f2
/-! ### whole pedals -/
abbrev plB (ts : List Tr) : List Tr := ts.map plT
theorem twB_get {ts us : List Tr} (h : plB ts = plB us) (k : Nat) : plT (ts.getD k Tr.e) = plT (us.getD k Tr.e) := by
  have q := congrArg (fun l => l[k]?) h
  rw [List.getElem?_map, List.getElem?_map] at q
  rw [List.getD_eq_getElem?_getD, List.getD_eq_getElem?_getD]
  cases h1 : ts[k]? with
  | none =>
    cases h2 : us[k]? with
    | none => rfl
    | some u => rw [h1, h2] at q; cases q
  | some t =>
    cases h2 : us[k]? with
    | none => rw [h1, h2] at q; cases q
    | some u =>
      rw [h1, h2] at q
      exact Option.some.inj q
theorem getD_ok {ts : List Tr} (h : ∀ t ∈ ts, OkT t) (k : Nat) : OkT (ts.getD k Tr.e) := by
  rw [List.getD_eq_getElem?_getD]
  cases e : ts[k]? with
  | none => exact .e
  | some t => exact h t (List.mem_of_getElem? e)
theorem twB_press {ts us : List Tr} (p : Pr) (ok : ∀ t ∈ ts, OkT t) (h : plB ts = plB us) : plB (pressB ts p) = plB (pressB us p) := by
  unfold pressB plB
  rw [List.map_set, List.map_set, tw_press p (getD_ok ok p.at) (twB_get h p.at)]
  show (plB ts).set _ _ = (plB us).set _ _
  rw [h]
theorem twB_step : ∀ (ps : List Pr) {ts us : List Tr}, (∀ p ∈ ps, OkP p ts.length) → OkB ts → plB ts = plB us → plB (stepB ts ps) = plB (stepB us ps)
  | [], ts, us, _, _, h => h
  | p :: r, ts, us, hp, ok, h => twB_step r (ts := pressB ts p) (us := pressB us p) (fun q hq => by rw [pressB_len]; exact hp q (List.mem_cons_of_mem _ hq)) (pressB_ok (hp p List.mem_cons_self) ok) (twB_press p ok.2.2 h)
theorem twB_hear : ∀ {ts us : List Tr}, (∀ t ∈ ts, OkT t) → (∀ t ∈ us, OkT t) → plB ts = plB us → hearB ts = hearB us
  | [], [], _, _, _ => rfl
  | [], _ :: _, _, _, h => by cases h
  | _ :: _, [], _, _, h => by cases h
  | t :: r, u :: q, h1, h2, h => by
    have h' := List.cons.inj h
    have e := twB_hear (fun x hx => h1 x (List.mem_cons_of_mem _ hx)) (fun x hx => h2 x (List.mem_cons_of_mem _ hx)) h'.2
    unfold hearB at e ⊢
    rw [List.map_cons, List.map_cons, List.sum_cons, List.sum_cons, e, tw_snd (h1 t List.mem_cons_self) (h2 u List.mem_cons_self) h'.1]
theorem twB_go (s : Int) : ∀ {ts us : List Tr}, (∀ t ∈ ts, OkT t) → (∀ t ∈ us, OkT t) → plB ts = plB us → plB (goB ts s) = plB (goB us s)
  | [], [], _, _, _ => rfl
  | [], _ :: _, _, _, h => by cases h
  | _ :: _, [], _, _, h => by cases h
  | t :: r, u :: q, h1, h2, h => by
    have h' := List.cons.inj h
    have e := twB_go s (fun x hx => h1 x (List.mem_cons_of_mem _ hx)) (fun x hx => h2 x (List.mem_cons_of_mem _ hx)) h'.2
    show plT (goT t s) :: plB (goB r s) = plT (goT u s) :: plB (goB q s)
    rw [e, tw_go s (h1 t List.mem_cons_self) (h2 u List.mem_cons_self) h'.1]
/-- twins are heard alike, and are twins behind it -/
theorem twB_play : ∀ (row : List (List Pr)) (ss : List Int) (ts us : List Tr), (∀ st ∈ row, ∀ p ∈ st, OkP p ts.length) → OkB ts → OkB us → plB ts = plB us →
    (playB ts row ss).1 = (playB us row ss).1 ∧ plB (playB ts row ss).2 = plB (playB us row ss).2
  | [], ss, ts, us, _, _, _, h => by rw [playB_nil, playB_nil]; exact ⟨rfl, h⟩
  | st :: r, [], ts, us, _, _, _, h => ⟨rfl, h⟩
  | st :: r, s :: ss, ts, us, hp, ok, ok2, h => by
    have le : ts.length = us.length := by
      have q := congrArg List.length h
      rwa [List.length_map, List.length_map] at q
    have o1 := stepB_ok (hp st List.mem_cons_self) ok
    have o2 := stepB_ok (ts := us) (fun p hq => le ▸ hp st List.mem_cons_self p hq) ok2
    have e1 := twB_step st (hp st List.mem_cons_self) ok h
    have l : (goB (stepB ts st) s).length = ts.length := by rw [goB_len, stepB_len]
    obtain ⟨q1, q2⟩ := twB_play r ss (goB (stepB ts st) s) (goB (stepB us st) s) (fun v hv p hq => by rw [l]; exact hp v (List.mem_cons_of_mem _ hv) p hq) (goB_ok s o1) (goB_ok s o2) (twB_go s o1.2.2 o2.2.2 e1)
    refine ⟨?_, q2⟩
    show hearB (stepB ts st) :: (playB _ r ss).1 = hearB (stepB us st) :: (playB _ r ss).1
    rw [q1, twB_hear o1.2.2 o2.2.2 e1]
end My

namespace L2
open PySem PySem.Spec PyProof.Rows
section
variable {M : Model} {A : Around} {E : Value → Shared → Prop} {s : Shared}
/-- a loop of the model's own in which each turn hands on what it got -/
theorem loop_all {α β : Type} {f : α → β → Sem (ForInStep β)} {u : β} {Q : β → Shared → Prop} : ∀ (l : List α), (∀ c ∈ l, ∀ R : ForInStep β → Shared → Prop, R (.yield u) s → wpAny M A (f c u) R E s) → Q u s → wpAny M A (forIn l u f) Q E s
  | [], _, q => by
    rw [List.forIn_nil]
    exact wpAny_pure q
  | c :: r, h, q => by
    rw [List.forIn_cons]
    exact wpAny_bind (h c List.mem_cons_self _ (loop_all r (fun d hd => h d (List.mem_cons_of_mem _ hd)) q))
/-- one that ends at the first hit -/
theorem loop_hit {α β : Type} {f : α → β → Sem (ForInStep β)} {g : α → Bool} {u v : β} {Q : β → Shared → Prop} : ∀ (l : List α), (∀ c ∈ l, ∀ R : ForInStep β → Shared → Prop, R (bif g c then .done v else .yield u) s → wpAny M A (f c u) R E s) →
    Q (bif l.any g then v else u) s → wpAny M A (forIn l u f) Q E s
  | [], _, q => by
    rw [List.forIn_nil]
    exact wpAny_pure q
  | c :: r, h, q => by
    rw [List.forIn_cons]
    refine wpAny_bind (h c List.mem_cons_self _ ?_)
    rw [List.any_cons] at q
    cases e : g c with
    | true =>
      rw [e] at q
      exact wpAny_pure q
    | false =>
      rw [e] at q
      exact loop_hit r (fun d hd => h d (List.mem_cons_of_mem _ hd)) q
end
theorem exm_of {K : PySem.W.Frag} {cls : Value} : ∀ (cs : List Value) (b : Bool), PySem.W.exmAny K cls cs = some b → (∀ c ∈ cs, ∃ d, PySem.W.exmOne K cls c = some d) ∧ b = cs.any fun c => (PySem.W.exmOne K cls c).getD false
  | [], b, h => ⟨fun c hc => (by cases hc), (by cases h; rfl)⟩
  | c :: r, b, h => by
    obtain ⟨b1, d1, h1, h2, e⟩ := PySem.W.exmAny_cons h
    obtain ⟨q1, q2⟩ := exm_of r d1 h2
    refine ⟨fun x hx => ?_, ?_⟩
    · rcases List.mem_cons.mp hx with rfl | hx
      · exact ⟨_, h1⟩
      · exact q1 x hx
    · rw [List.any_cons, h1, e, q2]
      rfl
theorem exm_list {M : Model} {K : PySem.W.Frag} {cls : Value} {tp e : Addr} {b : Bool} {h : Heap} {cs : List Value} (kin : K.In h) (tyE : PySem.W.Looks M h (typeOf (.ref e)) cls)
    (at_ : h.get? tp = some { cls := .type "tuple", data := .seq cs.toArray }) (q : PySem.W.exmAny K cls cs = some b) : PySem.W.Looks M h (excMatches (.ref e) (.ref tp)) b := by
  obtain ⟨all, rfl⟩ := exm_of cs b q
  have isT : PySem.W.Looks M h (isInstance (.ref tp) (.type "tuple")) true := ((PySem.W.Looks.ld at_).andThen .now).andThen (.of_pure isSubtype_tuple_tuple)
  intro A Q E s k fin
  unfold excMatches
  refine wpAny_bind ((isT.keeps k).here ?_)
  rw [if_pos rfl]
  refine wpAny_bind (wpAny_seqItems (k _ _ at_) rfl ?_)
  refine wpAny_bind (wpAny_pure ?_)
  show wpAny M A ((forIn cs PUnit.unit _ : Sem PUnit) >>= _) Q E s
  refine wpAny_bind (loop_all cs (fun c hc R r => ?_) ?_)
  · obtain ⟨d, hd⟩ := all c hc
    obtain ⟨e1, _⟩ := PySem.W.exm_cls (M := M) kin hd
    refine wpAny_bind ((e1.keeps k).here ?_)
    rw [if_neg (by decide)]
    exact wpAny_pure r
  refine wpAny_bind ((tyE.keeps k).here ?_)
  refine wpAny_bind (loop_hit (g := fun c => (PySem.W.exmOne K cls c).getD false) (v := (some true, ())) cs (fun c hc R r => ?_) ?_)
  · obtain ⟨d, hd⟩ := all c hc
    obtain ⟨_, e2⟩ := PySem.W.exm_cls (M := M) kin hd
    rw [hd] at r
    refine wpAny_bind ((e2.keeps k).here ?_)
    cases d with
    | true => exact wpAny_pure r
    | false => exact wpAny_pure r
  · cases e : cs.any fun c => (PySem.W.exmOne K cls c).getD false with
    | true =>
      rw [e] at fin
      exact wpAny_pure fin
    | false =>
      rw [e] at fin
      exact wpAny_pure fin
/-! ### an exception that is kept behind its clause -/
/-- the exception at a: its class, its dict -/
def exI (a : Addr) (cls : Value) (d : Option Addr) : HO := .ext fun h => ∃ (oe : Obj) (vs : Array Value), h.get? a = some oe ∧ oe.cls = cls ∧ oe.dict = d ∧ oe.data = .fields vs
theorem exI_ok {P : Program} {w : World} {H : Hp} {h : Heap} {a : Addr} {cls : Value} {d : Option Addr} {oe : Obj} (at_ : h.get? a = some oe) (z : Zc cls d oe) (f : ∃ vs, oe.data = .fields vs) : ObjOk P w H h a (exI a cls d) := by
  obtain ⟨vs, f⟩ := f
  refine ⟨⟨oe, vs, at_, z.1, z.2, f⟩, ⟨oe, at_⟩, fun h1 h2 q k => ?_⟩
  obtain ⟨o1, ws, e1, e2, e3, e4⟩ := q
  exact ⟨o1, ws, k _ e1, e2, e3, e4⟩
section
variable {X : Cx} {pins : List (Addr × Obj)} {σ : St} {H : Hp} {s : Shared}
/-- an object that is not tracked is tracked from now on -/
theorem Inv.track {a : Addr} {o : HO} (I : Inv X pins σ H s) (na : H a = none) (ok : ObjOk X.prog X.w (upd H a o) s.heap a o) (young : ∀ u, X.s_0.heap.get? a = some u → X.H_0 a = none → a ∈ X.ex)
    (nL : X.env.locals ≠ a) (nC : ∀ x c, X.env.cells.lookup x = some c → c ≠ a) (nP : ∀ p ∈ X.pn ++ pins, p.1 ≠ a) : Inv X pins σ (upd H a o) s where
  ok := I.ok
  os := I.os
  bare := I.bare
  base := by
    have stays : ∀ b u, H b = some u → upd H a o b = some u := fun b u e => by
      rw [upd_ne (ne_of_none e na)]
      exact e
    refine ⟨I.base.keep, I.base.slot, fun b u e n nx => ?_, I.base.there, fun b xs e => stays b _ (I.base.tups b xs e), fun b u v e => stays b _ (I.base.frzs b u v e), fun b ps e => ?_⟩
    · by_cases hb : b = a
      · subst hb
        exact absurd (young u e n) nx
      · rw [upd_ne hb]
        exact I.base.free b u e n nx
    · obtain ⟨more, q⟩ := I.base.tbls b ps e
      exact ⟨more, stays b _ q⟩
  loc := I.loc
  cell := I.cell
  free := by
    rw [upd_ne nL]
    exact I.free
  freeC := fun x c e => by
    rw [upd_ne (nC x c e)]
    exact I.freeC x c e
  pin := fun p hp => by
    obtain ⟨p1, p2, p3⟩ := I.pin p hp
    refine ⟨p1, ?_, p3⟩
    rw [upd_ne (nP p hp)]
    exact p2
  hok := fun b u e => by
    by_cases hb : b = a
    · subst hb
      rw [upd_same] at e
      cases e
      exact ok
    · rw [upd_ne hb] at e
      have stays : ∀ c v, H c = some v → upd H a o c = some v := fun c v q => by
        rw [upd_ne (ne_of_none q na)]
        exact q
      exact (I.hok b u e).stay (fun _ _ _ q => q) (fun c q => stays c _ q) fun c xs q => stays c _ q
  len := I.len
end
theorem flying_up {B h h' : Heap} {l : List Env} {a : Addr} {Z : Obj → Prop} (fl : HandSPX.FlyingZ B l a Z h) (k : ∀ b o, h.get? b = some o → h'.get? b = some o) : HandSPX.FlyingZ B l a Z h' := by
  obtain ⟨f1, f2, f3, oe, vs, T, oT, ts, e1, e2, e3, e4, e5, e6, e7, e8⟩ := fl
  exact ⟨fun b o e => k _ _ (f1 b o e), f2, Heap.FunFrames.of_keeps (fun b o e _ => ⟨o, k b o e, rfl⟩) f3, oe, vs, T, oT, ts, k _ _ e1, e2, e3, e4, e5, e6, k _ _ e7, e8⟩
section
variable {X : Cx} {Wo : WX} {pins : List (Addr × Obj)} {a : Addr} {cls : Value} {d : Option Addr} {σ : St} {H : Hp} {s : Shared} {D : Ends}
theorem Caught.more (c : Caught X Wo pins a cls d σ H s) {h' : Heap} (k : ∀ b o, s.heap.get? b = some o → h'.get? b = some o) : Caught X Wo pins a cls d σ H { s with heap := h' } := by
  obtain ⟨B, fl, q1, q2, r⟩ := c
  have up : s.heap.UpToSlots h' := Heap.UpToSlots.of_keeps k
  exact ⟨B, flying_up fl k, fun h f u => q1 h f (up.trans u), fun h f u w => q2 h f (up.trans u) w, r⟩
inductive NamesL (X : Cx) : List Expr → List Value → Prop
  | nil : NamesL X [] []
  | cons {x : Str} {c : Value} {np : Pos} {es : List Expr} {cs : List Value} (h : Names X x c) (r : NamesL X es cs) : NamesL X (.Name x np :: es) (c :: cs)
/-- the names of a clause's tuple -/
theorem NamesL.run {pos : Pos} {E : Value → Shared → Prop} {Q : List Value → Shared → Prop} {oe : Obj} {pn : List (Addr × Obj)} (S : Inv (X.suite a ((a, oe) :: pn)) [] σ H s) : ∀ {es : List Expr} {cs : List Value}, NamesL X es cs → Q cs s →
    wpAny (model X.prog X.w) (X.A.mark (some (.ref a))) (spliced (backTo pos (starEach es X.env))) Q E s := by
  intro es cs n
  induction n generalizing Q with
  | nil => exact fun q => Calls.spliced_nil q
  | @cons x c np es cs hx _ ih =>
    intro q
    show wpAny _ _ (spliced ((false, eval (.Name x np) X.env) :: backTo pos (starEach es X.env))) _ _ s
    refine Calls.spliced_cons ?_
    have step : wpAny (model X.prog X.w) (X.A.mark (some (.ref a))) (spliced (backTo pos (starEach es X.env))) (fun vs s₂ => Q (c :: vs) s₂) E s := ih q
    obtain ⟨hg, hdb, hm | ⟨hm, hv, hn⟩⟩ := hx
    · exact ld_glob (X := X.suite a ((a, oe) :: pn)) S hg hm step hdb
    · exact ld_blt (X := X.suite a ((a, oe) :: pn)) S hg hm hv step hn hdb
/-- what a suite with a name is to reach: the name goes, the exception is told of -/
def keE (D : Ends) (i : Nat) (a : Addr) (cls : Value) (d : Option Addr) : Ends where
  nx := fun σ H => H a = none → D.nx (σ.set i none) (upd H a (exI a cls d))
  rt := fun _ _ => False
def wAsT (K : PySem.W.Frag) (cs : List Value) (i n : Nat) (ts : Addr → Value → Option Addr → TS) (Wo : WX) (D : Ends) : WX := fun cls d σ H =>
  ∃ b, PySem.W.exmAny K cls cs = some b ∧ (b = true → ∀ a, H a = none → σ.length = n → ts a cls d (keE D i a cls d) (σ.set i (some (.ref a))) H) ∧ (b = false → Wo cls d σ H)
/-- try: body; except (A, B, ..) as n: suite; the exception may be kept -/
theorem ps_try_asT {es : List Expr} {cs : List Value} {n : Str} {i j : Nat} {body su : List Stmt} {b1 : Stmt} {np pos p1 : Pos} {tb : WX → TS} {t1 : Addr → Value → Option Addr → TS} (hs : X.stack = X.env :: X.outer) (hf : X.env.frame = some X.env.locals)
    (hN : X.N.Nodup) (hi : X.N[i]? = some n) (hln : X.env.kindOf n = some .local) (ns : NamesL X es cs) (hz : cs.length ≤ sizeLine) (tk : Takes X Wo)
    (hb : ∀ (W : WX) (pn : List (Addr × Obj)) (xe : Value → Shared → Prop), Takes (X.tr pn xe) W → PassesOwn (model X.prog X.w) X.A X.env xe → PSs (X.tr pn xe) body (tb W))
    (h1 : ∀ (a : Addr) (oe : Obj) (cls : Value) (d : Option Addr) (pn : List (Addr × Obj)), Zc cls d oe → (∃ vs, oe.data = .fields vs) → PSs (X.suite a ((a, oe) :: pn)) (b1 :: su) (t1 a cls d)) :
    PS X (.Try body [.ExceptHandler (some (.Tuple es j np)) (some n) (b1 :: su) p1] [] [] pos) (fun D σ H => tb (wAsT X.K cs i X.N.length t1 Wo D) D σ H) := by
  refine ⟨fun pins s σ H D I h => ?_⟩
  have ok := I.ok
  have hfr : X.A.frames = some (X.env :: X.outer) := by rw [ok.frames, hs]
  refine wpAny_Try_except (wpAny_mono ((hb (wAsT X.K cs i X.N.length t1 Wo D) (X.pn ++ pins) _ (fun u t xx => ?_) PassesOwn.looking).run [] s σ H D (I.toTry _) h) (fun f t g => ?_) (fun e t he => he))
  · obtain ⟨a, B, sI, pins', σ', H', cls, d, rfl, J', nb, up, sky, na, os, ag, b, hb1, yes, no⟩ := xx
    have J : Inv X pins σ' H' sI := J'.ofTry ok
    have sky' : Sky B (X.env :: X.outer) a (Zc cls d) X.env.locals t.heap := by rw [← hs]; exact sky
    change wpAny (model X.prog X.w) X.A (noteFrame (.ref a) X.env) _ _ _
    refine Sky.land Zc.steady hfr hf sky' fun h3 fl up3 => ?_
    have away : a ∉ frs (X.env :: X.outer) := fun hm => by
      obtain ⟨oe, vs, he, _, hd⟩ := fl.there
      obtain ⟨_, o', e', hnf⟩ := fl.2.2.1.mem hm
      rw [he] at e'
      cases e'
      exact hnf _ hd
    have ground : ∀ o, sI.heap.get? a = some o → False := fun o e => by
      have q := nb a o e (by rw [hs]; exact away)
      rw [fl.2.1] at q
      cases q
    have notL : a ≠ X.env.locals := fun z => away (List.mem_filterMap.mpr ⟨X.env, List.mem_cons_self, by rw [hf, z]⟩)
    have notF : a ∉ X.fs := fun hm => by
      obtain ⟨e, he, q⟩ := List.mem_filterMap.mp hm
      exact away (List.mem_filterMap.mpr ⟨e, List.mem_cons_of_mem _ he, q⟩)
    have C0 : Caught X Wo pins a cls d σ' H' { t with heap := h3 } := by
      refine ⟨B, fl, fun h4 fl4 up4 => J.landed nb fl4.1 ((up.trans up3).trans up4) os ag, fun h4 hh4 up4 w => tk _ _ ?_, na, notL, notF⟩
      exact ⟨a, B, sI, pins, σ', H', cls, d, rfl, J, nb, (up.trans up3).trans up4, .inr (.inr (by rw [hs]; exact hh4)), na, os, ag, w⟩
    have young : ∀ u, X.s_0.heap.get? a = some u → X.H_0 a = none → a ∈ X.ex := fun u e n0 => by
      refine Classical.byContradiction fun nx => ?_
      obtain ⟨o', e'⟩ := J.base.there a u e nx
      exact ground _ e'
    have nP : ∀ p ∈ X.pn ++ pins, p.1 ≠ a := fun p hp z => by
      obtain ⟨q, _⟩ := J.pin p hp
      rw [z] at q
      exact ground _ q
    -- the test: the tuple is made
    obtain ⟨oe, vs, he, hzc, hd⟩ := fl.there
    have S0 := C0.inv.suite he hd na notL notF
    refine wpAny_handleBy_cons (codeAny_handlers_test ?_) fun z => nomatch z
    refine wpAny_Tuple_spliced (ns.run S0 ⟨hz, ?_⟩)
    have C := C0.more (h' := h3.push { cls := .type "tuple", data := .seq cs.toArray }) fun b o e => Heap.get?_push_of_some _ e
    have he' : (h3.push ({ cls := .type "tuple", data := .seq cs.toArray } : Obj)).get? a = some oe := Heap.get?_push_of_some _ he
    have looks : PySem.W.Looks (model X.prog X.w) (h3.push ({ cls := .type "tuple", data := .seq cs.toArray } : Obj)) (typeOf (.ref a)) cls := fun A Q E t keep q => wpAny_typeOf_ref (keep _ _ he') (by rw [hzc.1]; exact q)
    refine (exm_list (M := model X.prog X.w) C.inv.kIn looks (Heap.get?_push_size _ rfl) hb1).here ?_
    cases b with
    | false => exact C.on hf (no rfl)
    | true =>
      obtain ⟨B2, fl2, kk, _⟩ := C
      refine codeAny_handlers_suite_as (HandSPX.lands_againZ fl2 fun h5 fl5 up5 => ?_)
      obtain ⟨oe5, vs5, he5, hz5, hd5⟩ := fl5.there
      have S5 := (kk h5 fl5 up5).suite he5 hd5 na notL notF
      refine store_ok (X := X.suite a ((a, oe5) :: (X.pn ++ pins))) (v := .ref a) S5 hN hi (.inl hln) rfl (fun t6 S6 => ?_) (.inr hln)
      refine wpAny_mono ((h1 a oe5 cls d (X.pn ++ pins) hz5 ⟨_, hd5⟩).run [] t6 _ H' _ S6 (yes rfl a na J.len)) (fun f t7 g => ?_) (fun _ _ z => False.elim z)
      cases f with
      | next =>
        obtain ⟨σ7, H7, S7, q⟩ := g
        obtain ⟨a1, a2, _⟩ := S7.pin (a, oe5) (List.mem_append_left _ List.mem_cons_self)
        have nC : ∀ x c, X.env.cells.lookup x = some c → c ≠ a := fun x c e z => by
          obtain ⟨v, o, ho, hv⟩ := S7.cell x c e
          rw [z] at ho
          rw [a1] at ho
          cases ho
          rw [hd5] at hv
          cases hv
        have T7 := (S7.unsuite ok).track a2 (exI_ok a1 hz5 ⟨_, hd5⟩) young (fun z => notL z.symm) nC nP
        exact gone_ok T7 hN hi hln fun t8 S8 => ⟨_, _, S8, q a2⟩
      | brk =>
        obtain ⟨_, _, _, q⟩ := g
        exact False.elim q
      | cont =>
        obtain ⟨_, _, _, q⟩ := g
        exact False.elim q
      | ret u =>
        obtain ⟨_, _, _, _, _, q⟩ := g
        exact False.elim q
  · cases f
    · obtain ⟨σ', H', J', q⟩ := g
      exact wpAny_execs_nil ⟨σ', H', J'.ofTry ok, q⟩
    · obtain ⟨σ', H', J', q⟩ := g
      exact ⟨σ', H', J'.ofTry ok, q⟩
    · obtain ⟨σ', H', J', q⟩ := g
      exact ⟨σ', H', J'.ofTry ok, q⟩
    · obtain ⟨v, σ', H', J', r, q⟩ := g
      exact ⟨v, σ', H', J'.ofTry ok, r, q⟩
end
end L2

namespace PySem.W
open PySem PySem.Spec PySem.Calls PyProof.Rows
/-- what an exception of an own class answers when it is asked for its class, with a dict or without -/
theorem exc_class {prog : Program} {w : World} {A : Around} {E : Value → Shared → Prop} {s : Shared} {K : Frag} {x D : Addr} {ox : Obj} {od : Option Obj} {Q : Option Value → Shared → Prop} (C : L2.ExcC K D) (kin : K.In s.heap) (J : InstAt s.heap x ox D od)
    (q : Q (some (.ref D)) { s with toks := s.toks + 1 }) : wpAny (model prog w) A (getAttr? (.ref x) "__class__") Q E s := by
  have found : findObj K D od "__class__" = some (.bind (.builtin "getset_descriptor.__get__") (.builtin "object.__class__")) := by
    obtain ⟨cd, hc, _⟩ := any_some C.hd
    unfold findObj
    rw [hc, Option.bind_some, C.ha, Option.bind_some]
    simp [C.hn, C.ht]
  obtain ⟨hp, gs, dr, tk, os⟩ := s
  have lt := J.type (M := model prog w)
  have sub : Looks (model prog w) hp (isInstance (.ref x) (.type "BaseException")) true := lt.andThen (looks_subIn kin C.hs)
  have other : (Value.builtin "BaseException.__getattribute__" == Value.builtin "object.__getattribute__") = false := by decide +kernel
  have other2 : (onTheHeap (Value.ref D) && Value.builtin "BaseException.__getattribute__" == Value.builtin "object.__getattribute__") = false := by
    rw [other]
    rfl
  unfold getAttr? getAttrBy? getAttrBy
  refine wpAny_bind (wpAny_mkText (wpAny_bind (wpAny_attempt (wpAny_holding (wpAny_bind (lt.at (wpAny_bind ((looks_findIn (M := model prog w) kin C.hg).at ?_))))))))
  show wpAny _ _ (if (onTheHeap (Value.ref D) && Value.builtin "BaseException.__getattribute__" == Value.builtin "object.__getattribute__") = true then _ else _) _ _ _
  rw [other2, if_neg Bool.false_ne_true]
  unfold getAttrByItsOwn hookBefore
  refine wpAny_bind ?_
  rw [if_pos (show onTheHeap (Value.ref D) = true from rfl)]
  refine (looks_findIn (M := model prog w) kin C.hk).at (wpAny_bind (wpAny_attempt (wpAny_holding ?_)))
  unfold callGetattribute
  rw [show (false && onTheHeap (Value.builtin "BaseException.__getattribute__")) = false from rfl, if_neg Bool.false_ne_true]
  unfold boundAndCalled
  rw [PySem.F.excAttr_ValueError.ga.bind (.ref x)]
  refine wpAny_bind (wpAny_pure ?_)
  show wpAny _ _ (call (.builtin "BaseException.__getattribute__") [.ref x, .str "__class__" tk]) _ _ _
  refine wpAny_call (codeAny_call_builtin PySem.F.excAttr_ValueError.ga.plain PySem.F.entry_bexc_ga (@check_slot (model prog w) _ _ ⟨hp, gs, dr, tk + 1, os⟩ "BaseException.__getattribute__" "BaseException" "__getattribute__" (.ref x) [.str "__class__" tk] [] _ (by decide +kernel) (by decide +kernel) sub
    (PySem.F.args_bexc_ga (.ref x) (.str "__class__" tk)) ?_))
  unfold Builtin.«object.__getattribute__»
  refine wpAny_bind (wpAny_of_eq (a := ((Value.ref x : Value), [Value.str "__class__" tk])) (by first | rfl | (simp only [slotArgs]; rfl)) (wpAny_bind (wpAny_pure (wpAny_bind (lt.at (wpAny_bind ((looks_find (M := model prog w) kin J found).at ?_)))))))
  show wpAny _ _ (holding [Value.builtin "object.__class__"] (call (.builtin "getset_descriptor.__get__") [.builtin "object.__class__", .ref x, .ref D]) >>= ret) _ _ _
  refine wpAny_bind (wpAny_holding (wpAny_call (class_get (s := ⟨hp, gs, dr, tk + 1, os⟩) (ox := ox) (od := od) kin J C.hm (wpAny_pure ?_))))
  show wpAny _ _ (handedOut (.ref D)) _ _ _
  rw [handedOut_of (v := .ref D) rfl]
  first
    | exact wpAny_pure (wpAny_pure q)
    | exact wpAny_pure q
    | exact wpAny_pure (wpAny_bind (wpAny_pure (wpAny_pure q)))
end PySem.W
namespace L2
open PySem PySem.Spec PyProof.Rows LamX
section
variable {K : PySem.W.Frag} {D C : Addr}
theorem kit_me : PySem.W.kitOne K (.ref D) (.ref D) = some true := by
  unfold PySem.W.kitOne
  rw [if_pos (beq_self_eq_true _)]
theorem kit_apart (te : PySem.W.exmOne K (.ref D) (.ref D) = some true) (y : PySem.W.exmOne K (.ref D) (.ref C) = some false) : PySem.W.kitOne K (.ref D) (.ref C) = some false := by
  have ne : ¬ ((Value.ref D == Value.ref C) = true) := fun z => by
    have e : D = C := Value.ref.inj (beq_iff_eq.mp z)
    rw [← e, te] at y
    cases y
  unfold PySem.W.kitOne
  rw [if_neg ne]
  unfold PySem.W.exmOne at y
  split at y
  · exact y
  · cases y
end
/-- the exception of H at a and its object -/
theorem exI_at {X : Cx} {pins : List (Addr × Obj)} {σ : St} {H : Hp} {s : Shared} {a D : Addr} {d : Option Addr} (I : Inv X pins σ H s) (h : H a = some (exI a (.ref D) d)) (hd : d = none ∨ ∃ dx fs, d = some dx ∧ H dx = some (.xd fs)) :
    ∃ ox od, PySem.W.InstAt s.heap a ox D od ∧ (d = none → od = none) ∧ ∀ dx, d = some dx → ∃ o, od = some o ∧ s.heap.get? dx = some o := by
  have z := I.hok a _ h
  obtain ⟨⟨oe, vs, e1, e2, e3, e4⟩, _⟩ := z
  have no : PySem.W.notCls oe = true := by
    unfold PySem.W.notCls
    rw [e4]
  rcases hd with rfl | ⟨dx, fs, rfl, hx⟩
  · exact ⟨oe, none, ⟨e1, e2, no, (by rw [e3]; trivial)⟩, fun _ => rfl, fun dx q => (by cases q)⟩
  · have x := I.hok dx _ hx
    obtain ⟨mA, hns, _⟩ := x
    obtain ⟨od, _, _, ho, _⟩ := id hns
    exact ⟨oe, some od, ⟨e1, e2, no, (by rw [e3]; exact ho)⟩, fun q => (by cases q), fun d2 q => (by cases q; exact ⟨od, rfl, ho⟩)⟩
/-- isinstance(e, c), e an exception that is kept -/
def rIsX (K : PySem.W.Frag) : List V → Hp → VK → Prop := fun xs H Q => ∃ (a D : Addr) (d : Option Addr) (C : Addr) (b : Bool), xs = [.ref a, .ref C] ∧ H a = some (exI a (.ref D) d) ∧ (d = none ∨ ∃ dx fs, d = some dx ∧ H dx = some (.xd fs)) ∧ ExcC K D ∧
  PySem.W.kitOne K (.ref D) (.ref C) = some b ∧ Q (.bl b) H
theorem k_isX {X : Cx} {K : PySem.W.Frag} (e : X.K = K := by rfl) : CallR X (.builtin "isinstance") (rIsX K) := by
  subst e
  intro pins s σ H xs us Q I r h
  obtain ⟨a, D, d, C, b, rfl, ha, hd, EC, kit, q⟩ := h
  cases r with
  | cons r1 rr =>
  cases rr with
  | cons r2 rr =>
  cases rr
  cases r1
  cases r2
  obtain ⟨ox, od, J, _⟩ := exI_at I ha hd
  have look : PySem.W.KitX X.K (.ref a) (.ref D) (fun h => PySem.W.InstAt h a ox D od) := by
    obtain ⟨cd, hcd, _⟩ := PySem.W.any_some EC.hd
    have at_ : ∃ c1 d1 cd1 sl1, X.K.lookup D = some ⟨c1, d1, .cls cd1, sl1⟩ := by
      unfold PySem.W.clsIn at hcd
      split at hcd
      · rename_i c1 d1 cd1 sl1 ho
        exact ⟨_, _, _, _, ho⟩
      · cases hcd
    obtain ⟨c1, d1, cd1, sl1, lk⟩ := at_
    refine ⟨fun _ _ _ J => J.type, fun M h kin _ => fun A' Q' E' s' k q => ?_, fun h tp dd its n sl kin htp => Bool.eq_false_iff.mpr fun z => ?_, fun kin J q => PySem.W.exc_class EC kin J q⟩
    · unfold isType loadHead
      exact wpAny_bind (wpAny_loadPart (k _ _ (kin _ _ lk)) (wpAny_pure q))
    · have z2 : D = tp := Value.ref.inj (beq_iff_eq.mp z)
      rw [← z2, kin _ _ lk] at htp
      cases htp
  exact PySem.W.kia_one look I.kIn J kit (fun z => nomatch z) fun tk => ⟨.bl b, H, I.kept (t' := tk) fun _ _ z => z, rfl, q⟩
/-- e.n, e an exception that is kept -/
def tXh (K : PySem.W.Frag) (n : Str) (te : TE) : TE := fun σ H Q => te σ H fun x H1 => ∃ (a C dd : Addr) (fs : List (Str × V)) (v : V), x = .ref a ∧ H1 a = some (exI a (.ref C) (some dd)) ∧ XfC K C ∧ PySem.W.findIn K (.ref C) n = some none ∧
  H1 dd = some (.xd fs) ∧ fs.lookup n = some v ∧ Q v H1
theorem pe_xh {X : Cx} {K : PySem.W.Frag} {e : Expr} {te : TE} {pos : Pos} {n : Str} (he : PE X e te) (hK : X.K = K := by rfl) (hb : attributeBase e n X.env (eval e X.env) = eval e X.env := by rfl) : PE X (.Attribute e n pos) (tXh K n te) := by
  subst hK
  refine ⟨fun pins s σ H Q I h => attr_of hb (thn (he.run pins s σ H _ I h) fun u s1 hh => ?_)⟩
  obtain ⟨x, H1, I1, rx, a, C, dd, fs, v, rfl, ha, T, hno, hx, hl, q⟩ := hh
  cases rx
  obtain ⟨ox, od, J, _, at_⟩ := exI_at I1 ha (.inr ⟨dd, fs, rfl, hx⟩)
  obtain ⟨o, rfl, ho⟩ := at_ dd rfl
  have ob := I1.hok dd _ hx
  obtain ⟨mA, hns, hr⟩ := ob
  obtain ⟨o2, ho2, hl2⟩ := lookIn_ns hns
  rw [ho] at ho2
  cases ho2
  obtain ⟨u, hu, ru⟩ := RelO.some_of (v := v) (o := mA n) (by rw [← hl]; exact hr n)
  exact HandSPX.exc_get I1.kIn J T.ga T.gg T.exC (PySem.W.findObj_own T.hdC hno rfl (by rw [hl2, hu])) (handed_of ru) ⟨v, H1, I1.tok _, ru, q⟩
/-! ### f(lambda: body), where f calls defs of its own -/
def Gives (X : Cx) (Ng : List Str) (x : Str) (sg : Scope) (g : Addr) (cdg : Value) (bg : List Stmt) (a q : Str) (k : Nat) (TT : (XK → Hp → VK → Prop) → Hp → VK → Prop) : Prop :=
  ∀ (f c' : Addr) (s : Shared) (H : Hp) (Q : VK) (tl : XK → Hp → VK → Prop), Room k (X.A.deeper (envOfC x sg s.heap.objs.size g cdg)) →
    (∀ (W : WX) (pn : List (Addr × Obj)) (xe : Value → Shared → Prop) (E : XK) (p1 p2 : Pos), Takes ((cxOf C8.CX0 X.prog X.w X.K X.mg X.base Ng x sg g cdg X.A X.stack s H C8.E0).tr pn xe) W → (∀ cls d σ' H', E cls d H' → W cls d σ' H') →
      PE ((cxOf C8.CX0 X.prog X.w X.K X.mg X.base Ng x sg g cdg X.A X.stack s H C8.E0).tr pn xe) (.Call (.Name a p1) [] [] p2) (fun σZ HZ Q => σZ[0]? = some (some (.ref f)) ∧ HZ c' = some (CodeO c' q) ∧ tl E HZ Q)) →
    H c' = some (CodeO c' q) → TT tl H Q →
    ∃ t, PSs (cxOf C8.CX0 X.prog X.w X.K X.mg X.base Ng x sg g cdg X.A X.stack s H C8.E0).nox bg t ∧ t { nx := fun _ H' => Q .non H', rt := Q } (L2.start Ng [.ref f]) H
theorem pe_lam {X : Cx} {TT : (XK → Hp → VK → Prop) → Hp → VK → Prop} {x a : Str} {st : Stmt} {g c P : Addr} {fd : FuncData} {k : Nat} {Ng : List Str} {params : Arguments} {body : Expr} {scope : Scope} {t : XK → TE} {p lpos pos : Pos}
    (hg : Gl X x) (hm : X.mg x = some (.ref g)) (F : Fun X.K x x st g fd) (hb : L2.Binds X.K fd [a] []) (Sg : FnScope Ng [a] (defScope st)) (hNg : Ng[0]? = some a) (hva : Vis (defScope st) a)
    (hG : ∀ cdg, Gives X Ng x (defScope st) g cdg (defBody st) a (X.env.qual ++ "<lambda>") (k + 1) TT)
    (TB : TabB X.base X.mg c P) (hcode : X.env.code = .ref c) (hr : Room (k + 2) X.A) (L : LamS X.env.scope scope) (hdef : defaultsOf params X.env = ([], []))
    (hbind : ∀ (q : Str) (cl : List (Str × Addr)) (pm cv ctv : Value), bindArgs (PySem.W.kla_fn "<lambda>" q params body scope cl pm cv ctv) ⟨[], []⟩ = pure [])
    (hbody : ∀ (A : Around) (outer : List Env) (s : Shared) (H : Hp) (E : XK) (f c' : Addr), Room k (A.deeper (lamEnv X scope s.heap.objs.size f c')) → PE (lamCx X A outer s H E scope f c') body (t E))
    (hdb : (x == ("__debug__" : Str)) = false := by decide) (hd : (a == ("__debug__" : Str)) = false := by decide) (hcd : (a == ("__classdict__" : Str)) = false := by decide) :
    PE X (.Call (.Name x p) [.Lambda params body scope lpos] [] pos) (tLam [(P, X.env.qual ++ "<lambda>")] TT t) := by
  obtain ⟨oc, od, kV, doc, pm, an, cdv, ct, osl, rfl, lk, hcg⟩ := F.ex
  refine ⟨fun pins s σ H Q I ask => ?_⟩
  obtain ⟨tabs, ask⟩ := ask
  have only : ∀ p ∈ [(P, X.env.qual ++ "<lambda>")], p.1 = P → p.2 = X.env.qual ++ "<lambda>" := fun p hp _ => by rw [List.mem_singleton.mp hp]
  refine wpAny_Call_Name_kw (ld_glob I hg hm (PySem.W.callWith_K (h₀ := X.base) I.ok.mod.kin F.kp ?_ (by rfl) (by rfl)) hdb)
  change wpAny _ _ (spliced ((false, eval (.Lambda params body scope lpos) X.env) :: backTo pos (starEach [] X.env))) _ _ s
  refine Calls.spliced_cons (lam_make2 I TB hcode List.mem_cons_self only tabs hdef (L.has I.ok) fun f c' pm' ctv H1 s' I1 grown T1 hf hfn hfr hco => Calls.spliced_nil ⟨I1.kIn, ?_⟩)
  have called : codeAny (model X.prog X.w) X.A (.call (.ref g) ⟨[.ref f], []⟩) (CR C8.CX0 X.stack X.prog X.w H1 s' Q C8.E0) s' := by
    refine run_ofS (N := Ng) (ps := [a]) (us := [.ref f]) (vs := [.ref f]) lk hcg Sg hr I1.env0 (hb s' [.ref f] I1.kIn rfl) (.cons rfl .nil) rfl fun room => ?_
    obtain ⟨u, walk, want⟩ := hG cdv f c' s' H1 Q (fun E H' Q' => t E σ H' Q') room (fun W pn xe E p1 p2 tk hW => pe_act (i := 0) I1 L hf hfn hfr (hbind _ _ _ _ _) tk hW room (fun A outer s H r2 => hbody A outer s H E f c' r2) hNg hva hd hcd) hco (ask H1 grown T1)
    exact ⟨u, walk.nox, want⟩
  refine wpAny_call (codeAny_mono called fun r s2 z => ?_)
  match r, z with
  | .ok (.ret u), z => exact I1.after z
  | .error e, z => exact (show False from z).elim
  | .ok .next, z => exact z.elim
  | .ok .brk, z => exact z.elim
  | .ok .cont, z => exact z.elim
end L2

/-! A law that holds lambdas of its own: its def, its code object's table, its end. -/
namespace L2
open PySem PySem.Spec PyProof.Rows LamX
/-- a def whose code object is known -/
structure FunL (K : PySem.W.Frag) (x qual : Str) (st : Stmt) (f : Addr) (fd : FuncData) (c : Addr) : Prop where
  ex : ∃ (oc : Value) (od : Option Addr) (kV doc pm : Value) (an : Option Addr) (ct : Value) (osl : Array (Option Value)),
    fd = PySem.W.fnOf x qual (defArgs st) (defBody st) (defScope st) .none kV doc pm an (.ref c) ct ∧ K.lookup f = some ⟨oc, od, .func fd, osl⟩ ∧ PySem.W.codeIn K (.ref c) qual = true
section
variable {P : Program} {w : World} {K : PySem.W.Frag} {mg : Str → Option Value} {base : Heap}
theorem _root_.L2.FunL.okG {x qual : Str} {st : Stmt} {f c : Addr} {fd : FuncData} {N ps : List Str} {k : Nat} {sp : Sp} (F : FunL K x qual st f fd c)
    (S : FnScope N ps (defScope st)) (len : ∀ vs H Q E, sp vs H Q E → vs.length = ps.length)
    (body : ∀ (A : Around) (outer : List Env) (s : Shared) (H : Hp) (vs : List V) (Q : VK) (E : XK),
      Room k (A.deeper (envOfC qual (defScope st) s.heap.objs.size f (.ref c))) → A.guards = some [] → sp vs H Q E →
      ∃ t, PSs (cxOf CX0 P w K mg base N qual (defScope st) f (.ref c) A outer s H E).nox (defBody st) t ∧
        t { nx := fun _ H' => Q .non H', rt := Q } (start N vs) H) : FnG P w K mg base (k + 1) f fd ps sp := by
  obtain ⟨oc, od, kV, doc, pm, an, ct, osl, rfl, lk, hcd⟩ := F.ex
  refine ⟨len, fun A outer s H args us vs Q E room hg env binds rel ask => ?_⟩
  obtain ⟨t, walk, want⟩ := body A outer s H vs Q E (room.deeper (envOfC qual (defScope st) s.heap.objs.size f (.ref c))) hg ask
  have kin : K.In s.heap := env.mod.kin.keeps fun b o e => (env.bs b o e).1
  refine codeAny_call_function room.depth (kin _ _ lk) rfl S.co S.gen rfl (PySem.W.codeRec_of kin hcd) (binds _ _ _ _ ?_)
  refine wpAny_newFunctionEnv_cells S.kind (fun y hy => ?_) fun e he s1 begun => ?_
  · obtain ⟨n, v⟩ := y
    have hn := S.par n (List.of_mem_zip hy).1
    rcases hn with q | q
    · exact Or.inl q
    · exact Or.inr ⟨q, PySem.W.cellsFrom_some _ _ _ (Or.inl q)⟩
  subst he
  have lim : s.heap.NoLimit := env.mod.nolimit.keeps fun b o e => (env.bs b o e).1
  refine And.intro (lim.keeps begun.toInCall.keep) (codeAny_func ?_)
  have inv := inv_start (CX := CX0) (E := E) S room.hd env (len _ _ _ _ ask) rel begun
  refine wpAny_mono (walk.nox.run [] s1 (start N vs) H _ inv want) (fun fl s' ends => ?_) (fun _ _ z => z)
  match fl, ends with
  | .next, ⟨_, H', J, q⟩ => exact ⟨V.non, H', J.os, J.bare, J.base, J.hok, rfl, q⟩
  | .ret u, ⟨v, _, H', J, r, q⟩ => exact ⟨v, H', J.os, J.bare, J.base, J.hok, r, q⟩
  | .brk, ⟨_, _, _, q⟩ => cases q
  | .cont, ⟨_, _, _, q⟩ => cases q
end
section
variable {P : Program} {w : World} {K : PySem.W.Frag} {mg mb : Str → Option Value} {k : Nat} {fa a c T : Addr} {fd : FuncData} {x : Str} {sp : Sp}
  {z : Shared} {vs : List Value} {ns : List Int}
/-- what is tracked at the start: the table, the script at most -/
def OnlyT (T : Addr) (H : Hp) : Prop := H T = some (.tbl #[]) ∧ ∀ b, b ≠ T → H b = none ∨ ∃ o xs, H b = some (.frz o (.lst xs))
theorem tab_core (kin : K.In z.heap) (hns : z.heap.Ns mainGlobals mg) (hb : z.heap.Ns builtinsNs mb) (hbb : ∀ x : Str, x ≠ "__name__" → mb x = bootBuiltins x)
    (hlim : z.heap.NoLimit) (hg : z.gens = #[]) (tab : z.heap.get? T = some (PySem.W.tabObj #[])) (notT : K.lookup T = none) (hd : PySem.W.CodeHd z.heap c T)
    (hbm : ∃ (bm : Addr) (ob : Obj), mg "__builtins__" = some (.ref bm) ∧ bm ≠ builtinsNs ∧ z.heap.get? bm = some ob ∧ ob.cls = .type "module" ∧ ob.dict = some builtinsNs ∧ ob.data = .plain)
    (ha : z.heap.get? a = some { cls := .type "list", data := .seq vs.toArray }) (hr : Room k callerA)
    (F : ∀ base : Heap, K.In base → base.Ns mainGlobals mg → TabB base mg c T → FnG P w K mg base k fa fd [x] sp) (bind : ∀ (s : Shared) (u : Value), BindsTo s fd ⟨[u], []⟩ [(x, u)])
    (H : Hp) (ask : sp [.ref a] H (fun v _ => v = .bl true) fun _ _ _ => False) (ok : HOk P w H z.heap) (only : OnlyT T H) (atA : ∀ b, H b ≠ none → b = a ∨ b = T)
    (notK : H a ≠ none → K.lookup a = none) : codeAny (model P w) callerA (.call (.ref fa) ⟨[.ref a], []⟩) (endsTrue z) z := by
  have stays : ∀ {b : Addr} {o : Obj}, z.heap.get? b = some o → (b ≠ a ∨ H a = none) → b ≠ T → (hidT z.heap H).get? b = some o := by
    intro b o e h1 h2
    refine hidT_get e ?_
    cases q : H b with
    | none => rfl
    | some u =>
      rcases atA b (by rw [q]; exact Option.some_ne_none u) with eb | eb
      · rcases h1 with h1 | h1
        · exact absurd eb h1
        · rw [eb, h1] at q
          cases q
      · exact absurd eb h2
  -- what is neither a list nor a table is not hidden
  have other : ∀ {b : Addr} {o : Obj}, z.heap.get? b = some o → (∀ xs n, o.data ≠ .seq xs n) → o.data ≠ .fields #[] → (hidT z.heap H).get? b = some o := by
    intro b o e h1 h2
    refine stays e (.inl fun eb => ?_) fun eb => ?_
    · rw [eb, ha] at e
      cases e
      exact h1 _ _ rfl
    · rw [eb, tab] at e
      cases e
      exact h2 rfl
  have names : ∀ {b : Addr} {m : Str → Option Value}, z.heap.Ns b m → (hidT z.heap H).Ns b m := by
    rintro b m ⟨o, es, ep, e, d, r⟩
    exact ⟨o, es, ep, other e (fun xs n q => by rw [d] at q; cases q) (fun q => by rw [d] at q; cases q), d, r⟩
  have kinB : K.In (hidT z.heap H) := by
    intro b o e
    refine stays (kin b o e) ?_ fun eb => ?_
    · by_cases eb : b = a
      · refine .inr ?_
        cases q : H a with
        | none => rfl
        | some u =>
          rw [eb, notK (by rw [q]; exact Option.some_ne_none u)] at e
          cases e
      · exact .inl eb
    · rw [eb, notT] at e
      cases e
  have table : TabB (hidT z.heap H) mg c T := by
    refine ⟨?_, ?_, fun eq => ?_⟩
    · obtain ⟨o, us, d1, d2, d3, d4, d5, d6, d7, e1, r1, r2, r3, r4⟩ := hd
      refine ⟨o, us, d1, d2, d3, d4, d5, d6, d7, other e1 (fun xs n q => by rw [r2] at q; cases q) (fun q => ?_), r1, r2, r3, r4⟩
      rw [r2] at q
      cases q
      simp at r3
    · obtain ⟨bm, ob, b1, b2, b3, b4, b5, b6⟩ := hbm
      refine ⟨bm, ob, b1, b2, fun q => ?_, fun q => ?_, other b3 (fun xs n q => by rw [b6] at q; cases q) (fun q => by rw [b6] at q; cases q), b4, b5, b6⟩
      · obtain ⟨o, es, ep, e, d, _⟩ := hns
        rw [q, e] at b3
        cases b3
        rw [d] at b6
        cases b6
      · rw [q, tab] at b3
        cases b3
        cases b6
    · obtain ⟨o, es, ep, e, d, _⟩ := hns
      rw [eq, tab] at e
      cases e
      cases d
  obtain ⟨mc, l1, l2⟩ := hlim
  have M : Mod K mg (hidT z.heap H) := ⟨kinB, names hns, ⟨mb, names hb, hbb⟩, ⟨mc, names l1, l2⟩⟩
  have env : Env0 P w K mg (hidT z.heap H) callerA [] z H := by
    refine ⟨rfl, M, fun b o e => of_hidT e, Nat.le_of_eq (hidT_size _ _), trivial, ?_, ok, .of_eq hg⟩
    intro b hm
    cases hm
  refine codeAny_mono ((F _ kinB (names hns) table).go callerA [] z H ⟨[.ref a], []⟩ [.ref a] [.ref a] _ _ hr rfl env (bind z (.ref a)) (.cons rfl .nil) ask) ?_
  intro r s' res
  match r, res with
  | .error e, res => cases res
  | .ok .next, res => cases res
  | .ok .brk, res => cases res
  | .ok .cont, res => cases res
  | .ok (.ret u), ⟨v, H', os, bare, un, ok', rel, ev⟩ =>
    have ev' : v = .bl true := ev
    subst ev'
    have eu : u = Value.bool true := rel
    subst eu
    have grown : ∃ more : Array Value, s'.heap.get? T = some (PySem.W.tabObj more) := by
      obtain ⟨more, q⟩ := un.tbls T #[] only.1
      exact ⟨_, ok' T _ q⟩
    have keep : ∀ b o, b ≠ T → z.heap.get? b = some o → s'.heap.get? b = some o := fun b o nb e => by
      rcases only.2 b nb with q | ⟨ob, xs, q⟩
      · exact un.keep b o e q (fun m => by cases m) (fun m => by cases m)
      · obtain ⟨e1, _⟩ := ok b _ q
        obtain ⟨e2, _⟩ := ok' b _ (un.frzs b ob _ q)
        rw [e] at e1
        cases e1
        exact e2
    obtain ⟨more, g⟩ := grown
    refine ⟨rfl, ⟨fun b o e => ?_, fun b o e => ?_⟩, os, bare⟩
    · by_cases hb : b = T
      · subst hb
        rw [tab] at e
        cases e
        exact .inr (.inl ⟨(hd.tab tab).isCodeTable, rfl, #[], more, rfl, by rw [Array.empty_append]; exact g⟩)
      · exact .inl (keep b o hb e)
    · by_cases hb : b = T
      · rw [hb]
        exact ⟨_, g⟩
      · exact ⟨o, keep b o hb e⟩
theorem tab_call (kin : K.In z.heap) (hns : z.heap.Ns mainGlobals mg) (hb : z.heap.Ns builtinsNs mb) (hbb : ∀ x : Str, x ≠ "__name__" → mb x = bootBuiltins x)
    (hlim : z.heap.NoLimit) (hg : z.gens = #[]) (tab : z.heap.get? T = some (PySem.W.tabObj #[])) (notT : K.lookup T = none) (hd : PySem.W.CodeHd z.heap c T)
    (hbm : ∃ (bm : Addr) (ob : Obj), mg "__builtins__" = some (.ref bm) ∧ bm ≠ builtinsNs ∧ z.heap.get? bm = some ob ∧ ob.cls = .type "module" ∧ ob.dict = some builtinsNs ∧ ob.data = .plain)
    (ha : z.heap.get? a = some { cls := .type "list", data := .seq vs.toArray }) (hi : IntsAre vs ns) (hl : ns.length ≤ sizeLine) (hr : Room k callerA)
    (F : ∀ base : Heap, K.In base → base.Ns mainGlobals mg → TabB base mg c T → FnG P w K mg base k fa fd [x] sp) (bind : ∀ (s : Shared) (u : Value), BindsTo s fd ⟨[u], []⟩ [(x, u)])
    (ask : ∀ H : Hp, H T = some (.tbl #[]) → SqL K H a (ns.map V.int) → sp [.ref a] H (fun v _ => v = .bl true) fun _ _ _ => False) :
    codeAny (model P w) callerA (.call (.ref fa) ⟨[.ref a], []⟩) (endsTrue z) z := by
  have rv := vals_ints hi
  have lv := hi.length
  have aT : a ≠ T := fun q => by
    rw [q, tab] at ha
    cases ha
  cases hk : K.lookup a with
  | none =>
    let H0 : Hp := fun b => if b = a then some (.frz { cls := .type "list", data := .seq vs.toArray } (.lst (ns.map V.int))) else if b = T then some (.tbl #[]) else none
    have at0 : H0 a = some (.frz { cls := .type "list", data := .seq vs.toArray } (.lst (ns.map V.int))) := if_pos rfl
    have atT : H0 T = some (.tbl #[]) := (if_neg aT.symm).trans (if_pos rfl)
    have else0 : ∀ b, b ≠ a → b ≠ T → H0 b = none := fun b h h2 => (if_neg h).trans (if_neg h2)
    have only : OnlyT T H0 := ⟨atT, fun b hT => by
      by_cases h : b = a
      · rw [h]
        exact .inr ⟨_, _, at0⟩
      · exact .inl (else0 b h hT)⟩
    refine tab_core kin hns hb hbb hlim hg tab notT hd hbm ha hr F bind H0 (ask H0 atT (.inl (.inr ⟨_, at0⟩))) (fun b u h => ?_) only (fun b h => ?_) (fun _ => hk)
    · by_cases hba : b = a
      · subst hba
        rw [at0] at h
        cases h
        exact ⟨ha, by rw [List.length_map]; exact hl, vs, _, rv, ha⟩
      · by_cases hbT : b = T
        · subst hbT
          rw [atT] at h
          cases h
          exact tab
        · rw [else0 b hba hbT] at h
          cases h
    · by_cases hba : b = a
      · exact .inl hba
      · exact .inr (Classical.byContradiction fun n => h (else0 b hba n))
  | some o =>
    have e := kin a o hk
    rw [ha] at e
    cases e
    let H0 : Hp := fun b => if b = T then some (.tbl #[]) else none
    have atT : H0 T = some (.tbl #[]) := if_pos rfl
    have else0 : ∀ b, b ≠ T → H0 b = none := fun b h => if_neg h
    refine tab_core kin hns hb hbb hlim hg tab notT hd hbm ha hr F bind H0 (ask H0 atT ?_) (fun b u h => ?_) ⟨atT, fun b h => .inl (else0 b h)⟩ (fun b h => .inr (Classical.byContradiction fun n => h (else0 b n))) fun h => absurd (else0 a aT) h
    · exact .inr ⟨_, vs.toArray, _, hk, rfl, rfl, rfl, by rw [List.size_toArray, lv]; exact hl, by simpa using rv⟩
    · by_cases hbT : b = T
      · subst hbT
        rw [atT] at h
        cases h
        exact tab
      · rw [else0 b hbT] at h
        cases h
end
theorem tab_walk {l : PySem.W.OpenLaw} {k : Nat} {q : Program} {loose : List Str} {XP : (Str → Option Value) → Heap → Prop} {YP : World → Heap → Prop} {d : DefRec}
    {K : Params → PySem.W.Frag} {sp : Addr → PySem.W.Frag → Sp} (hn : l.most = some 63) (hdf : d.params.defaults = []) (hr : Room k callerA) (hrec : ((recsOf q).any fun e => e.name == d.name) = true)
    (hY : ∀ (w : World) (h : Heap), YP w h → (K w.params).In h)
    (F : ∀ (w : World) (mg : Str → Option Value) (fa : Addr) (h : Heap), (K w.params).In h → h.Ns mainGlobals mg → mg d.name = some (.ref fa) →
      ∃ (fd : FuncData) (c T : Addr), (K w.params).lookup T = none ∧ PySem.W.codeHdIn (K w.params) c T = true ∧ PySem.W.tabIn (K w.params) d.name = some (c, T) ∧ (∀ (s : Shared) (u : Value), BindsTo s fd ⟨[u], []⟩ [("script", u)]) ∧
        ∀ base : Heap, (K w.params).In base → base.Ns mainGlobals mg → TabB base mg c T → FnG l.prog w (K w.params) mg base k fa fd ["script"] (sp T (K w.params)))
    (ask : ∀ (T : Addr) (K : PySem.W.Frag) (H : Hp) (a : Addr) (ns : List Int), ns.length ≤ 63 → H T = some (.tbl #[]) → SqL K H a (ns.map V.int) → sp T K [.ref a] H (fun v _ => v = .bl true) fun _ _ _ => False) :
    PySem.W.WalkO q loose XP YP l.row.toRowW d [] (fun f vs => PySem.call f vs) := by
  refine Att.attach_call hn hdf fun w s0 z mg mb fa o pm cd doc a vs ns G Y ho hd hcd hmg hobj hints hlen hg => ?_
  have kin := hY w _ Y
  obtain ⟨fd, c, T, notT, hdIn, tIn, bind, hF⟩ := F w mg fa _ kin G.T.g hmg
  obtain ⟨dL, hm, hn1⟩ := List.any_eq_true.mp hrec
  have hn2 : dL.name = d.name := beq_iff_eq.mp hn1
  have tab : z.heap.get? T = some (PySem.W.tabObj #[]) := by
    obtain ⟨a', o', fd', c', P', h1, h2, h3, h4, h5, h6⟩ := G.T.tab dL hm
    rw [hn2, hmg] at h1
    cases h1
    have ec := PySem.W.law_code kin G.T.g tIn hmg h2 h3
    rw [h4] at ec
    cases ec
    obtain ⟨⟨oc, vc, e1, _, e3, e4⟩, hP⟩ := h6
    obtain ⟨o2, us, _, _, _, _, _, _, _, f1, _, f3, f4, _⟩ := PySem.W.codeHd_of_K kin hdIn
    rw [f1] at e1
    cases e1
    rw [f3] at e3
    cases e3
    rw [f4] at e4
    cases e4
    exact hP
  exact tab_call kin G.T.g G.T.b G.T.builtins G.T.nolimit hg tab notT (PySem.W.codeHd_of_K kin hdIn) G.T.bmain hobj hints (Nat.le_trans hlen (by decide)) hr hF bind fun H hT hS => ask T (K w.params) H a ns hlen hT hS
theorem tab_in {K : PySem.W.Frag} {x : Str} {f cl lT : Addr} {oc e : Value} {od dC : Option Addr} {fd : FuncData} {osl sl : Array (Option Value)} {vs : Array Value} (a : PySem.W.nsIn K mainGlobals x = some (some (.ref f))) (l : K.lookup f = some ⟨oc, od, .func fd, osl⟩)
    (hc : fd.code = .ref cl) (lc : K.lookup cl = some ⟨e, dC, .fields vs, sl⟩) (v : vs[11]? = some (.ref lT)) : PySem.W.tabIn K x = some (cl, lT) := by
  unfold PySem.W.tabIn
  simp only [a, l, hc, lc, v]
theorem hd_in {K : PySem.W.Frag} {cl lT : Addr} {o : Obj} (lc : K.lookup cl = some o) (h : PySem.W.codeHdIn [(cl, o)] cl lT = true) : PySem.W.codeHdIn K cl lT = true := by
  unfold PySem.W.codeHdIn at h ⊢
  rw [lc]
  have e : List.lookup cl [(cl, o)] = some o := by simp [List.lookup]
  rw [e] at h
  exact h
end L2

/-! What a lambda that may raise comes to; the state of the draws and data where a table grows. -/
namespace My
open PySem PySem.Spec PyProof.Rows L2 LamX
theorem exm_apart {K : PySem.W.Frag} {B C : Addr} (h1 : PySem.W.subIn K (.ref C) (.type "BaseException") = some true) (h2 : PySem.W.isClsIn K C = true)
    (h3 : PySem.W.typeIn K (.ref C) = some (.type "type")) (h4 : PySem.W.subIn K (.ref B) (.ref C) = some false) : PySem.W.exmOne K (.ref B) (.ref C) = some false := by
  have h2' : (PySem.W.clsIn K C).isSome = true := h2
  simp [PySem.W.exmOne, PySem.W.kitCls, h1, h2', h3, h4]
/-- what is wished of an error of a lambda: L, the classes with their words and fields -/
def fltW (K : PySem.W.Frag) (L : List (Addr × Str × Option Str)) (Q : VK) : XK := fun cls d H => ∃ (C : Addr) (word : Str) (fo : Option Str), cls = .ref C ∧ (C, word, fo) ∈ L ∧ (match fo with
  | some f => ∃ (dd : Addr) (w : V), d = some dd ∧ H dd = some (.xd [(f, w)]) ∧ ∀ p H', Same H H' → SqT K H' p [.str word, w] → Q (.ref p) H'
  | none => d = none ∧ ∀ p H', Same H H' → SqT K H' p [.str word, .non] → Q (.ref p) H')
def sp_fault (K : PySem.W.Frag) (L : List (Addr × Str × Option Str)) : Sp := fun vs H Q _ => ∃ (a : Addr) (cls : Value) (d : Option Addr), vs = [.ref a] ∧ H a = some (exI a cls d) ∧ fltW K L Q cls d H
def TTo (K : PySem.W.Frag) (L : List (Addr × Str × Option Str)) : (XK → Hp → VK → Prop) → Hp → VK → Prop := fun tl H Q => ∀ H0, Same H H0 → ∀ Q' : VK, (∀ v H1, (∀ p, H1 p = none → Q (.ref p) (upd H1 p (.lst [v]))) → Q' v H1) → tl (fltW K L Q) H0 Q'
theorem fltW.up {K : PySem.W.Frag} {L : List (Addr × Str × Option Str)} {Q : VK} {cls : Value} {d : Option Addr} {H H1 : Hp} (h : fltW K L Q cls d H) (s : Same H H1) : fltW K L Q cls d H1 := by
  obtain ⟨C, word, fo, e, m, k⟩ := h
  refine ⟨C, word, fo, e, m, ?_⟩
  cases fo with
  | some f =>
    obtain ⟨dd, w, e1, e2, k⟩ := k
    exact ⟨dd, w, e1, s _ _ e2, fun p H' s2 => k p H' (s.trans s2)⟩
  | none =>
    obtain ⟨e1, k⟩ := k
    exact ⟨e1, fun p H' s2 => k p H' (s.trans s2)⟩
def sp_lawT (T : Addr) (K : PySem.W.Frag) : Sp := fun vs H Q _ => ∃ (a : Addr) (ns : List Int), vs = [.ref a] ∧ H T = some (.tbl #[]) ∧ SqL K H a (ns.map V.int) ∧ ns.length ≤ 63 ∧ ∀ H', Q (.bl true) H'
theorem ExtN.tk {K : PySem.W.Frag} {H H' : Hp} (e : ExtN H H') : TK K H H' := fun a xs h => by
  rcases h with (h | ⟨o, h⟩) | h
  · exact .inl (.inl (e _ _ h fun ps z => by cases z))
  · exact .inl (.inr ⟨o, e _ _ h fun ps z => by cases z⟩)
  · exact .inr h
theorem MS.ext {m : Addr} {H H' : Hp} {n : Nat} (M : MS H m n) (e : ExtN H H') : MS H' m n := by
  obtain ⟨c, l, dk, ⟨cs, h1, h2⟩, ⟨ls, h3, h4, h5⟩, cl⟩ := M
  exact ⟨c, l, e _ _ dk (fun ps z => by cases z), ⟨cs, e _ _ h1 (fun ps z => by cases z), h2⟩, ⟨ls, e _ _ h3 (fun ps z => by cases z), h4, h5⟩, cl⟩
theorem ExtN.same {H H' : Hp} (s : Same H H') : ExtN H H' := ExtN.of s
theorem Tabs.ef {Ts : List (Addr × Str)} {m : Addr} {n : Nat} {H H' : Hp} (t : Tabs Ts H) (M : MS H m n) (e : Ef m H H') : Tabs Ts H' := fun p hp => by
  obtain ⟨c, l, M⟩ := M
  obtain ⟨ls, hl, _⟩ := M.ls
  obtain ⟨cs, hc, _⟩ := M.cs
  have go : ∀ (b : Addr) (u : HO), H b = some u → (∀ kvs, u ≠ .dK kvs) → (∀ ys, u ≠ .lst ys) → H' b = some u := fun b u hu h1 h2 => by
    refine e.keep b u hu (fun z => ?_) (fun z => ?_)
    · subst z
      rw [M.dk] at hu
      exact h1 _ (Option.some.inj hu).symm
    · rcases M.lf z with q | q
      · rw [q, hc] at hu
        exact h2 _ (Option.some.inj hu).symm
      · rw [q, hl] at hu
        exact h2 _ (Option.some.inj hu).symm
  obtain ⟨ps, h1, h2, h3⟩ := t p hp
  refine ⟨ps, go _ _ h1 (fun _ z => by cases z) (fun _ z => by cases z), h2, fun pos cv hv => ?_⟩
  obtain ⟨c0, e1, e2⟩ := h3 pos cv hv
  refine ⟨c0, e1, go _ _ e2 (fun _ z => ?_) (fun _ z => ?_)⟩
  · unfold CodeO at z
    cases z
  · unfold CodeO at z
    cases z
theorem tabs1 {P : Addr} {q : Str} {H : Hp} (h : H P = some (.tbl #[])) : Tabs [(P, q)] H := fun p hp => by
  rw [List.mem_singleton.mp hp]
  exact TabS.nil h
end My

/-! if outcome(lambda: ..) != (word, what): return False -/
namespace My
open PySem PySem.Spec PyProof.Rows L2 LamX
/-- what is wished of an error of the class C that tells a place -/
def RaiseP (K : PySem.W.Frag) (C : Addr) (H : Hp) (E : XK) (pl : List Int) : Prop := ∀ dd w H', Same H H' → H' dd = some (.xd [("place", w)]) → Dp K H' w (dInts pl) → E (.ref C) (some dd) H'
theorem RaiseP.at {K : PySem.W.Frag} {C : Addr} {H H' : Hp} {E : XK} {pl : List Int} (h : RaiseP K C H E pl) (s : Same H H') : RaiseP K C H' E pl := fun dd w H2 s2 a b => h dd w H2 (s.trans s2) a b
def RaiseN (C : Addr) (H : Hp) (E : XK) : Prop := ∀ H', Same H H' → E (.ref C) none H'
section
variable {K : PySem.W.Frag} {L : List (Addr × Str × Option Str)} {P C : Addr} {q word : Str} {t : XK → TE} {σ : L2.St} {H : Hp} {Q : VK} {pl : List Int}
theorem lam_f (T : Tabs [(P, q)] H) (m : (C, word, some (Str.ofString "place")) ∈ L) (body : ∀ H0 (E : XK) (Q' : VK), ExtN H H0 → RaiseP K C H0 E pl → t E σ H0 Q')
    (k : ∀ v H', ExtN H H' → Tabs [(P, q)] H' → Dp K H' v (.tuple [.str word, dInts pl]) → Q v H') : tLam [(P, q)] (TTo K L) t σ H Q := by
  refine ⟨T, fun H1 e1 T1 H0 s0 Q' _ => ?_⟩
  refine body H0 (fltW K L Q) Q' (e1.trans (ExtN.of s0)) fun dd w H' s hx hw => ⟨C, word, some _, rfl, m, dd, w, rfl, hx, fun p H2 s2 hp => ?_⟩
  have st := s0.trans (s.trans s2)
  exact k _ H2 (e1.trans (ExtN.of st)) (T1.ext st) (.tup hp (.cons (.str _) (.cons (hw.same_at s2) .nil)))
theorem lam_n (T : Tabs [(P, q)] H) (m : (C, word, none) ∈ L) (body : ∀ H0 (E : XK) (Q' : VK), ExtN H H0 → RaiseN C H0 E → t E σ H0 Q')
    (k : ∀ v H', ExtN H H' → Tabs [(P, q)] H' → Dp K H' v (.tuple [.str word, .none]) → Q v H') : tLam [(P, q)] (TTo K L) t σ H Q := by
  refine ⟨T, fun H1 e1 T1 H0 s0 Q' _ => ?_⟩
  refine body H0 (fltW K L Q) Q' (e1.trans (ExtN.of s0)) fun H' s => ⟨C, word, none, rfl, m, rfl, fun p H2 s2 hp => ?_⟩
  have st3 := s0.trans (s.trans s2)
  exact k _ H2 (e1.trans (ExtN.of st3)) (T1.ext st3) (.tup hp (.cons (.str _) (.cons .non .nil)))
variable {te2 : TE} {A rest : TS} {D : Ends}
theorem word_shaped (hw : (PyData.str word).canLay0 = true) (pl : List Int) : SeqAt.shaped (.tuple [.str word, dInts pl]) = true := by
  have l := SeqAt.canLay_of_shaped (shaped_dInts pl)
  have d := SeqAt.depth_of_shaped (shaped_dInts pl)
  have d1 := depth_ints pl
  unfold SeqAt.shaped
  rw [Bool.and_eq_true]
  constructor
  · show ((PyData.str word).canLay0 && ((dInts pl).canLay0 && true)) = true
    rw [hw, l]
    rfl
  · refine decide_eq_true ?_
    show max 0 (max (dInts pl).depth 0) + 1 ≤ 64
    have e : (dInts pl).depth = PyData.depthAll (pl.map PyData.int) + 1 := rfl
    omega
theorem word_shapedN (hw : (PyData.str word).canLay0 = true) : SeqAt.shaped (.tuple [.str word, .none]) = true := by
  unfold SeqAt.shaped
  rw [Bool.and_eq_true]
  constructor
  · show ((PyData.str word).canLay0 && (PyData.none.canLay0 && true)) = true
    rw [hw]
    rfl
  · exact decide_eq_true (by show max 0 (max 0 0) + 1 ≤ 64; decide)
theorem test_f (T : Tabs [(P, q)] H) (m : (C, word, some (Str.ofString "place")) ∈ L) (hw : (PyData.str word).canLay0 = true) (body : ∀ H0 (E : XK) (Q' : VK), ExtN H H0 → RaiseP K C H0 E pl → t E σ H0 Q')
    (e2 : ∀ H1 (Q' : VK), ExtN H H1 → (∀ u H2, Same H1 H2 → Dp K H2 u (.tuple [.str word, dInts pl]) → Q' u H2) → te2 σ H1 Q') (next : ∀ H', ExtN H H' → Tabs [(P, q)] H' → D.nx σ H') :
    tIfS (tTest (tOp (rNeD K) (tLam [(P, q)] (TTo K L) t) te2)) A tNext D σ H := by
  refine lam_f T m body fun v H1 x1 T1 hv => e2 H1 _ x1 fun u H2 s2 hu => ?_
  refine ⟨_, _, hv.same_at s2, hu, word_shaped hw pl, word_shaped hw pl, _, rfl, ?_⟩
  rw [eqv_self _ (by show (tupOnly (.str word) && (tupOnly.go (pl.map PyData.int) && true)) = true; rw [to_ints]; rfl)]
  exact iteF (next H2 (x1.trans (ExtN.of s2)) (T1.ext s2))
theorem test_n (T : Tabs [(P, q)] H) (m : (C, word, none) ∈ L) (hw : (PyData.str word).canLay0 = true) (body : ∀ H0 (E : XK) (Q' : VK), ExtN H H0 → RaiseN C H0 E → t E σ H0 Q')
    (e2 : ∀ H1 (Q' : VK), ExtN H H1 → (∀ u H2, Same H1 H2 → Dp K H2 u (.tuple [.str word, .none]) → Q' u H2) → te2 σ H1 Q') (next : ∀ H', ExtN H H' → Tabs [(P, q)] H' → D.nx σ H') :
    tIfS (tTest (tOp (rNeD K) (tLam [(P, q)] (TTo K L) t) te2)) A tNext D σ H := by
  refine lam_n T m body fun v H1 x1 T1 hv => e2 H1 _ x1 fun u H2 s2 hu => ?_
  refine ⟨_, _, hv.same_at s2, hu, word_shapedN hw, word_shapedN hw, _, rfl, ?_⟩
  rw [eqv_self _ (by rfl)]
  exact iteF (next H2 (x1.trans (ExtN.of s2)) (T1.ext s2))
theorem chk_f (T : Tabs [(P, q)] H) (m : (C, word, some (Str.ofString "place")) ∈ L) (hw : (PyData.str word).canLay0 = true) (body : ∀ H0 (E : XK) (Q' : VK), ExtN H H0 → RaiseP K C H0 E pl → t E σ H0 Q')
    (e2 : ∀ H1 (Q' : VK), ExtN H H1 → (∀ u H2, Same H1 H2 → Dp K H2 u (.tuple [.str word, dInts pl]) → Q' u H2) → te2 σ H1 Q') (next : ∀ H', ExtN H H' → Tabs [(P, q)] H' → rest D σ H') :
    tSeq (tIfS (tTest (tOp (rNeD K) (tLam [(P, q)] (TTo K L) t) te2)) A tNext) rest D σ H := test_f (D := { D with nx := rest D }) T m hw body e2 next
theorem chk_n (T : Tabs [(P, q)] H) (m : (C, word, none) ∈ L) (hw : (PyData.str word).canLay0 = true) (body : ∀ H0 (E : XK) (Q' : VK), ExtN H H0 → RaiseN C H0 E → t E σ H0 Q')
    (e2 : ∀ H1 (Q' : VK), ExtN H H1 → (∀ u H2, Same H1 H2 → Dp K H2 u (.tuple [.str word, .none]) → Q' u H2) → te2 σ H1 Q') (next : ∀ H', ExtN H H' → Tabs [(P, q)] H' → rest D σ H') :
    tSeq (tIfS (tTest (tOp (rNeD K) (tLam [(P, q)] (TTo K L) t) te2)) A tNext) rest D σ H := test_n (D := { D with nx := rest D }) T m hw body e2 next
/-- the tuples that are compared with -/
theorem e2_place : ∀ (w : Str) (σ : L2.St) (H1 : Hp) (Q' : VK), (∀ u H2, Same H1 H2 → Dp K H2 u (.tuple [.str w, .none]) → Q' u H2) → tTup (tCons (tC (.str w)) (tCons (tC .non) tNil)) σ H1 Q' := fun w σ H1 Q' k =>
  ⟨(by show 2 ≤ sizeLine; decide), fun p hp => k _ _ (same_upd hp _) (.tup (SqT.of upd_same) (.cons (.str _) (.cons .non .nil)))⟩
theorem e2_empty : ∀ (w : Str) (σ : L2.St) (H1 : Hp) (Q' : VK), (∀ u H2, Same H1 H2 → Dp K H2 u (.tuple [.str w, dInts []]) → Q' u H2) → tTup (tCons (tC (.str w)) (tCons (tTup tNil) tNil)) σ H1 Q' := fun w σ H1 Q' k =>
  ⟨(by show 0 ≤ sizeLine; decide), fun p hp => ⟨(by show 2 ≤ sizeLine; decide), fun p2 hp2 => k _ _ ((same_upd hp _).trans (same_upd hp2 _)) (.tup (SqT.of upd_same) (.cons (.str _) (.cons (Dp.ofInts (ns := []) (SqT.of ((same_upd hp2 _) _ _ upd_same))) .nil)))⟩⟩
end
end My

/-! Things of many kinds that are written out, and that last while numbers are drawn. -/
namespace My
open PySem PySem.Spec PyProof.Rows L2 LamX
mutual
/-- v is a thing d; its lists and dicts lie at allowed places -/
inductive Ro (K : PySem.W.Frag) (H : Hp) (ok : Addr → Prop) : V → Th → Prop
  | int (i : Int) : Ro K H ok (.int i) (.int i)
  | bl (b : Bool) : Ro K H ok (.bl b) (.bl b)
  | str (s : Str) : Ro K H ok (.str s) (.str s)
  | non : Ro K H ok .non .non
  | lst {a : Addr} {xs : List V} (h : H a = some (.lst xs)) (ho : ok a) : Ro K H ok (.ref a) .lst
  | dct {a : Addr} {kvs : List (Key × V)} (h : H a = some (.dK kvs)) (ho : ok a) : Ro K H ok (.ref a) .dct
  | tup {a : Addr} {xs : List V} {ds : List Th} (h : SqT K H a xs) (hx : RoAll K H ok xs ds) : Ro K H ok (.ref a) (.tup ds)
inductive RoAll (K : PySem.W.Frag) (H : Hp) (ok : Addr → Prop) : List V → List Th → Prop
  | nil : RoAll K H ok [] []
  | cons {v : V} {vs : List V} {d : Th} {ds : List Th} (h : Ro K H ok v d) (r : RoAll K H ok vs ds) : RoAll K H ok (v :: vs) (d :: ds)
end
section
variable {K : PySem.W.Frag} {H H' : Hp} {ok ok' : Addr → Prop}
mutual
theorem Ro.keep (tk : TK K H H') (kp : ∀ a o, ok a → (∀ ps, o ≠ .tbl ps) → H a = some o → H' a = some o) (oo : ∀ a o, H a = some o → (∀ ps, o ≠ .tbl ps) → ok a → ok' a) : ∀ (d : Th) (v : V), Ro K H ok v d → Ro K H' ok' v d
  | .int i, _, h => by cases h; exact .int i
  | .bl _, _, h => by cases h; exact .bl _
  | .str _, _, h => by cases h; exact .str _
  | .non, _, h => by cases h; exact .non
  | .lst, _, h => by
    cases h with
    | lst h ho => exact .lst (kp _ _ ho (fun _ z => by cases z) h) (oo _ _ h (fun _ z => by cases z) ho)
  | .dct, _, h => by
    cases h with
    | dct h ho => exact .dct (kp _ _ ho (fun _ z => by cases z) h) (oo _ _ h (fun _ z => by cases z) ho)
  | .tup ds, _, h => by
    cases h with
    | tup h hx => exact .tup (tk _ _ h) (RoAll.keep tk kp oo ds _ hx)
theorem RoAll.keep (tk : TK K H H') (kp : ∀ a o, ok a → (∀ ps, o ≠ .tbl ps) → H a = some o → H' a = some o) (oo : ∀ a o, H a = some o → (∀ ps, o ≠ .tbl ps) → ok a → ok' a) : ∀ (ds : List Th) (vs : List V), RoAll K H ok vs ds → RoAll K H' ok' vs ds
  | [], _, h => by cases h; exact .nil
  | d :: r, _, h => by
    cases h with
    | cons h1 h2 => exact .cons (Ro.keep tk kp oo d _ h1) (RoAll.keep tk kp oo r _ h2)
end
theorem Ro.same {v : V} {d : Th} (h : Ro K H ok v d) (s : Same H H') : Ro K H' ok v d := Ro.keep (Same.tk s) (fun a o _ _ q => s a o q) (fun _ _ _ _ q => q) d v h
theorem RoAll.same {vs : List V} {ds : List Th} (h : RoAll K H ok vs ds) (s : Same H H') : RoAll K H' ok vs ds := RoAll.keep (Same.tk s) (fun a o _ _ q => s a o q) (fun _ _ _ _ q => q) ds vs h
mutual
theorem Ro.rt : ∀ (d : Th) (v : V), Ro K H ok v d → Rt K H v d
  | .int i, _, h => by cases h; exact .int i
  | .bl _, _, h => by cases h; exact .bl _
  | .str _, _, h => by cases h; exact .str _
  | .non, _, h => by cases h; exact .non
  | .lst, _, h => by
    cases h with
    | lst h _ => exact .lst h
  | .dct, _, h => by
    cases h with
    | dct h _ => exact .dct h
  | .tup ds, _, h => by
    cases h with
    | tup h hx => exact .tup h (RoAll.rt ds _ hx)
theorem RoAll.rt : ∀ (ds : List Th) (vs : List V), RoAll K H ok vs ds → RtAll K H vs ds
  | [], _, h => by cases h; exact .nil
  | d :: r, _, h => by
    cases h with
    | cons h1 h2 => exact .cons (Ro.rt d _ h1) (RoAll.rt r _ h2)
end
theorem RoAll.len : ∀ {vs : List V} {ds : List Th}, RoAll K H ok vs ds → vs.length = ds.length
  | _, _, .nil => rfl
  | _, _, .cons _ h => by simp [RoAll.len h]
theorem RoAll.get : ∀ {vs : List V} {ds : List Th} {i : Nat} {v : V}, RoAll K H ok vs ds → vs[i]? = some v → ∃ d, ds[i]? = some d ∧ Ro K H ok v d
  | _, _, _, _, .nil, h => by cases h
  | _, _, 0, _, .cons h1 _, h => by
    cases h
    exact ⟨_, rfl, h1⟩
  | _, _, i + 1, _, .cons _ h2, h => RoAll.get (i := i) h2 h
theorem RoAll.app : ∀ {vs us : List V} {ds es : List Th}, RoAll K H ok vs ds → RoAll K H ok us es → RoAll K H ok (vs ++ us) (ds ++ es)
  | _, _, _, _, .nil, h => h
  | _, _, _, _, .cons h1 h2, h => .cons h1 (RoAll.app h2 h)
theorem Ro.tuple {v : V} {ds : List Th} (h : Ro K H ok v (.tup ds)) : ∃ a xs, v = .ref a ∧ SqT K H a xs ∧ RoAll K H ok xs ds := by
  cases h with
  | tup h1 h2 => exact ⟨_, _, rfl, h1, h2⟩
end
/-- not among the state of the draws -/
def offM (H : Hp) (m a : Addr) : Prop := a ≠ m ∧ ¬ Lf H m a
section
variable {K : PySem.W.Frag} {B H H' : Hp} {m : Addr} {n : Nat} {v : V} {d : Th}
theorem Ro.ef (h : Ro K H (offM H m) v d) (M : MS H m n) (e : Ef m H H') : Ro K H' (offM H' m) v d := by
  refine Ro.keep (e.tk M) (fun a o q _ z => e.keep a o z q.1 q.2) (fun a o z _ q => ⟨q.1, fun w => ?_⟩) d v h
  rcases e.new a w with r | r
  · exact q.2 r
  · rw [z] at r
    cases r
theorem Ro.sm (h : Ro K H (offM H m) v d) (M : MS H m n) (s : Same H H') : Ro K H' (offM H' m) v d :=
  Ro.keep (Same.tk s) (fun a o _ _ z => s a o z) (fun a o z _ q => ⟨q.1, noLf_same M s q.2⟩) d v h
theorem Ro.ex (h : Ro K H (offM H m) v d) (M : MS H m n) (e : ExtN H H') : Ro K H' (offM H' m) v d := by
  refine Ro.keep (ExtN.tk e) (fun a o _ nt z => e a o z nt) (fun a o z _ q => ⟨q.1, fun w => q.2 ?_⟩) d v h
  obtain ⟨c, l, M⟩ := M
  obtain ⟨kvs, kk, h1, h2⟩ := w
  rw [e _ _ M.dk (fun ps z => by cases z)] at h1
  cases h1
  exact ⟨_, kk, M.dk, h2⟩
/-- what is new behind B is none of the draws' -/
theorem Ro.off {h0 : Ro K H (fun a => B a = none) v d} (M : MS B m n) (s : Same B H) : Ro K H (offM H m) v d := by
  refine Ro.keep TK.refl (fun a o _ _ z => z) (fun a o z _ q => ⟨fun w => ?_, fun w => ?_⟩) d v h0
  · exact M.mne q w.symm
  · exact noLf_same M s (M.notLf q) w
theorem RoAll.ef {vs : List V} {ds : List Th} (h : RoAll K H (offM H m) vs ds) (M : MS H m n) (e : Ef m H H') : RoAll K H' (offM H' m) vs ds := by
  refine RoAll.keep (e.tk M) (fun a o q _ z => e.keep a o z q.1 q.2) (fun a o z _ q => ⟨q.1, fun w => ?_⟩) ds vs h
  rcases e.new a w with r | r
  · exact q.2 r
  · rw [z] at r
    cases r
theorem RoAll.sm {vs : List V} {ds : List Th} (h : RoAll K H (offM H m) vs ds) (M : MS H m n) (s : Same H H') : RoAll K H' (offM H' m) vs ds :=
  RoAll.keep (Same.tk s) (fun a o _ _ z => s a o z) (fun a o z _ q => ⟨q.1, noLf_same M s q.2⟩) ds vs h
theorem RoAll.ex {vs : List V} {ds : List Th} (h : RoAll K H (offM H m) vs ds) (M : MS H m n) (e : ExtN H H') : RoAll K H' (offM H' m) vs ds := by
  refine RoAll.keep (ExtN.tk e) (fun a o _ nt z => e a o z nt) (fun a o z _ q => ⟨q.1, fun w => q.2 ?_⟩) ds vs h
  obtain ⟨c, l, M⟩ := M
  obtain ⟨kvs, kk, h1, h2⟩ := w
  rw [e _ _ M.dk (fun ps z => by cases z)] at h1
  cases h1
  exact ⟨_, kk, M.dk, h2⟩
theorem RoAll.off {vs : List V} {ds : List Th} (h0 : RoAll K H (fun a => B a = none) vs ds) (M : MS B m n) (s : Same B H) : RoAll K H (offM H m) vs ds := by
  refine RoAll.keep TK.refl (fun a o _ _ z => z) (fun a o z _ q => ⟨fun w => ?_, fun w => ?_⟩) ds vs h0
  · exact M.mne q w.symm
  · exact noLf_same M s (M.notLf q) w
/-- a list that is not among the state of the draws -/
theorem lst_ef {p : Addr} {xs : List V} (h : H p = some (.lst xs)) (M : MS H m n) (q : offM H m p) (e : Ef m H H') : H' p = some (.lst xs) ∧ offM H' m p := by
  obtain ⟨a, b⟩ := e.lst M h q.2
  exact ⟨a, q.1, b⟩
theorem off_ex {p : Addr} (M : MS H m n) (q : offM H m p) (e : ExtN H H') : offM H' m p := ⟨q.1, fun w => q.2 (by
  obtain ⟨c, l, M⟩ := M
  obtain ⟨kvs, kk, h1, h2⟩ := w
  rw [e _ _ M.dk (fun ps z => by cases z)] at h1
  cases h1
  exact ⟨_, kk, M.dk, h2⟩)⟩
theorem off_sm {p : Addr} (M : MS H m n) (q : offM H m p) (s : Same H H') : offM H' m p := ⟨q.1, noLf_same M s q.2⟩
theorem off_free {p : Addr} (M : MS B m n) (s : Same B H) (hp : B p = none) : offM H m p := ⟨(M.mne hp).symm, noLf_same M s (M.notLf hp)⟩
theorem pickRo {vs : List V} {ds : List Th} {ok : Addr → Prop} {r : Int} (h : RoAll K H ok vs ds) (h0 : 0 ≤ r) (h1 : r < ((ds.length : Nat) : Int)) : ∃ x e, atI vs r = some x ∧ e ∈ ds ∧ Ro K H ok x e := by
  have hl := h.len
  have hr : r.toNat < vs.length := by omega
  obtain ⟨e, he, hR⟩ := h.get (List.getElem?_eq_getElem hr)
  exact ⟨_, e, at_of (j := r.toNat) (by omega) (List.getElem?_eq_getElem hr), List.mem_of_getElem? he, hR⟩
end
/-! ### written things -/
/-- te makes a thing d; B: the heap ahead of it -/
def Mk (K : PySem.W.Frag) (B : Hp) (te : TE) (σ : L2.St) (d : Th) : Prop := ∀ (H : Hp) (Q : VK), Same B H → (∀ v H', Same H H' → Ro K H' (fun a => B a = none) v d → Q v H') → te σ H Q
def MkL (K : PySem.W.Frag) (B : Hp) (t : TA) (σ : L2.St) (ds : List Th) : Prop := ∀ (H : Hp) (Q : List V → Hp → Prop), Same B H → (∀ vs H', Same H H' → RoAll K H' (fun a => B a = none) vs ds → Q vs H') → t σ H Q
section
variable {K : PySem.W.Frag} {B : Hp} {σ : L2.St} {te : TE} {t : TA} {d : Th} {ds : List Th}
theorem mk_int (i : Int) : Mk K B (tC (.int i)) σ (.int i) := fun H Q _ k => k _ H (Same.refl H) (.int i)
theorem mk_neg (i : Int) : Mk K B (tUn (rU fun i => .int (-i)) (tC (.int i))) σ (.int (-i)) := fun H Q _ k => ⟨i, rfl, k _ H (Same.refl H) (.int (-i))⟩
theorem mk_val {i : Int} (h : ∀ H Q, Q (.int i) H → te σ H Q) : Mk K B te σ (.int i) := fun H Q _ k => h H Q (k _ H (Same.refl H) (.int i))
theorem mk_str (s : Str) : Mk K B (tC (.str s)) σ (.str s) := fun H Q _ k => k _ H (Same.refl H) (.str s)
theorem mk_bl (b : Bool) : Mk K B (tC (.bl b)) σ (.bl b) := fun H Q _ k => k _ H (Same.refl H) (.bl b)
theorem mk_non : Mk K B (tC .non) σ .non := fun H Q _ k => k _ H (Same.refl H) .non
theorem mk_var {i : Nat} {z : Int} (h : σ[i]? = some (some (.int z))) : Mk K B (tVar i) σ (.int z) := fun H Q _ k => ⟨_, h, k _ H (Same.refl H) (.int z)⟩
theorem mkl_nil : MkL K B tNil σ [] := fun H Q _ k => k _ H (Same.refl H) .nil
theorem mkl_cons (h : Mk K B te σ d) (r : MkL K B t σ ds) : MkL K B (tCons te t) σ (d :: ds) := fun H Q b k => h H _ b fun v H1 s1 hv => r H1 _ (b.trans s1) fun vs H2 s2 hvs => k _ H2 (s1.trans s2) (.cons (hv.same s2) hvs)
theorem mk_tup (h : MkL K B t σ ds) (hz : ds.length ≤ 1000) : Mk K B (tTup t) σ (.tup ds) := fun H Q b k => h H _ b fun vs H1 s1 hvs => ⟨by rw [hvs.len]; exact Nat.le_of_lt (small1000 hz), fun p hp => k _ _ (s1.trans (same_upd hp _)) (.tup (SqT.of upd_same) (hvs.same (same_upd hp _)))⟩
theorem mk_lst (h : MkL K B t σ ds) (hz : ds.length ≤ 1000) : Mk K B (tLst t) σ .lst := fun H Q b k => h H _ b fun vs H1 s1 hvs => ⟨by rw [hvs.len]; exact Nat.le_of_lt (small1000 hz), fun p hp => k _ _ (s1.trans (same_upd hp _)) (.lst upd_same ((b.trans s1).free hp))⟩
theorem mk_dct : Mk K B tDNewK σ .dct := fun H Q b k p hp => k _ _ (same_upd hp _) (.dct upd_same (b.free hp))
/-- a list of such things -/
theorem mk_row (h : MkL K B t σ ds) (hz : ds.length ≤ 1000) {H : Hp} {Q : VK} (b : Same B H) (k : ∀ p vs H', Same H H' → H' p = some (.lst vs) → B p = none → RoAll K H' (fun a => B a = none) vs ds → Q (.ref p) H') : tLst t σ H Q :=
  h H _ b fun vs H1 s1 hvs => ⟨by rw [hvs.len]; exact Nat.le_of_lt (small1000 hz), fun p hp => k _ vs _ (s1.trans (same_upd hp _)) upd_same ((b.trans s1).free hp) (hvs.same (same_upd hp _))⟩
variable {g : TG} {u : TS} {D : Ends} {H : Hp}
theorem seq_row (h : MkL K H t σ ds) (hz : ds.length ≤ 1000) (k : ∀ p vs H', Same H H' → H' p = some (.lst vs) → H p = none → RoAll K H' (fun a => H a = none) vs ds → g (.ref p) σ H' (u D)) : tSeq (tAsg (tLst t) g) u D σ H :=
  mk_row (Q := fun x H' => g x σ H' (u D)) h hz (Same.refl H) k
theorem seq_more {i : Nat} {p : Addr} {vs : List V} {es : List Th} (hi : σ[i]? = some (some (.ref p))) (hp : H p = some (.lst vs)) (R : RoAll K H (fun a => B a = none) vs es) (b : Same B H) (h : MkL K B t σ ds) (hz : es.length + ds.length ≤ 1000)
    (k : ∀ p vs H', Same H H' → H' p = some (.lst vs) → B p = none → RoAll K H' (fun a => B a = none) vs (es ++ ds) → g (.ref p) σ H' (u D)) : tSeq (tAsg (tOp rCat (tVar i) (tLst t)) g) u D σ H := by
  refine ⟨_, hi, mk_row (Q := fun y H2 => rCat (.ref p) y H2 fun x H' => g x σ H' (u D)) h (by omega) b fun q us G s hq fq S => ?_⟩
  have l1 := R.len
  have l2 := S.len
  refine ⟨p, q, _, _, rfl, rfl, s _ _ hp, hq, by rw [l1, l2]; exact Nat.le_of_lt (small1000 hz), fun p' fp => ?_⟩
  have y := same_upd fp (.lst (vs ++ us))
  exact k p' _ _ (s.trans y) upd_same ((b.trans s).free fp) ((R.same (s.trans y)).app (S.same y))
/-- name = [..][next(m, many)] -/
theorem seq_pick {m : Addr} {n : Nat} {many : Int} (hm : σ[1]? = some (some (.ref m))) (h : MkL K H t σ ds) (hz : ds.length ≤ 1000) (hl : many = ((ds.length : Nat) : Int)) (h1 : 1 ≤ ds.length) (M : MS H m n) (hn : n < 2 ^ 40)
    (k : ∀ x d H' n', d ∈ ds → Ro K H' (offM H' m) x d → MS H' m n' → n' ≤ n + 1 → Ef m H H' → g x σ H' (u D)) : tSeq (tAsg (tOp (rIxL K) (tLst t) (tCall (sp__law_next K) [] E0 (tCons (tVar 1) (tCons (tC (.int many)) tNil)))) g) u D σ H := by
  refine mk_row (Q := fun x H1 => tCall (sp__law_next K) [] E0 (tCons (tVar 1) (tCons (tC (.int many)) tNil)) σ H1 fun y H2 => rIxL K x y H2 fun x H1 => g x σ H1 (u D)) h hz (Same.refl H) fun p vs H1 s1 hp fp R => ?_
  have M1 := M.same s1
  refine ⟨_, hm, m, many, n, rfl, M1, by omega, by rw [hl]; exact Int.le_trans (Int.ofNat_le.mpr hz) (by decide), hn, fun r n' H2 r0 r1 hn' M2 e2 => ?_⟩
  obtain ⟨hp2, _⟩ := lst_ef hp M1 (off_free M s1 fp) e2
  obtain ⟨x, d, hx, hd, rx⟩ := pickRo ((R.off M s1).ef M1 e2) r0 (by rw [← hl]; exact r1)
  exact ⟨p, vs, r, x, rfl, rfl, SqL.of hp2, hx, k x d H2 n' hd rx M2 hn' ((Ef.ofSame M s1).trans e2)⟩
end
end My

/-! Data as things of many kinds. -/
namespace My
open PySem PySem.Spec PyProof.Rows L2 LamX
def thD : PyData → Th
  | .int i => .int i
  | .bool b => .bl b
  | .str s => .str s
  | .none => .non
  | .list _ => .lst
  | .dict _ => .dct
  | .tuple ds => .tup (go ds)
where go : List PyData → List Th
  | [] => []
  | d :: r => thD d :: go r
theorem thD_go : ∀ ds : List PyData, thD.go ds = ds.map thD
  | [] => rfl
  | d :: r => by
    show thD d :: thD.go r = _
    rw [thD_go r]
    rfl
theorem thD_tup (ds : List PyData) : thD (.tuple ds) = .tup (ds.map thD) := by
  show Th.tup (thD.go ds) = _
  rw [thD_go]
section
variable {K : PySem.W.Frag} {H : Hp} {ok : Addr → Prop}
mutual
theorem Dp.ro : ∀ (d : PyData) (v : V), tupOnly d = true → Dp K H v d → Ro K H ok v (thD d)
  | .none, _, _, h => by cases h; exact .non
  | .bool b, _, _, h => by cases h; exact .bl b
  | .int i, _, _, h => by cases h; exact .int i
  | .str x, _, _, h => by cases h; exact .str x
  | .list _, _, t, _ => by cases t
  | .dict _, _, t, _ => by cases t
  | .tuple ds, _, t, h => by
    cases h with
    | tup hs ha => exact .tup hs (DpAll.ro ds _ t ha)
theorem DpAll.ro : ∀ (ds : List PyData) (vs : List V), tupOnly.go ds = true → DpAll K H vs ds → RoAll K H ok vs (thD.go ds)
  | [], _, _, h => by cases h; exact .nil
  | d :: r, _, t, h => by
    cases h with
    | cons h1 h2 =>
      have t' := Bool.and_eq_true_iff.mp t
      exact .cons (Dp.ro d _ t'.1 h1) (DpAll.ro r _ t'.2 h2)
end
theorem Dp.rtD {d : PyData} {v : V} (t : tupOnly d = true) (h : Dp K H v d) : Rt K H v (thD d) := Ro.rt _ _ (Dp.ro (ok := fun _ => True) d v t h)
end
section
variable {K : PySem.W.Frag} {B : Hp} {σ : L2.St} {te : TE} {d : PyData}
theorem mk_dp (t : tupOnly d = true) (h : ∀ H Q, Same B H → (∀ v H', Same H H' → Dp K H' v d → Q v H') → te σ H Q) : Mk K B te σ (thD d) := fun H Q b k =>
  h H Q b fun v H' s hv => k v H' s (Dp.ro d v t hv)
/-- the elements of a tuple as a list -/
theorem mk_listof {i : Nat} {v : V} {ds : List PyData} (hi : σ[i]? = some (some v)) (hv : Dp K B v (.tuple ds)) : Mk K B (tCB (Evl.rListS K) (tCons (tVar i) tNil)) σ .lst := fun H Q b k => by
  obtain ⟨a, xs, rfl, hT, _⟩ := (hv.same_at b).tuple
  exact ⟨_, hi, a, xs, rfl, .inr hT, fun l hl => k _ _ (same_upd hl _) (.lst upd_same (b.free hl))⟩
end
theorem th_rep (d : PyData) (n : Nat) : thD (.tuple (List.replicate n d)) = .tup (List.replicate n (thD d)) := by
  rw [thD_tup, List.map_replicate]
theorem to_rep {d : PyData} (h : tupOnly d = true) : ∀ n : Nat, tupOnly.go (List.replicate n d) = true
  | 0 => rfl
  | n + 1 => by
    rw [List.replicate_succ]
    show (tupOnly d && tupOnly.go (List.replicate n d)) = true
    rw [h, to_rep h n]
    rfl
theorem to_app : ∀ {ds es : List PyData}, tupOnly.go ds = true → tupOnly.go es = true → tupOnly.go (ds ++ es) = true
  | [], _, _, h => h
  | d :: r, es, h1, h2 => by
    have t' := Bool.and_eq_true_iff.mp h1
    show (tupOnly d && tupOnly.go (r ++ es)) = true
    rw [t'.1, to_app t'.2 h2]
    rfl
theorem min_of (b z : Int) (h : 0 ≤ z) (hb : 0 ≤ b) : 0 ≤ (if b < z then b else z) ∧ (if b < z then b else z) ≤ b := by
  split <;> omega
end My

/-! Data with lists that last while numbers are drawn. -/
namespace My
open PySem PySem.Spec PyProof.Rows L2 LamX
mutual
/-- v is the datum d; its lists lie at allowed places -/
inductive Dq (K : PySem.W.Frag) (H : Hp) (ok : Addr → Prop) : V → PyData → Prop
  | non : Dq K H ok .non .none
  | bl (b : Bool) : Dq K H ok (.bl b) (.bool b)
  | int (i : Int) : Dq K H ok (.int i) (.int i)
  | str (s : Str) : Dq K H ok (.str s) (.str s)
  | lst {a : Addr} {xs : List V} {ds : List PyData} (h : H a = some (.lst xs)) (ho : ok a) (hx : DqAll K H ok xs ds) : Dq K H ok (.ref a) (.list ds)
  | tup {a : Addr} {xs : List V} {ds : List PyData} (h : SqT K H a xs) (hx : DqAll K H ok xs ds) : Dq K H ok (.ref a) (.tuple ds)
inductive DqAll (K : PySem.W.Frag) (H : Hp) (ok : Addr → Prop) : List V → List PyData → Prop
  | nil : DqAll K H ok [] []
  | cons {v : V} {vs : List V} {d : PyData} {ds : List PyData} (h : Dq K H ok v d) (r : DqAll K H ok vs ds) : DqAll K H ok (v :: vs) (d :: ds)
end
section
variable {K : PySem.W.Frag} {H H' : Hp} {ok ok' : Addr → Prop}
mutual
theorem Dq.keep (tk : TK K H H') (kp : ∀ a xs, ok a → H a = some (.lst xs) → H' a = some (.lst xs)) (oo : ∀ a xs, H a = some (.lst xs) → ok a → ok' a) : ∀ (d : PyData) (v : V), Dq K H ok v d → Dq K H' ok' v d
  | .none, _, h => by cases h; exact .non
  | .bool b, _, h => by cases h; exact .bl b
  | .int i, _, h => by cases h; exact .int i
  | .str x, _, h => by cases h; exact .str x
  | .dict _, _, h => by cases h
  | .list ds, _, h => by
    cases h with
    | lst h ho hx => exact .lst (kp _ _ ho h) (oo _ _ h ho) (DqAll.keep tk kp oo ds _ hx)
  | .tuple ds, _, h => by
    cases h with
    | tup h hx => exact .tup (tk _ _ h) (DqAll.keep tk kp oo ds _ hx)
theorem DqAll.keep (tk : TK K H H') (kp : ∀ a xs, ok a → H a = some (.lst xs) → H' a = some (.lst xs)) (oo : ∀ a xs, H a = some (.lst xs) → ok a → ok' a) : ∀ (ds : List PyData) (vs : List V), DqAll K H ok vs ds → DqAll K H' ok' vs ds
  | [], _, h => by cases h; exact .nil
  | d :: r, _, h => by
    cases h with
    | cons h1 h2 => exact .cons (Dq.keep tk kp oo d _ h1) (DqAll.keep tk kp oo r _ h2)
end
theorem Dq.sm {v : V} {d : PyData} (h : Dq K H ok v d) (s : Same H H') : Dq K H' ok v d := Dq.keep (Same.tk s) (fun a o _ q => s a _ q) (fun _ _ _ q => q) d v h
theorem DqAll.sm {vs : List V} {ds : List PyData} (h : DqAll K H ok vs ds) (s : Same H H') : DqAll K H' ok vs ds := DqAll.keep (Same.tk s) (fun a o _ q => s a _ q) (fun _ _ _ q => q) ds vs h
theorem Dq.re (oo : ∀ a xs, H a = some (.lst xs) → ok a → ok' a) {v : V} {d : PyData} (h : Dq K H ok v d) : Dq K H ok' v d := Dq.keep TK.refl (fun _ _ _ q => q) oo d v h
theorem DqAll.re (oo : ∀ a xs, H a = some (.lst xs) → ok a → ok' a) {vs : List V} {ds : List PyData} (h : DqAll K H ok vs ds) : DqAll K H ok' vs ds := DqAll.keep TK.refl (fun _ _ _ q => q) oo ds vs h
mutual
theorem Dq.dp : ∀ (d : PyData) (v : V), Dq K H ok v d → Dp K H v d
  | .none, _, h => by cases h; exact .non
  | .bool b, _, h => by cases h; exact .bl b
  | .int i, _, h => by cases h; exact .int i
  | .str x, _, h => by cases h; exact .str x
  | .dict _, _, h => by cases h
  | .list ds, _, h => by
    cases h with
    | lst h _ hx => exact .lst (SqL.of h) (DqAll.dp ds _ hx)
  | .tuple ds, _, h => by
    cases h with
    | tup h hx => exact .tup h (DqAll.dp ds _ hx)
theorem DqAll.dp : ∀ (ds : List PyData) (vs : List V), DqAll K H ok vs ds → DpAll K H vs ds
  | [], _, h => by cases h; exact .nil
  | d :: r, _, h => by
    cases h with
    | cons h1 h2 => exact .cons (Dq.dp d _ h1) (DqAll.dp r _ h2)
end
mutual
theorem Dq.rt : ∀ (d : PyData) (v : V), Dq K H ok v d → Rt K H v (thD d)
  | .none, _, h => by cases h; exact .non
  | .bool b, _, h => by cases h; exact .bl b
  | .int i, _, h => by cases h; exact .int i
  | .str x, _, h => by cases h; exact .str x
  | .dict _, _, h => by cases h
  | .list ds, _, h => by
    cases h with
    | lst h _ _ => exact .lst h
  | .tuple ds, _, h => by
    cases h with
    | tup h hx => exact .tup h (DqAll.rt ds _ hx)
theorem DqAll.rt : ∀ (ds : List PyData) (vs : List V), DqAll K H ok vs ds → RtAll K H vs (thD.go ds)
  | [], _, h => by cases h; exact .nil
  | d :: r, _, h => by
    cases h with
    | cons h1 h2 => exact .cons (Dq.rt d _ h1) (DqAll.rt r _ h2)
end
mutual
theorem Dp.dq : ∀ (d : PyData) (v : V), tupOnly d = true → Dp K H v d → Dq K H ok v d
  | .none, _, _, h => by cases h; exact .non
  | .bool b, _, _, h => by cases h; exact .bl b
  | .int i, _, _, h => by cases h; exact .int i
  | .str x, _, _, h => by cases h; exact .str x
  | .list _, _, t, _ => by cases t
  | .dict _, _, t, _ => by cases t
  | .tuple ds, _, t, h => by
    cases h with
    | tup hs ha => exact .tup hs (DpAll.dq ds _ t ha)
theorem DpAll.dq : ∀ (ds : List PyData) (vs : List V), tupOnly.go ds = true → DpAll K H vs ds → DqAll K H ok vs ds
  | [], _, _, h => by cases h; exact .nil
  | d :: r, _, t, h => by
    cases h with
    | cons h1 h2 =>
      have t' := Bool.and_eq_true_iff.mp t
      exact .cons (Dp.dq d _ t'.1 h1) (DpAll.dq r _ t'.2 h2)
end
theorem DqAll.len : ∀ {vs : List V} {ds : List PyData}, DqAll K H ok vs ds → vs.length = ds.length
  | _, _, .nil => rfl
  | _, _, .cons _ h => by simp [DqAll.len h]
theorem DqAll.get : ∀ {vs : List V} {ds : List PyData} {i : Nat} {v : V}, DqAll K H ok vs ds → vs[i]? = some v → ∃ d, ds[i]? = some d ∧ Dq K H ok v d
  | _, _, _, _, .nil, h => by cases h
  | _, _, 0, _, .cons h1 _, h => by
    cases h
    exact ⟨_, rfl, h1⟩
  | _, _, i + 1, _, .cons _ h2, h => DqAll.get (i := i) h2 h
theorem DqAll.app : ∀ {vs us : List V} {ds es : List PyData}, DqAll K H ok vs ds → DqAll K H ok us es → DqAll K H ok (vs ++ us) (ds ++ es)
  | _, _, _, _, .nil, h => h
  | _, _, _, _, .cons h1 h2, h => .cons h1 (DqAll.app h2 h)
theorem DqAll.drop : ∀ {vs : List V} {ds : List PyData} (n : Nat), DqAll K H ok vs ds → DqAll K H ok (vs.drop n) (ds.drop n)
  | _, _, 0, h => h
  | _, _, n + 1, .nil => .nil
  | _, _, n + 1, .cons _ h => DqAll.drop n h
theorem DqAll.take : ∀ {vs : List V} {ds : List PyData} (n : Nat), DqAll K H ok vs ds → DqAll K H ok (vs.take n) (ds.take n)
  | _, _, 0, _ => .nil
  | _, _, n + 1, .nil => .nil
  | _, _, n + 1, .cons h1 h => .cons h1 (DqAll.take n h)
theorem Dq.tuple {v : V} {ds : List PyData} (h : Dq K H ok v (.tuple ds)) : ∃ a xs, v = .ref a ∧ SqT K H a xs ∧ DqAll K H ok xs ds := by
  cases h with
  | tup h1 h2 => exact ⟨_, _, rfl, h1, h2⟩
theorem Dq.list {v : V} {ds : List PyData} (h : Dq K H ok v (.list ds)) : ∃ a xs, v = .ref a ∧ H a = some (.lst xs) ∧ ok a ∧ DqAll K H ok xs ds := by
  cases h with
  | lst h1 h2 h3 => exact ⟨_, _, rfl, h1, h2, h3⟩
theorem rd_cutQ {v : V} {ds : List PyData} {lo hi : Option Int} {Q : VK} (h : Dq K H ok v (.tuple ds))
    (k : ∀ w H', Same H H' → Dq K H' ok w (.tuple (L2.cutD ds lo hi)) → Q w H') : rSlA K v lo hi H Q := by
  obtain ⟨a, xs, rfl, hT, hX⟩ := h.tuple
  have hl := hX.len
  have hc : DqAll K H ok (cutV xs lo hi) (L2.cutD ds lo hi) := by
    unfold cutV L2.cutD
    rw [← hl]
    exact (hX.drop _).take _
  refine ⟨a, xs, rfl, hT, fun w => ?_, fun _ p hp => ?_⟩
  · refine k _ H (Same.refl H) (.tup hT ?_)
    have e : cutV xs lo hi = xs := by
      unfold cutV
      rw [w.1, w.2, List.drop_zero, Nat.sub_zero, List.take_length]
    rw [e] at hc
    exact hc
  · exact k _ _ (same_upd hp _) (.tup (SqT.of upd_same) (hc.sm (same_upd hp _)))
theorem rd_catQ {v u : V} {ds es : List PyData} {Q : VK} (h1 : Dq K H ok v (.tuple ds)) (h2 : Dq K H ok u (.tuple es)) (hz : ds.length + es.length ≤ sizeLine)
    (k : ∀ w H', Same H H' → Dq K H' ok w (.tuple (ds ++ es)) → Q w H') : rCatA K v u H Q := by
  obtain ⟨a, xs, rfl, hT, hX⟩ := h1.tuple
  obtain ⟨b, ys, rfl, hU, hY⟩ := h2.tuple
  have l1 := hX.len
  have l2 := hY.len
  refine ⟨a, b, xs, ys, rfl, rfl, hT, hU, by rw [l1, l2]; exact hz, fun e => ?_, fun _ e => ?_, fun _ _ p hp => ?_⟩
  · subst e
    cases hX
    exact k _ H (Same.refl H) (.tup hU hY)
  · subst e
    cases hY
    rw [List.append_nil] at k
    exact k _ H (Same.refl H) (.tup hT hX)
  · exact k _ _ (same_upd hp _) (.tup (SqT.of upd_same) ((hX.app hY).sm (same_upd hp _)))
end
/-- not among the state of the draws, and not p -/
def offP (H : Hp) (m p a : Addr) : Prop := offM H m a ∧ a ≠ p
/-- the place p is taken -/
def Pin (H : Hp) (m p : Addr) : Prop := p = m ∨ ((∃ xs, H p = some (.lst xs)) ∧ offM H m p)
section
variable {K : PySem.W.Frag} {B H H' : Hp} {m p : Addr} {n : Nat} {v : V} {d : PyData}
theorem Pin.sm (h : Pin H m p) (M : MS H m n) (s : Same H H') : Pin H' m p := by
  rcases h with e | ⟨⟨xs, h⟩, o⟩
  · exact .inl e
  · exact .inr ⟨⟨xs, s _ _ h⟩, off_sm M o s⟩
theorem Pin.ef (h : Pin H m p) (M : MS H m n) (e : Ef m H H') : Pin H' m p := by
  rcases h with z | ⟨⟨xs, h⟩, o⟩
  · exact .inl z
  · obtain ⟨a, b⟩ := lst_ef h M o e
    exact .inr ⟨⟨xs, a⟩, b⟩
theorem Pin.ne (h : Pin H m p) (M : MS H m n) {a : Addr} (ha : H a = none) : a ≠ p := by
  rcases h with z | ⟨⟨xs, h⟩, o⟩
  · rw [z]
    exact (M.mne ha).symm
  · exact fun w => by
      rw [w, h] at ha
      cases ha
theorem offP_sm {a : Addr} (M : MS H m n) (q : offP H m p a) (s : Same H H') : offP H' m p a := ⟨off_sm M q.1 s, q.2⟩
theorem offP_free {a : Addr} (M : MS B m n) (P : Pin B m p) (s : Same B H) (ha : B a = none) : offP H m p a := ⟨off_free M s ha, P.ne M ha⟩
theorem ok_ex (M : MS H m n) (e : ExtN H H') : ∀ a (xs : List V), H a = some (.lst xs) → offP H m p a → offP H' m p a := fun a _ _ q => ⟨off_ex M q.1 e, q.2⟩
theorem ok_ef (M : MS H m n) (e : Ef m H H') : ∀ a (xs : List V), H a = some (.lst xs) → offP H m p a → offP H' m p a := fun a _ z q => ⟨⟨q.1.1, fun w => by
  rcases e.new a w with r | r
  · exact q.1.2 r
  · rw [z] at r
    cases r⟩, q.2⟩
theorem ok_sm (M : MS H m n) (s : Same H H') : ∀ a (xs : List V), H a = some (.lst xs) → offP H m p a → offP H' m p a := fun a _ _ q => offP_sm M q s
theorem Dq.ef (h : Dq K H (offP H m p) v d) (M : MS H m n) (e : Ef m H H') : Dq K H' (offP H' m p) v d :=
  Dq.keep (e.tk M) (fun a xs q z => e.keep a _ z q.1.1 q.1.2) (ok_ef M e) d v h
theorem Dq.smM (h : Dq K H (offP H m p) v d) (M : MS H m n) (s : Same H H') : Dq K H' (offP H' m p) v d :=
  Dq.keep (Same.tk s) (fun a o _ z => s a _ z) (ok_sm M s) d v h
theorem Dq.ex (h : Dq K H (offP H m p) v d) (M : MS H m n) (e : ExtN H H') : Dq K H' (offP H' m p) v d :=
  Dq.keep (ExtN.tk e) (fun a o _ z => e a _ z (fun ps w => by cases w)) (ok_ex M e) d v h
theorem DqAll.ef {vs : List V} {ds : List PyData} (h : DqAll K H (offP H m p) vs ds) (M : MS H m n) (e : Ef m H H') : DqAll K H' (offP H' m p) vs ds :=
  DqAll.keep (e.tk M) (fun a xs q z => e.keep a _ z q.1.1 q.1.2) (ok_ef M e) ds vs h
theorem DqAll.smM {vs : List V} {ds : List PyData} (h : DqAll K H (offP H m p) vs ds) (M : MS H m n) (s : Same H H') : DqAll K H' (offP H' m p) vs ds :=
  DqAll.keep (Same.tk s) (fun a o _ z => s a _ z) (ok_sm M s) ds vs h
theorem DqAll.ex {vs : List V} {ds : List PyData} (h : DqAll K H (offP H m p) vs ds) (M : MS H m n) (e : ExtN H H') : DqAll K H' (offP H' m p) vs ds :=
  DqAll.keep (ExtN.tk e) (fun a o _ z => e a _ z (fun ps w => by cases w)) (ok_ex M e) ds vs h
/-- p is new -/
theorem Dq.toP {q : Addr} (h : Dq K H (offP H m q) v d) (hp : H p = none) : Dq K H (offP H m p) v d := h.re fun a _ ha z => ⟨z.1, ne_of_none ha hp⟩
/-- something is added to the list at p -/
theorem DqAll.upd {vs : List V} {ds : List PyData} {xs ys : List V} (h : DqAll K H (offP H m p) vs ds) (M : MS H m n) (hp : H p = some (.lst xs)) : DqAll K (L2.upd H p (.lst ys)) (offP (L2.upd H p (.lst ys)) m p) vs ds :=
  DqAll.keep (tk_upd hp) (fun a o q z => by rw [upd_ne q.2]; exact z) (fun a o z q => ⟨⟨q.1.1, fun w => q.1.2 (w.upd (M.mneL hp))⟩, q.2⟩) ds vs h
theorem Dq.any {ok : Addr → Prop} (h : Dq K H ok v d) : Dq K H (fun _ => True) v d := h.re fun _ _ _ _ => trivial
theorem pickQ {vs : List V} {ds : List PyData} {ok : Addr → Prop} {r : Int} (h : DqAll K H ok vs ds) (h0 : 0 ≤ r) (h1 : r < ((ds.length : Nat) : Int)) : ∃ x e, atI vs r = some x ∧ e ∈ ds ∧ Dq K H ok x e := by
  have hl := h.len
  have hr : r.toNat < vs.length := by omega
  obtain ⟨e, he, hR⟩ := h.get (List.getElem?_eq_getElem hr)
  exact ⟨_, e, at_of (j := r.toNat) (by omega) (List.getElem?_eq_getElem hr), List.mem_of_getElem? he, hR⟩
end
/-! ### written data -/
/-- te makes the datum d, with lists at allowed places; B: the heap ahead of it -/
def Mq (K : PySem.W.Frag) (B : Hp) (ok : Addr → Prop) (te : TE) (σ : L2.St) (d : PyData) : Prop := ∀ (H : Hp) (Q : VK), Same B H → (∀ v H', Same H H' → Dq K H' ok v d → Q v H') → te σ H Q
def MqL (K : PySem.W.Frag) (B : Hp) (ok : Addr → Prop) (t : TA) (σ : L2.St) (ds : List PyData) : Prop := ∀ (H : Hp) (Q : List V → Hp → Prop), Same B H → (∀ vs H', Same H H' → DqAll K H' ok vs ds → Q vs H') → t σ H Q
section
variable {K : PySem.W.Frag} {B : Hp} {ok : Addr → Prop} {σ : L2.St} {te : TE} {t : TA} {d : PyData} {ds : List PyData}
theorem mq_int (i : Int) : Mq K B ok (tC (.int i)) σ (.int i) := fun H Q _ k => k _ H (Same.refl H) (.int i)
theorem mq_neg (i : Int) : Mq K B ok (tUn (rU fun i => .int (-i)) (tC (.int i))) σ (.int (-i)) := fun H Q _ k => ⟨i, rfl, k _ H (Same.refl H) (.int (-i))⟩
theorem mq_val {i : Int} (h : ∀ H Q, Q (.int i) H → te σ H Q) : Mq K B ok te σ (.int i) := fun H Q _ k => h H Q (k _ H (Same.refl H) (.int i))
theorem mq_str (s : Str) : Mq K B ok (tC (.str s)) σ (.str s) := fun H Q _ k => k _ H (Same.refl H) (.str s)
theorem mq_bl (b : Bool) : Mq K B ok (tC (.bl b)) σ (.bool b) := fun H Q _ k => k _ H (Same.refl H) (.bl b)
theorem mq_non : Mq K B ok (tC .non) σ .none := fun H Q _ k => k _ H (Same.refl H) .non
/-- a variable -/
theorem mq_at {i : Nat} {v : V} (h : σ[i]? = some (some v)) (hv : Dq K B ok v d) : Mq K B ok (tVar i) σ d := fun H Q b k => ⟨v, h, k v H (Same.refl H) (hv.sm b)⟩
theorem mql_nil : MqL K B ok tNil σ [] := fun H Q _ k => k _ H (Same.refl H) .nil
theorem mql_cons (h : Mq K B ok te σ d) (r : MqL K B ok t σ ds) : MqL K B ok (tCons te t) σ (d :: ds) := fun H Q b k => h H _ b fun v H1 s1 hv => r H1 _ (b.trans s1) fun vs H2 s2 hvs => k _ H2 (s1.trans s2) (.cons (hv.sm s2) hvs)
theorem mq_tup (h : MqL K B ok t σ ds) (hz : ds.length ≤ 1000) : Mq K B ok (tTup t) σ (.tuple ds) := fun H Q b k => h H _ b fun vs H1 s1 hvs => ⟨by rw [hvs.len]; exact Nat.le_of_lt (small1000 hz), fun p hp => k _ _ (s1.trans (same_upd hp _)) (.tup (SqT.of upd_same) (hvs.sm (same_upd hp _)))⟩
theorem mq_lst (fr : ∀ a, B a = none → ok a) (h : MqL K B ok t σ ds) (hz : ds.length ≤ 1000) : Mq K B ok (tLst t) σ (.list ds) := fun H Q b k => h H _ b fun vs H1 s1 hvs => ⟨by rw [hvs.len]; exact Nat.le_of_lt (small1000 hz), fun p hp => k _ _ (s1.trans (same_upd hp _)) (.lst upd_same (fr _ ((b.trans s1).free hp)) (hvs.sm (same_upd hp _)))⟩
/-- the elements of a tuple as a list -/
theorem mq_listof (fr : ∀ a, B a = none → ok a) {i : Nat} {v : V} (hi : σ[i]? = some (some v)) (hv : Dq K B ok v (.tuple ds)) : Mq K B ok (tCB (Evl.rListS K) (tCons (tVar i) tNil)) σ (.list ds) := fun H Q b k => by
  obtain ⟨a, xs, rfl, hT, hX⟩ := (hv.sm b).tuple
  exact ⟨_, hi, a, xs, rfl, .inr hT, fun l hl => k _ _ (same_upd hl _) (.lst upd_same (fr _ (b.free hl)) (hX.sm (same_upd hl _)))⟩
/-- two tuples as one -/
theorem mq_cat {te2 : TE} {es : List PyData} (h1 : Mq K B ok te σ (.tuple ds)) (h2 : Mq K B ok te2 σ (.tuple es)) (hz : ds.length + es.length ≤ 1000) : Mq K B ok (tOp (rCatA K) te te2) σ (.tuple (ds ++ es)) := fun H Q b k =>
  h1 H _ b fun v H1 s1 hv => h2 H1 _ (b.trans s1) fun u H2 s2 hu => rd_catQ (hv.sm s2) hu (Nat.le_of_lt (small1000 hz)) fun w H3 s3 hw => k w H3 (s1.trans (s2.trans s3)) hw
variable {g : TG} {u : TS} {D : Ends} {H : Hp}
theorem seq_rowQ (h : MqL K H ok t σ ds) (hz : ds.length ≤ 1000) (k : ∀ p vs H', Same H H' → H' p = some (.lst vs) → H p = none → DqAll K H' ok vs ds → g (.ref p) σ H' (u D)) : tSeq (tAsg (tLst t) g) u D σ H :=
  h H _ (Same.refl H) fun vs H1 s1 hvs => ⟨by rw [hvs.len]; exact Nat.le_of_lt (small1000 hz), fun p hp => k _ vs _ (s1.trans (same_upd hp _)) upd_same (s1.free hp) (hvs.sm (same_upd hp _))⟩
theorem seq_moreQ {i : Nat} {p : Addr} {vs : List V} {es : List PyData} (hi : σ[i]? = some (some (.ref p))) (hp : H p = some (.lst vs)) (R : DqAll K H ok vs es) (h : MqL K H ok t σ ds) (hz : es.length + ds.length ≤ 1000)
    (k : ∀ p vs H', Same H H' → H' p = some (.lst vs) → H p = none → DqAll K H' ok vs (es ++ ds) → g (.ref p) σ H' (u D)) : tSeq (tAsg (tOp rCat (tVar i) (tLst t)) g) u D σ H := by
  refine ⟨_, hi, h H _ (Same.refl H) fun us G s S => ?_⟩
  have l1 := R.len
  have l2 := S.len
  refine ⟨by rw [l2]; exact Nat.le_of_lt (small1000 (by omega)), fun q hq => ?_⟩
  have y1 := same_upd hq (.lst us)
  refine ⟨p, q, _, _, rfl, rfl, (s.trans y1) _ _ hp, upd_same, by rw [l1, l2]; exact Nat.le_of_lt (small1000 hz), fun p' fp => ?_⟩
  have y := same_upd fp (.lst (vs ++ us))
  exact k p' _ _ (s.trans (y1.trans y)) upd_same ((s.trans y1).free fp) ((R.sm (s.trans (y1.trans y))).app (S.sm (y1.trans y)))
end
theorem cut_suf (xs : List PyData) (c : Nat) : L2.cutD xs (some (c : Int)) none = xs.drop c := by
  by_cases h : c ≤ xs.length
  · exact cutD_suf xs h
  · unfold L2.cutD
    rw [HT.sIx_nat, Nat.min_eq_right (by omega)]
    rw [List.drop_eq_nil_of_le (Nat.le_refl _), List.drop_eq_nil_of_le (by omega), List.take_nil]
section
variable {K : PySem.W.Frag} {B : Hp} {ok : Addr → Prop} {σ : L2.St} {te : TE} {d : PyData} {ds : List PyData}
theorem mq_dp (t : tupOnly d = true) (h : ∀ H Q, Same B H → (∀ v H', Same H H' → Dp K H' v d → Q v H') → te σ H Q) : Mq K B ok te σ d := fun H Q b k =>
  h H Q b fun v H' s hv => k v H' s (Dp.dq d v t hv)
theorem mq_to {i j c : Nat} {v : V} (hi : σ[i]? = some (some v)) (hj : σ[j]? = some (some (.int (c : Nat)))) (hv : Dq K B ok v (.tuple ds)) : Mq K B ok (tSl (rSlA K) (tVar i) tNoPart (tPart (tVar j))) σ (.tuple (ds.take c)) := fun H Q b k => by
  refine ⟨_, hi, ?_⟩
  dsimp only [tNoPart]
  refine ⟨_, hj, _, rfl, rd_cutQ (hv.sm b) fun w H' s hw => k w H' s ?_⟩
  rw [cutD_pre] at hw
  exact hw
theorem mq_from {i c : Nat} {v : V} (hi : σ[i]? = some (some v)) (hc : ∀ H Q, Q (.int (c : Nat)) H → te σ H Q) (hv : Dq K B ok v (.tuple ds)) : Mq K B ok (tSl (rSlA K) (tVar i) (tPart te) tNoPart) σ (.tuple (ds.drop c)) := fun H Q b k => by
  refine ⟨_, hi, hc H _ ⟨_, rfl, ?_⟩⟩
  dsimp only [tNoPart]
  refine rd_cutQ (hv.sm b) fun w H' s hw => k w H' s ?_
  rw [cut_suf] at hw
  exact hw
variable {g : TG} {D : Ends} {H : Hp}
theorem asg_q (h : Mq K H ok te σ d) (k : ∀ v H', Same H H' → Dq K H' ok v d → g v σ H' D.nx) : tAsg te g D σ H := h H _ (Same.refl H) fun v H' s hv => k v H' s hv
theorem ret_q (h : Mq K H ok te σ d) (k : ∀ v H', Same H H' → Dq K H' ok v d → D.rt v H') : tRet te D σ H := h H _ (Same.refl H) fun v H' s hv => k v H' s hv
end
/-! ### what a call returns in a list, or how it is refused -/
def outD (word : Str) (d : PyData) : Option (List Int) → PyData
  | none => .list [d]
  | some pl => .tuple [.str word, dInts pl]
section
variable {K : PySem.W.Frag} {L : List (Addr × Str × Option Str)} {P C : Addr} {q word : Str} {t : XK → TE} {σ : L2.St} {H : Hp} {Q : VK} {o : Option (List Int)} {d : PyData}
theorem lam_o (T : Tabs [(P, q)] H) (m : (C, word, some (Str.ofString "place")) ∈ L) (body : ∀ H0 (E : XK) (Q' : VK), ExtN H H0 → (o = none → ∀ x H', Same H0 H' → Dp K H' x d → Q' x H') → (∀ pl, o = some pl → RaiseP K C H0 E pl) → t E σ H0 Q')
    (k : ∀ v H', ExtN H H' → Tabs [(P, q)] H' → Dp K H' v (outD word d o) → Q v H') : tLam [(P, q)] (TTo K L) t σ H Q := by
  refine ⟨T, fun H1 e1 T1 H0 s0 Q' good => ?_⟩
  refine body H0 (fltW K L Q) Q' (e1.trans (ExtN.of s0)) (fun e x H' s' hx => good _ _ fun p hp => ?_) fun pl e dd w H' s hx hw => ⟨C, word, some _, rfl, m, dd, w, rfl, hx, fun p H2 s2 hp => ?_⟩
  · have st := s0.trans (s'.trans (same_upd hp (.lst [x])))
    subst e
    exact k _ _ (e1.trans (ExtN.of st)) (T1.ext st) (.lst (SqL.of upd_same) (.cons (hx.same_at (same_upd hp (.lst [x]))) .nil))
  · have st := s0.trans (s.trans s2)
    subst e
    exact k _ H2 (e1.trans (ExtN.of st)) (T1.ext st) (.tup hp (.cons (.str _) (.cons (hw.same_at s2) .nil)))
end
/-- something is added to a list -/
theorem tabs_upd {Ts : List (Addr × Str)} {H : Hp} {p : Addr} {xs ys : List V} (t : Tabs Ts H) (h : H p = some (.lst xs)) : Tabs Ts (L2.upd H p (.lst ys)) := fun q hq => by
  have go : ∀ (b : Addr) (u : HO), H b = some u → (∀ ys, u ≠ .lst ys) → L2.upd H p (.lst ys) b = some u := fun b u hu h2 => by
    rw [upd_ne (fun z => h2 xs (by rw [z, h] at hu; exact (Option.some.inj hu).symm))]
    exact hu
  obtain ⟨ps, h1, h2, h3⟩ := t q hq
  refine ⟨ps, go _ _ h1 (fun _ z => by cases z), h2, fun pos cv hv => ?_⟩
  obtain ⟨c0, e1, e2⟩ := h3 pos cv hv
  refine ⟨c0, e1, go _ _ e2 (fun _ z => ?_)⟩
  unfold CodeO at z
  cases z
/-- the first of the things that are found wrong -/
theorem fx_take {α : Type} (p : α → Bool) {xs : List α} {j : Nat} {x : α} (h : xs[j]? = some x) : (xs.take (j + 1)).findIdx? p = match (xs.take j).findIdx? p with | some i => some i | none => if p x = true then some j else none := by
  have e : xs.take (j + 1) = xs.take j ++ [x] := by
    rw [List.take_succ, h]
    rfl
  have l : j < xs.length := by
    rcases Nat.lt_or_ge j xs.length with z | z
    · exact z
    · rw [List.getElem?_eq_none z] at h
      cases h
  rw [e, List.findIdx?_append]
  cases (xs.take j).findIdx? p with
  | some i => rfl
  | none =>
    rw [List.findIdx?_singleton, List.length_take, Nat.min_eq_left (Nat.le_of_lt l)]
    cases p x <;> simp
end My

/-! A list comprehension of two clauses, by what holds behind each turn of them. -/
namespace L2
open PySem PySem.Spec PyProof.Rows
section
variable {J J1 : It} {n n1 : Nat} {G G1 : Hp → Prop} {Y Y1 : Nat → Hp → V → Hp → Prop} {g g1 : TG} {tt tt1 : TT} {wi1 : TI} {te : TE} {vs vs1 : List Nat} {D : Addr}
/-- the inner clause -/
theorem lc3_in (w : Walk J1 n1 G1 Y1) {σ2 : St} {H4 : Hp} {Nx : Hp → Prop} (Pv : Nat → Hp → Prop) (h0 : Pv 0 H4) (hG : ∀ j H, j ≤ n1 → Pv j H → G1 H)
    (hs : ∀ j x H H', j < n1 → Pv j H → Y1 j H x H' → g1 x (wipe σ2 vs1) H' fun σ3 H5 => wipe σ3 vs1 = wipe σ2 vs1 ∧ tt1 σ3 H5 fun b H6 =>
      if b = true then te σ3 H6 fun y H7 => ∃ acc, H7 D = some (.lst acc) ∧ acc.length < sizeLine ∧ Pv (j + 1) (upd H7 D (.lst (acc ++ [y]))) else Pv (j + 1) H6) (hd : ∀ H, Pv n1 H → Nx H) :
    ∃ W1 : Nat → Nat → Hp → Prop, (∃ m, W1 0 m H4) ∧ ∀ j k H, W1 j k H →
      (J1.stop j H ∧ Nx H) ∨ (J1.go j H ∧ ∃ Nx1 : Hp → Prop, (∀ H', Nx1 H' → ∃ k', k' < k ∧ W1 (j + 1) k' H') ∧ ∀ x H', J1.yld j H x H' → g1 x (wipe σ2 vs1) H' fun σ3 H5 => wipe σ3 vs1 = wipe σ2 vs1 ∧ tt1 σ3 H5 fun b H6 =>
        if b = true then te σ3 H6 fun y H7 => ∃ acc, H7 D = some (.lst acc) ∧ acc.length < sizeLine ∧ Nx1 (upd H7 D (.lst (acc ++ [y]))) else Nx1 H6) := by
  refine ⟨fun i m H => m = n1 - i ∧ i ≤ n1 ∧ Pv i H, ⟨n1, by simp, Nat.zero_le _, h0⟩, ?_⟩
  rintro i m H ⟨rfl, hi, p⟩
  have q := hG i H hi p
  by_cases hlt : i < n1
  · refine .inr ⟨w.goes i H hlt q, Pv (i + 1), fun H' p' => ⟨n1 - (i + 1), by omega, rfl, hlt, p'⟩, fun x H' y => hs i x H H' hlt p (w.yields i H x H' hlt q y)⟩
  · have e : i = n1 := by omega
    subst e
    exact .inl ⟨w.stops H q, hd H p⟩
/-- the outer clause -/
theorem lc3_out (w : Walk J n G Y) {σ : St} {H1 : Hp} {Qd : Hp → Prop} (Pv : Nat → Hp → Prop) (h0 : Pv 0 (upd H1 D (.lst []))) (hG : ∀ i H, i ≤ n → Pv i H → G H)
    (hs : ∀ i x H H', i < n → Pv i H → Y i H x H' → g x (wipe σ vs) H' fun σ2 H2 => wipe σ2 vs = wipe σ vs ∧ tt σ2 H2 fun b H3 =>
      if b = true then wi1 σ2 H3 fun J1 H4 => ∃ W1 : Nat → Nat → Hp → Prop, (∃ m, W1 0 m H4) ∧ ∀ j k H, W1 j k H →
        (J1.stop j H ∧ Pv (i + 1) H) ∨ (J1.go j H ∧ ∃ Nx1 : Hp → Prop, (∀ H', Nx1 H' → ∃ k', k' < k ∧ W1 (j + 1) k' H') ∧ ∀ x H', J1.yld j H x H' → g1 x (wipe σ2 vs1) H' fun σ3 H5 => wipe σ3 vs1 = wipe σ2 vs1 ∧ tt1 σ3 H5 fun b H6 =>
          if b = true then te σ3 H6 fun y H7 => ∃ acc, H7 D = some (.lst acc) ∧ acc.length < sizeLine ∧ Nx1 (upd H7 D (.lst (acc ++ [y]))) else Nx1 H6)
      else Pv (i + 1) H3) (hd : ∀ H, Pv n H → Qd H) :
    ∃ W : Nat → Nat → Hp → Prop, (∃ m, W 0 m (upd H1 D (.lst []))) ∧ ∀ i m H, W i m H →
      (J.stop i H ∧ Qd H) ∨ (J.go i H ∧ ∃ Nx : Hp → Prop, (∀ H', Nx H' → ∃ m', m' < m ∧ W (i + 1) m' H') ∧ ∀ x H', J.yld i H x H' → g x (wipe σ vs) H' fun σ2 H2 => wipe σ2 vs = wipe σ vs ∧ tt σ2 H2 fun b H3 =>
        if b = true then wi1 σ2 H3 fun J1 H4 => ∃ W1 : Nat → Nat → Hp → Prop, (∃ m, W1 0 m H4) ∧ ∀ j k H, W1 j k H →
          (J1.stop j H ∧ Nx H) ∨ (J1.go j H ∧ ∃ Nx1 : Hp → Prop, (∀ H', Nx1 H' → ∃ k', k' < k ∧ W1 (j + 1) k' H') ∧ ∀ x H', J1.yld j H x H' → g1 x (wipe σ2 vs1) H' fun σ3 H5 => wipe σ3 vs1 = wipe σ2 vs1 ∧ tt1 σ3 H5 fun b H6 =>
            if b = true then te σ3 H6 fun y H7 => ∃ acc, H7 D = some (.lst acc) ∧ acc.length < sizeLine ∧ Nx1 (upd H7 D (.lst (acc ++ [y]))) else Nx1 H6)
        else Nx H3) := by
  refine ⟨fun i m H => m = n - i ∧ i ≤ n ∧ Pv i H, ⟨n, by simp, Nat.zero_le _, h0⟩, ?_⟩
  rintro i m H ⟨rfl, hi, p⟩
  have q := hG i H hi p
  by_cases hlt : i < n
  · refine .inr ⟨w.goes i H hlt q, Pv (i + 1), fun H' p' => ⟨n - (i + 1), by omega, rfl, hlt, p'⟩, fun x H' y => hs i x H H' hlt p (w.yields i H x H' hlt q y)⟩
  · have e : i = n := by omega
    subst e
    exact .inl ⟨w.stops H q, hd H p⟩
end
end L2

/-! Texts of rows: str of a part, not in a dict, a dict comprehension over any walk; what is joined and split. -/
namespace My
open PySem PySem.Spec PyProof.Rows L2
def rStrA : List V → Hp → VK → Prop := fun xs H Q => ∃ x, xs = [x] ∧ ((∃ a, x = .str a ∧ Q (.str a) H) ∨ ∃ i : Int, x = .int i ∧ i.natAbs.log2 < 1920 ∧ Q (.str (toString i)) H)
theorem k_strA {X : Cx} : CallR X (.type "str") rStrA := by
  intro pins s σ H xs us Q I r h
  obtain ⟨x, rfl, ⟨a, rfl, q⟩ | ⟨i, rfl, hz, q⟩⟩ := h
  · exact SkE.call_str_str pins s σ H [.str a] us Q I r ⟨a, rfl, q⟩
  · exact call_str_int pins s σ H [.int i] us Q I r ⟨i, rfl, hz, q⟩
def rDNotIn : R2 := fun y x H Q => ∃ a o, x = .ref a ∧ DGet H a y o ∧ Q (.bl (!o.isSome)) H
theorem op_dnotin {X : Cx} (hu : X.A.units + 1 < cLine) : OpR X (compareOp .NotIn) rDNotIn := by
  intro pins s σ H x y v u Q I rx ry h
  obtain ⟨a, o, rfl, g, q⟩ := h
  obtain rfl : u = Value.ref a := ry
  exact d_notIn hu I g rx fun s' I' => ⟨.bl _, H, I', rfl, q⟩
section
variable {J : It} {n : Nat} {G : Hp → Prop} {Y : Nat → Hp → V → Hp → Prop}
theorem dc_it (w : Walk J n G Y) {g : TG} {tt : TT} {tk tv : TE} {vs : List Nat} {σ : L2.St} {H1 : Hp} {D : Addr} {Qd : Hp → Prop} (Pv : Nat → Hp → Prop) (h0 : Pv 0 (upd H1 D (.dK []))) (hG : ∀ i H, i ≤ n → Pv i H → G H)
    (hs : ∀ i x H H', i < n → Pv i H → Y i H x H' → g x (wipe σ vs) H' fun σ2 H2 => wipe σ2 vs = wipe σ vs ∧ tt σ2 H2 fun b H3 =>
      if b = true then tk σ2 H3 fun y H4 => tv σ2 H4 fun z H5 => ∃ kvs k, y = kV k ∧ H5 D = some (.dK kvs) ∧ kvs.length < sizeLine ∧ Pv (i + 1) (upd H5 D (.dK (putK kvs k z))) else Pv (i + 1) H3) (hd : ∀ H, Pv n H → Qd H) :
    ∃ W : Nat → Nat → Hp → Prop, (∃ m, W 0 m (upd H1 D (.dK []))) ∧ ∀ i m H, W i m H →
      (J.stop i H ∧ Qd H) ∨ (J.go i H ∧ ∃ Nx : Hp → Prop, (∀ H', Nx H' → ∃ m', m' < m ∧ W (i + 1) m' H') ∧ ∀ x H', J.yld i H x H' → g x (wipe σ vs) H' fun σ2 H2 => wipe σ2 vs = wipe σ vs ∧ tt σ2 H2 fun b H3 =>
        if b = true then tk σ2 H3 fun y H4 => tv σ2 H4 fun z H5 => ∃ kvs k, y = kV k ∧ H5 D = some (.dK kvs) ∧ kvs.length < sizeLine ∧ Nx (upd H5 D (.dK (putK kvs k z))) else Nx H3) := by
  refine ⟨fun i m H => m = n - i ∧ i ≤ n ∧ Pv i H, ⟨n, by simp, Nat.zero_le _, h0⟩, ?_⟩
  rintro i m H ⟨rfl, hi, p⟩
  have q := hG i H hi p
  by_cases hlt : i < n
  · refine .inr ⟨w.goes i H hlt q, Pv (i + 1), fun H' p' => ⟨n - (i + 1), by omega, rfl, hlt, p'⟩, fun x H' y => hs i x H H' hlt p (w.yields i H x H' hlt q y)⟩
  · have e : i = n := by omega
    subst e
    exact .inl ⟨w.stops H q, hd H p⟩
end
/-- what is put into a dict -/
theorem val_put {κ : Type} [DecidableEq κ] (kvs : List (κ × V)) (k j : κ) (v : V) : valV (putK kvs k v) j = if j = k then some v else valV kvs j := by
  unfold valV putK
  by_cases ha : (kvs.any fun kv => decide (kv.1 = k)) = true
  · rw [if_pos ha]
    by_cases hj : j = k
    · subst hj
      rw [if_pos rfl]
      induction kvs with
      | nil => cases ha
      | cons kv r ih =>
        rw [List.map_cons, List.find?_cons]
        by_cases hk : kv.1 = j
        · rw [if_pos hk]
          show (match decide (kv.1 = j) with | true => some (kv.1, v) | false => _).map _ = _
          rw [decide_eq_true hk]
          rfl
        · rw [if_neg hk]
          skip
          rw [decide_eq_false hk]
          rw [List.any_cons, decide_eq_false hk, Bool.false_or] at ha
          exact ih ha
    · rw [if_neg hj]
      clear ha
      induction kvs with
      | nil => rfl
      | cons kv r ih =>
        rw [List.map_cons, List.find?_cons, List.find?_cons]
        by_cases hk : kv.1 = k
        · rw [if_pos hk]
          have ne : ¬ kv.1 = j := fun z => hj (z ▸ hk)
          dsimp only
          rw [decide_eq_false ne]
          exact ih
        · rw [if_neg hk]
          cases decide (kv.1 = j) with
          | true => rfl
          | false => exact ih
  · rw [if_neg ha, List.find?_append]
    by_cases hj : j = k
    · subst hj
      rw [if_pos rfl]
      have no : kvs.find? (fun kv => decide (kv.1 = j)) = none := by
        rw [List.find?_eq_none]
        intro x hx z
        exact ha (List.any_eq_true.mpr ⟨x, hx, z⟩)
      rw [no]
      simp
    · rw [if_neg hj]
      have e : List.find? (fun kv : κ × V => decide (kv.1 = j)) [(k, v)] = none := by
        rw [List.find?_eq_none]
        intro x hx
        rw [List.mem_singleton.mp hx]
        simpa using fun z : k = j => hj z.symm
      rw [e]
      simp
theorem put_len {κ : Type} [DecidableEq κ] (kvs : List (κ × V)) (k : κ) (v : V) : (putK kvs k v).length ≤ kvs.length + 1 := by
  unfold putK
  split
  · rw [List.length_map]; omega
  · rw [List.length_append]; exact Nat.le_refl _
theorem mem_joinL {S : List Nat} {c : Nat} (hS : c ∉ S) : ∀ {ps : List (List Nat)}, (∀ p ∈ ps, c ∉ p) → c ∉ TL.joinL S ps
  | [], _ => fun h => by cases h
  | [p], h => by
    show c ∉ TL.joinL S [p]
    unfold TL.joinL
    exact h p List.mem_cons_self
  | p :: q :: r, h => by
    have ih := mem_joinL hS (ps := q :: r) fun x hx => h x (List.mem_cons_of_mem _ hx)
    have h1 := h p List.mem_cons_self
    unfold TL.joinL
    intro z
    simp only [List.mem_append] at z
    rcases z with z | z | z
    · exact h1 z
    · exact hS z
    · exact ih z
section
variable {X : Cx} {i : Nat} {y : Str} {py pos spos : Pos} {kx vx tg iter : Expr} {ifs : List Expr} {scope : Scope} {own : List (Str × Nat)} {wi : TI} {g : TG} {tt : TT} {tk tv : TE}
/-- the context of a comprehension's block -/
abbrev blkX (X : Cx) (scope : Scope) (s : Shared) (H : Hp) (C : Addr) (cl : List (Str × Addr)) (fp : List Addr) : Cx := X.blk s H scope (compEnvC scope cl C X.env) fp
/-- a local is set to a dict comprehension on its own line -/
theorem ps_setDc (calm : X.calm = true) (nodup : X.N.Nodup) (at_ : X.N[i]? = some y) (loc : X.env.scope.names.lookup y = some .local)
    (sw : swapsWith (.DictComp kx vx [⟨tg, iter, ifs, 0⟩] scope pos) (some (.Name y py)) spos.line X.env = pure true) (walks : PI X tg iter wi) (blk : BlkOk X.N X.env.scope scope own)
    (tgt : ∀ s H C cl fp, PG (blkX X scope s H C cl fp) tg g) (tests : ∀ s H C cl fp, PTs (blkX X scope s H C cl fp) ifs tt)
    (key : ∀ s H C cl fp, PE (blkX X scope s H C cl fp) kx tk) (val : ∀ s H C cl fp, PE (blkX X scope s H C cl fp) vx tv) (fold : ∀ x, foldedSetIterable iter X.env x = pure x := by intro _; rfl) :
    PS X (.Assign [.Name y py] (.DictComp kx vx [⟨tg, iter, ifs, 0⟩] scope pos) spos) (tAsg (tDc wi g tt tk tv (own.map (·.2))) (gName i)) := by
  constructor
  intro pins s σ H D I h
  rw [exec_Assign_Name_used _ _ _ _ sw]
  have run := dc_core (pos := pos) (pos' := firstIterPos [⟨tg, iter, ifs, 0⟩] pos) (use := some (assign (.Name y py) X.env)) (Qf := fun _ s' => SP X pins D .next s') calm nodup I walks blk tgt tests key val fold (Q := fun x H1 => gName i x σ H1 D.nx) h
  have done := run fun L C s' m H' I' q hn f => ?fin
  · refine wpAny_bind (wpAny_standAt (wpAny_bind ?_))
    exact wpAny_bind (thn done fun _ s' hq => wpAny_pure (wpAny_pure hq))
  show wpAny _ _ (assign (.Name y py) X.env (.ref L)) _ _ _
  refine wpAny_assign_Name (store_ok2 (v := V.ref L) I' nodup at_ (.inl loc) rfl (fun s2 I2 z => ?_) (.inr loc))
  obtain ⟨a, sb, ha⟩ := z
  have ne : C ≠ a := ha.elim (fun z => by rw [z]; exact f.2.1) fun z e => f.2.2.2.2.1 y a z e.symm
  exact ⟨m, hn.sameBut sb ne, fun h3 sb3 => ⟨_, H', I2.turned (t' := s2.toks) (fun b o hb e => (sb3.2 b hb).trans e) f.1 f.2.1 f.2.2.2.1 f.2.2.2.2.1 f.2.2.2.2.2, q⟩⟩
theorem sw_dict {gs : List Comprehension} {l : Nat} {env : Env} (fn : env.scope.kind = .function) (loc : env.scope.names.lookup y = some .local) (line : (py.line == pos.line) = true)
    (own : (scope.names.any fun (n, k) => n == y && (k == .local || k == .cell)) = false) : swapsWith (.DictComp kx vx gs scope pos) (some (.Name y py)) l env = pure true := by
  have kind : env.blockKind = .function := by unfold Env.blockKind; rw [fn]; rfl
  unfold swapsWith
  simp only [kind, show env.kindOf y = some .local from loc, own, Expr.pos, line]
  rfl
end
/-- sep.join(a row of texts), the kinds told ahead -/
def rJoin (K : PySem.W.Frag) : V → List V → Hp → VK → Prop := fun x xs H Q => ∃ (a : Str) (p : Addr) (ys : List Str), x = .str a ∧ xs = [.ref p] ∧ (SqL K H p (ys.map V.str) ∨ SqT K H p (ys.map V.str)) ∧
  (ys.map (·.length)).sum + ys.length * a.length ≤ 16777216 ∧ Q (.str (Txt.join a ys)) H
theorem k_join {X : Cx} {K : PySem.W.Frag} {o e : Expr} {to te : TE} {apos pos : Pos} (ho : PE X o to) (he : PE X e te) (ek : X.K = K := by rfl) (hs : starEach [e] X.env = [(false, eval e X.env)] := by rfl)
    (hbase : attributeBase o "join" X.env (eval o X.env) = eval o X.env := by rfl) (hline : (apos.endLine == pos.line) = true := by rfl) : PE X (.Call (.Attribute o "join" apos) [e] [] pos) (tM1 (rJoin K) to te) := by
  subst ek
  exact pe_join ho he hs hbase hline
end My

/-! Rows of presses as texts. -/
namespace My
open PySem PySem.Spec PyProof.Rows L2
def prParts : Pr → List Str
  | .d w a => [w.s, toString ((a : Nat) : Int)]
  | .p a n => ["pace", toString ((a : Nat) : Int), toString n]
def prT (p : Pr) : Str := Txt.join " " (prParts p)
def stT (st : List Pr) : Str := if st = [] then "-" else Txt.join ", " (st.map prT)
def rowT (row : List (List Pr)) : Str := Txt.join "\n" (row.map stT)
def allPr : Nat → List Pr := fun i => (allD.map fun d => (List.range i).map fun j => Pr.d d j).flatten ++ ((List.range i).map fun j => [1, 2, 4].map fun n => Pr.p j n).flatten
theorem all_pr {p : Pr} {i : Nat} (h : OkP p i) : p ∈ allPr i := by
  unfold allPr
  cases p with
  | d w a => exact List.mem_append_left _ (List.mem_flatten.mpr ⟨_, List.mem_map.mpr ⟨w, Dd.mem w, rfl⟩, List.mem_map.mpr ⟨a, List.mem_range.mpr h.at_, rfl⟩⟩)
  | p a n =>
    refine List.mem_append_right _ (List.mem_flatten.mpr ⟨_, List.mem_map.mpr ⟨a, List.mem_range.mpr h.at_, rfl⟩, List.mem_map.mpr ⟨n, ?_, rfl⟩⟩)
    rcases h.pc a n rfl with rfl | rfl | rfl <;> decide
theorem all_ok {p : Pr} {i : Nat} (h : p ∈ allPr i) : OkP p i := by
  unfold allPr at h
  rcases List.mem_append.mp h with q | q
  · obtain ⟨l, hl, hp⟩ := List.mem_flatten.mp q
    obtain ⟨d, _, rfl⟩ := List.mem_map.mp hl
    obtain ⟨j, hj, rfl⟩ := List.mem_map.mp hp
    exact ⟨List.mem_range.mp hj, fun a n e => by cases e⟩
  · obtain ⟨l, hl, hp⟩ := List.mem_flatten.mp q
    obtain ⟨j, hj, rfl⟩ := List.mem_map.mp hl
    obtain ⟨n, hn, rfl⟩ := List.mem_map.mp hp
    exact ⟨List.mem_range.mp hj, fun a n e => by cases e; simpa using hn⟩
theorem all_small {i : Nat} {p : Pr} (h : OkP p i) (hi : i ≤ 4) : p ∈ allPr 4 := all_pr ⟨Nat.lt_of_lt_of_le h.at_ hi, h.pc⟩
theorem pr_free : ∀ p ∈ allPr 4, 44 ∉ TL.tl (prT p) ∧ 10 ∉ TL.tl (prT p) ∧ (TL.tl (prT p)).length ≤ 10 ∧ 2 ≤ (TL.tl (prT p)).length := by
  have h : ((allPr 4).all fun p => decide (44 ∉ TL.tl (prT p)) && (decide (10 ∉ TL.tl (prT p)) && (decide ((TL.tl (prT p)).length ≤ 10) && decide (2 ≤ (TL.tl (prT p)).length)))) = true := by decide +kernel
  intro p hp
  have q := List.all_eq_true.mp h p hp
  simp only [Bool.and_eq_true, decide_eq_true_eq] at q
  exact q
theorem pr_nodup : ((allPr 4).map fun p => TL.tl (prT p)).Nodup := by decide +kernel
theorem map_nodup_inj {α β : Type} {f : α → β} : ∀ {l : List α}, (l.map f).Nodup → ∀ a ∈ l, ∀ b ∈ l, f a = f b → a = b
  | [], _, a, ha, _, _, _ => by cases ha
  | c :: r, h, a, ha, b, hb, e => by
    rw [List.map_cons, List.nodup_cons] at h
    rcases List.mem_cons.mp ha with rfl | ha2
    · rcases List.mem_cons.mp hb with rfl | hb2
      · rfl
      · exact (h.1 (List.mem_map.mpr ⟨b, hb2, e.symm⟩)).elim
    · rcases List.mem_cons.mp hb with rfl | hb2
      · exact (h.1 (List.mem_map.mpr ⟨a, ha2, e⟩)).elim
      · exact map_nodup_inj h.2 a ha2 b hb2 e
theorem pr_inj {p q : Pr} (hp : p ∈ allPr 4) (hq : q ∈ allPr 4) (e : prT p = prT q) : p = q := map_nodup_inj pr_nodup p hp q hq (by rw [e])
theorem comma : TL.tl (", " : Str) = [44, 32] := by decide +kernel
theorem feed : TL.tl ("\n" : Str) = [10] := by decide +kernel
theorem dash : TL.tl ("-" : Str) = [45] := by decide +kernel
theorem tl_st {st : List Pr} (h : st ≠ []) : TL.tl (stT st) = TL.joinL [44, 32] ((st.map prT).map TL.tl) := by
  unfold stT
  rw [if_neg h, TL.join_eq, TL.tl_join, comma]
theorem joinL_len : ∀ {st : List Pr}, (∀ p ∈ st, p ∈ allPr 4) → (TL.joinL [44, 32] ((st.map prT).map TL.tl)).length ≤ 12 * st.length ∧ (st ≠ [] → 2 ≤ (TL.joinL [44, 32] ((st.map prT).map TL.tl)).length)
  | [], _ => ⟨Nat.zero_le _, fun z => absurd rfl z⟩
  | [p], h => by
    have q := (pr_free p (h p List.mem_cons_self)).2.2
    show (TL.tl (prT p)).length ≤ 12 * 1 ∧ (_ → 2 ≤ (TL.tl (prT p)).length)
    exact ⟨by omega, fun _ => q.2⟩
  | p :: r :: s, h => by
    have q := (pr_free p (h p List.mem_cons_self)).2.2
    have ih := (joinL_len (st := r :: s) fun x hx => h x (List.mem_cons_of_mem _ hx)).1
    show (TL.tl (prT p) ++ ([44, 32] ++ TL.joinL [44, 32] (((r :: s).map prT).map TL.tl))).length ≤ _ ∧ (_ → 2 ≤ (TL.tl (prT p) ++ ([44, 32] ++ TL.joinL [44, 32] (((r :: s).map prT).map TL.tl))).length)
    rw [List.length_append, List.length_append]
    simp only [List.length_cons, List.length_nil] at ih ⊢
    exact ⟨by omega, fun _ => by omega⟩
section
variable {st : List Pr} (hp : ∀ p ∈ st, p ∈ allPr 4)
include hp
theorem st_split (h : st ≠ []) : Txt.split (stT st) ", " = st.map prT := by
  unfold stT
  rw [if_neg h]
  refine TL.split_join comma (by decide +kernel) (fun e => h (List.map_eq_nil_iff.mp e)) fun x hx => ?_
  obtain ⟨p, q, rfl⟩ := List.mem_map.mp hx
  exact (pr_free p (hp p q)).1
theorem st_len : (TL.tl (stT st)).length ≤ 12 * st.length + 1 ∧ 1 ≤ (TL.tl (stT st)).length ∧ (stT st = "-" → st = []) := by
  by_cases h : st = []
  · subst h
    exact ⟨by decide +kernel, by decide +kernel, fun _ => rfl⟩
  · have q := joinL_len hp
    have q2 := q.2 h
    refine ⟨by rw [tl_st h]; omega, by rw [tl_st h]; omega, fun e => ?_⟩
    have e2 := tl_st h
    rw [e, dash] at e2
    rw [← e2] at q2
    exact absurd q2 (by decide)
theorem st_free : 10 ∉ TL.tl (stT st) := by
  by_cases h : st = []
  · subst h
    decide +kernel
  · rw [tl_st h]
    refine mem_joinL (by decide) fun x hx => ?_
    obtain ⟨y, hy, rfl⟩ := List.mem_map.mp hx
    obtain ⟨p, q, rfl⟩ := List.mem_map.mp hy
    exact (pr_free p (hp p q)).2.1
end
theorem row_len2 (c : Nat) : ∀ {ls : List (List Nat)}, (∀ l ∈ ls, l.length ≤ 97 ∧ 1 ≤ l.length) → (TL.joinL [c] ls).length ≤ 98 * ls.length ∧ (ls ≠ [] → 1 ≤ (TL.joinL [c] ls).length)
  | [], _ => ⟨Nat.zero_le _, fun z => absurd rfl z⟩
  | [l], q => by
    have z := q l List.mem_cons_self
    show l.length ≤ 98 * 1 ∧ (_ → 1 ≤ l.length)
    exact ⟨by omega, fun _ => z.2⟩
  | l :: x :: r, q => by
    have z := q l List.mem_cons_self
    have ih := (row_len2 c (ls := x :: r) fun y hy => q y (List.mem_cons_of_mem _ hy)).1
    show (l ++ ([c] ++ TL.joinL [c] (x :: r))).length ≤ _ ∧ (_ → 1 ≤ (l ++ ([c] ++ TL.joinL [c] (x :: r))).length)
    rw [List.length_append, List.length_append]
    simp only [List.length_cons, List.length_nil] at ih ⊢
    exact ⟨by omega, fun _ => by omega⟩
section
variable {row : List (List Pr)} {i : Nat} (h : OkR i row) (hi : i ≤ 4)
include h hi
theorem row_pr : ∀ st ∈ row, ∀ p ∈ st, p ∈ allPr 4 := fun st hs p hp => all_small ((h.s st hs).2 p hp) hi
theorem row_split (hr : row ≠ []) : Txt.split (rowT row) "\n" = row.map stT := by
  unfold rowT
  refine TL.split_join feed (by decide +kernel) (fun e => hr (List.map_eq_nil_iff.mp e)) fun x hx => ?_
  obtain ⟨st, q, rfl⟩ := List.mem_map.mp hx
  exact st_free (row_pr h hi st q)
theorem row_len : (TL.tl (rowT row)).length ≤ 19600 ∧ (rowT row = "" → row = []) := by
  have e : TL.tl (rowT row) = TL.joinL [10] ((row.map stT).map TL.tl) := by
    unfold rowT
    rw [TL.join_eq, TL.tl_join, feed]
  have q := row_len2 10 (ls := (row.map stT).map TL.tl) fun l hl => by
    obtain ⟨y, hy, rfl⟩ := List.mem_map.mp hl
    obtain ⟨st, hs, rfl⟩ := List.mem_map.mp hy
    have a := st_len (row_pr h hi st hs)
    have b := (h.s st hs).1
    exact ⟨by omega, a.2.1⟩
  rw [List.length_map, List.length_map] at q
  have l := h.l
  refine ⟨by rw [e]; omega, fun z => ?_⟩
  by_cases hr : row = []
  · exact hr
  · have q2 := q.2 fun x => hr (List.map_eq_nil_iff.mp (List.map_eq_nil_iff.mp x))
    rw [← e, z] at q2
    exact absurd q2 (by decide +kernel)
end
end My

/-! Own errors as values: made by position or by name, their classes and fields, repr of lists that hold a dict. -/
namespace L2
open PySem PySem.W PySem.HandSPX
section
variable {M : Model} {A : Around} {E : Value → Shared → Prop} {h : Heap} {g : Array GenState} {d : Drawn} {t : Nat} {os : OsState}
variable {nm q : Str} {C N : Addr} {bs bm bmB : List Value} {hdct : Bool} {sn : List Str} {sub : List Value} {ab : Bool} {col : Option Bool} {dd : Option Addr} {k0 k1 k2 k3 k5 : Option Value} {B newId initId : String}
theorem kx_check (F : ExcBaseFacts B newId initId bmB) (hT : ∀ X : String, bm.contains (.type X) = bmB.contains (.type X)) {us : List Value} {kw : List (Str × Value)} {Q : Unit → Shared → Prop}
    (lC : h.get? C = some (excClassObj nm q C N bs bm hdct sn sub ab col dd k0 k1 k2 k3 k5 newId)) (z : Q () ⟨h, g, d, t, os⟩) : wpAny M A (checkBuiltinCall newId ⟨.ref C :: us, kw⟩) Q E ⟨h, g, d, t, os⟩ := by
  have e1 : (Value.ref C :: bm).contains (.type B) = true := by rw [List.contains_cons, hT, F.hasB, Bool.or_true]
  have e2 := F.noStar
  simp only [checkBuiltinCall, F.newKind, F.newSplit, F.newRow]
  repeat (first | refine wpAny_loadPart_at lC ?_ | (refine wpAny_isSubtype_exc lC ?_; rw [e1]) | refine wpAny_staticBase_exc lC ?_ | refine wpAny_madeBy_exc lC ?_ | simp only [bne_self_eq_false, Bool.false_eq_true, if_false] | wp_step)
  exact z
end
section
variable {prog : Program} {w : World} {A : Around} {E : Value → Shared → Prop} {R : Result → Shared → Prop} {h : Heap} {g : Array GenState} {d : Drawn} {t : Nat} {os : OsState}
variable {nm q : Str} {C N : Addr} {bs bm bmB : List Value} {hdct : Bool} {sn : List Str} {sub : List Value} {ab : Bool} {col : Option Bool} {dd : Option Addr} {k0 k1 k2 k3 k5 : Option Value} {B newId initId : String}
theorem kx_new (F : ExcBaseFacts B newId initId bmB) (hT : ∀ X : String, bm.contains (.type X) = bmB.contains (.type X)) {us : List Value} {kw : List (Str × Value)}
    (lC : h.get? C = some (excClassObj nm q C N bs bm hdct sn sub ab col dd k0 k1 k2 k3 k5 newId))
    (z : R (.ok (.ret (.ref (h.objs.size + 1)))) ⟨(h.push (PySem.W.kdv_tup us)).push (excO C h.objs.size), g, d, t, os⟩) (small : us.length ≤ sizeLine) :
    codeAny (model prog w) A (.builtin newId ⟨.ref C :: us, kw⟩) R ⟨h, g, d, t, os⟩ := by
  have e0 := F.ends
  have e1 : (Value.ref C :: bm).contains (.type B) = true := by rw [List.contains_cons, hT, F.hasB, Bool.or_true]
  have e2 : (Value.ref C :: bm).contains (.type "AttributeError") = false := by rw [List.contains_cons, hT, F.noAttr]; rfl
  have e3 : (Value.ref C :: bm).contains (.type "NameError") = false := by rw [List.contains_cons, hT, F.noName]; rfl
  refine codeAny_builtinAt F.entry ?_
  unfold Builtin.«BaseException.__new__»
  refine wpAt_bind ?_
  show wpAt _ _ _ (stack >>= _) _ _ _
  refine wpAt_bind (wpAt_stack fun p below => wpAt_of_wpAny ?_)
  wp_walk
  refine wpAt_of_wpAny ?_
  rw [F.owner]
  repeat (first | with_reducible refine wpAny_madeHere_exc F.canon lC ?_ | with_reducible refine wpAny_loadPart_at lC ?_ | (with_reducible refine wpAny_isSubtype_exc lC ?_; first | rw [e1] | rw [e2] | rw [e3]) | wp_step)
  show R _ _
  rw [Heap.size_push]
  exact z
theorem kx_type (F : ExcBaseFacts B newId initId bmB) (hT : ∀ X : String, bm.contains (.type X) = bmB.contains (.type X)) {us : List Value} {kw : List (Str × Value)} {f : Addr} {Q : Fin → Shared → Prop}
    (lC : h.get? C = some (excClassObj nm q C N bs bm hdct sn sub ab col dd k0 k1 k2 k3 k5 newId))
    (hi : W.Looks (model prog w) h (typeLookup (.ref C) "__init__") (some (.ref f))) (hb : ∀ self, W.Looks (model prog w) h (bindSpecial (.ref f) self) (.ref f, [self])) (small : us.length ≤ sizeLine)
    (z : codeAny (model prog w) A (.call (.ref f) ⟨.ref (h.objs.size + 1) :: us, kw⟩)
      (fun r s' => match r with | .ok (.ret v) => v = .none ∧ Q (.done (.ret (.ref (h.objs.size + 1)))) s' | .ok _ => False | .error e => E e s')
      ⟨(h.push (W.kdv_tup us)).push (excO C h.objs.size), g, d, t, os⟩) :
    wpAny (model prog w) A (Builtin.«type.__call__» ⟨.ref C :: us, kw⟩) Q E ⟨h, g, d, t, os⟩ := by
  repeat (first | with_reducible refine wpAny_loadPart_at lC ?_ | with_reducible refine wpAny_madeBy_exc lC ?_ | wp_step)
  refine codeAny_call_builtin_code (Code.quiet_builtin _ F.quiet) (kx_check F hT lC ?_)
  refine kx_new F hT lC ?_ small
  show wpAny _ _ _ _ _ _
  have kk : ∀ b o, h.get? b = some o → ((h.push (W.kdv_tup us)).push (excO C h.objs.size)).get? b = some o := fun b o y => Heap.get?_push_of_some _ (Heap.get?_push_of_some _ y)
  have lC2 := kk _ _ lC
  have at1 : ((h.push (W.kdv_tup us)).push (excO C h.objs.size)).get? (h.objs.size + 1) = some (excO C h.objs.size) := by heap_get
  have me : (Value.ref C :: bm).contains (.ref C) = true := by simp
  have l1 := hi.keeps kk
  have l2 := (hb (.ref (h.objs.size + 1))).keeps kk
  unfold isInstance
  repeat (first | with_reducible refine wpAny_loadPart_at at1 ?_ | (with_reducible refine wpAny_isSubtype_exc lC2 ?_; rw [me]) | wp_step)
  show wpAny _ _ (typeLookup (.ref C) _) _ _ _
  refine l1.at ?_
  refine wpAny_holding (wpAny_bind (l2.at ?_))
  refine wpAny_bind (wpAny_call (codeAny_mono z fun r s' y => ?_))
  rcases r with e | (v | _ | _ | _) <;> first | exact y | exact y.elim | skip
  obtain ⟨rfl, y⟩ := y
  first
    | exact wpAny_pure (wpAny_pure y)
    | (wp_walk; exact y)
theorem kx_tc {M : Model} {E : Value → Shared → Prop} {us : List Value} {kw : List (Str × Value)} {Q : Unit → Shared → Prop} (lC : h.get? C = some (excClassObj nm q C N bs bm hdct sn sub ab col dd k0 k1 k2 k3 k5 newId))
    (z : Q () ⟨h, g, d, t, os⟩) : wpAny M A (checkBuiltinCall "type.__call__" ⟨.ref C :: us, kw⟩) Q E ⟨h, g, d, t, os⟩ := by
  have f3 := tc_sub
  have ty : (⟨h, g, d, t, os⟩ : Shared).TypeIs (.ref C) "type" := ⟨_, lC, rfl⟩
  simp only [checkBuiltinCall, tc_kind, tc_split]
  repeat (any_goals (first | assumption | with_reducible refine wpAny_loadPart_at lC ?_ | with_reducible refine wpAny_onRaise ?_ | with_reducible refine wpAny_map ?_ | wp_step))
theorem kx_call (F : ExcBaseFacts B newId initId bmB) (hT : ∀ X : String, bm.contains (.type X) = bmB.contains (.type X)) {us : List Value} {kw : List (Str × Value)} {f : Addr}
    (lC : h.get? C = some (excClassObj nm q C N bs bm hdct sn sub ab col dd k0 k1 k2 k3 k5 newId))
    (hi : W.Looks (model prog w) h (typeLookup (.ref C) "__init__") (some (.ref f))) (hb : ∀ self, W.Looks (model prog w) h (bindSpecial (.ref f) self) (.ref f, [self])) (small : us.length ≤ sizeLine)
    (z : codeAny (model prog w) (A.under (.builtin "type.__call__" ⟨.ref C :: us, kw⟩)) (.call (.ref f) ⟨.ref (h.objs.size + 1) :: us, kw⟩) (W.InitBack (h.objs.size + 1) R)
      ⟨(h.push (W.kdv_tup us)).push (excO C h.objs.size), g, d, t, os⟩) :
    codeAny (model prog w) A (.call (.ref C) ⟨us, kw⟩) R ⟨h, g, d, t, os⟩ := by
  have f1 := tc_lookup
  have f2 := tc_bind (.ref C)
  have ty : (⟨h, g, d, t, os⟩ : Shared).TypeIs (.ref C) "type" := ⟨_, lC, rfl⟩
  refine codeAny_of_tree ?_
  show wpAny _ _ (callAny (.ref C) _) _ _ _
  repeat (any_goals (first | assumption | with_reducible refine wpAny_loadPart_at lC ?_ | wp_step))
  refine ⟨rfl, ?_⟩
  refine codeAny_call_builtin_at (Code.quiet_builtin _ (by decide +kernel)) entry_typeCall ?_
  refine kx_tc lC (kx_type F hT lC hi hb small ?_)
  refine codeAny_mono z fun r s' y => ?_
  rcases r with e | (v | _ | _ | _) <;> exact y
end
end L2
namespace L2
open PySem PySem.Spec PyProof.Rows
/-- what is asked of a class of errors, to make one -/
structure ExB (K : PySem.W.Frag) (C : Addr) : Prop where
  ex : ∃ (nw B ini : String) (bmB : List Value) (nm q : Str) (N : Addr) (bs bm : List Value) (sn : List Str) (sub : List Value) (ab : Bool) (col : Option Bool) (dd : Option Addr) (c0 c1 c2 c3 c5 : Option Value),
    ExcBaseFacts B nw ini bmB ∧ (∀ Y : String, bm.contains (.type Y) = bmB.contains (.type Y)) ∧ K.lookup C = some (excClassObj nm q C N bs bm true sn sub ab col dd c0 c1 c2 c3 c5 nw)
  kp : PySem.W.keepIn K (.ref C) = true
theorem exb_v {K : PySem.W.Frag} {C : Addr} (T : OexC K C) : ExB K C := by
  obtain ⟨nm, q, N, bs, bm, sn, sub, ab, col, dd, k0, k1, k2, k3, k5, hC, hbm⟩ := T.cls
  exact ⟨⟨_, _, _, _, nm, q, N, bs, bm, sn, sub, ab, col, dd, k0, k1, k2, k3, k5, F.excBase_ValueError, fun Y => PySem.HandSPX.refsVE_contains Y bm hbm, hC⟩, T.kC⟩
theorem exb_o {K : PySem.W.Frag} {C : Addr} {nw ini : String} {tl : List Value} (U : Under nw ini tl) (T : OvC K C nw tl) : ExB K C := by
  obtain ⟨nm, q, N, bs, sn, sub, ab, col, dd, k0, k1, k2, k3, k5, hC⟩ := T.at_
  obtain ⟨B, base⟩ := U.base
  exact ⟨⟨_, _, _, _, nm, q, N, bs, tl, sn, sub, ab, col, dd, k0, k1, k2, k3, k5, base, fun Y => rfl, hC⟩, T.kC⟩
/-- C(e, ..), the error as a value -/
def tMkE (C : Addr) (sp : Sp) (ta : TA) : TE := fun σ H Q => ta σ H fun vs H1 => vs.length ≤ 1000 ∧ ∀ a, H1 a = none → sp (.ref a :: (vs ++ [])) (upd H1 a (exo a C none)) (fun v H2 => v = .non ∧ Q (.ref a) H2) (fun _ _ _ => False)
/-- C(k = e, ..), the error as a value -/
def tMkK (C : Addr) (sp : Sp) (n : Nat) (gV : List V → List V → List V) (tk : TA) : TE := fun σ H Q => tk σ H fun zs H1 => zs.length = n ∧ ∀ a, H1 a = none → sp (gV [.ref a] zs) (upd H1 a (exo a C none)) (fun v H2 => v = .non ∧ Q (.ref a) H2) (fun _ _ _ => False)
section
variable {X : Cx} {CX : CXT} {x : Str} {C fI : Addr} {k : Nat} {fd : FuncData} {ps ks : List Str} {sp : Sp} {e : Expr} {es : List Expr} {ta tk : TA} {p pos : Pos} {kws : List Keyword} {g : List Value → List Value → List Value} {gV : List V → List V → List V}
theorem pe_mkE (T : ExB X.K C) (iC : PySem.W.findIn X.K (.ref C) "__init__" = some (some (.ref fI)))
    (tI : PySem.W.typeIn X.K (.ref fI) = some (.type "function")) (F1 : FnOk X.prog X.w X.K X.mg X.base CX k fI fd ps sp) (hr : Room (k + 1) X.A) (hb : Binds X.K fd ps []) (hx : Passes CX X (fun _ _ _ => False)) (hg : Gl X x)
    (hm : X.mg x = some (.ref C)) (ha : PA X (e :: es) ta) (hdb : (x == ("__debug__" : Str)) = false := by decide) (he : starEach (e :: es) X.env = (false, eval e X.env) :: starEach es X.env := by rfl)
    (hpl : (backTo pos (starEach es X.env)).any (·.1) = false := by rfl) : PE X (.Call (.Name x p) (e :: es) [] pos) (tMkE C sp ta) := by
  refine ⟨fun pins s σ H Q I h => ?_⟩
  obtain ⟨nw, B, ini, bmB, nm, q, N, bs, bm, sn, sub, ab, col, dd, c0, c1, c2, c3, c5, base, hT, look⟩ := T.ex
  refine wpAny_Call_Name_kw (ld_glob I hg hm (PySem.W.callWith_K (h₀ := X.base) I.ok.mod.kin T.kp (thn (ha.run pos pins s σ H _ I h) fun us s1 hh => ?_) he hpl) hdb)
  obtain ⟨vs, H1, I1, r1, hz, q1⟩ := hh
  refine ⟨I1.kIn, ?_⟩
  show wpAny _ _ (call (.ref C) us) _ _ _
  obtain ⟨A0, ga, dr, tk, os⟩ := s1
  have big : A0.objs.size ≤ A0.objs.size + 1 := Nat.le_succ _
  have hq := q1 (A0.objs.size + 1) (I1.hok.fresh big)
  have kk : ∀ b o, A0.get? b = some o → ((A0.push (PySem.W.kdv_tup us)).push (PySem.HandSPX.excO C A0.objs.size)).get? b = some o := fun b o z => Heap.get?_push_of_some _ (Heap.get?_push_of_some _ z)
  have at1 : ((A0.push (PySem.W.kdv_tup us)).push (PySem.HandSPX.excO C A0.objs.size)).get? (A0.objs.size + 1) = some (PySem.HandSPX.excO C A0.objs.size) := by heap_get
  have I2 : Inv X pins σ (upd H1 (A0.objs.size + 1) (exo (A0.objs.size + 1) C none)) ⟨(A0.push (PySem.W.kdv_tup us)).push (PySem.HandSPX.excO C A0.objs.size), ga, dr, tk, os⟩ :=
    I1.laid (t' := tk) (a := A0.objs.size + 1) (o := exo (A0.objs.size + 1) C none) (h' := (A0.push (PySem.W.kdv_tup us)).push (PySem.HandSPX.excO C A0.objs.size)) kk big (exo_ok at1)
  have r2 : Vals (V.ref (A0.objs.size + 1) :: (vs ++ [])) (Value.ref (A0.objs.size + 1) :: (us ++ [])) := .cons rfl (r1.append .nil)
  have len2 : (Value.ref (A0.objs.size + 1) :: us ++ []).length = ps.length := r2.length.symm.trans (F1.len _ _ _ _ hq)
  have bb := hb ⟨(A0.push (PySem.W.kdv_tup us)).push (PySem.HandSPX.excO C A0.objs.size), ga, dr, tk, os⟩ (Value.ref (A0.objs.size + 1) :: us) I2.kIn len2
  rw [List.cons_append] at bb
  have small : us.length ≤ sizeLine := by
    have e1 := Paired.length r1
    rw [sizeLine_eq]
    omega
  refine wpAny_call (kx_call base hT (kw := []) (I1.kIn _ _ look) (PySem.W.looks_findIn I1.kIn iC) (fun self => PySem.W.bind_fn I1.kIn self tI) small (codeAny_mono (F1.run _ X.stack _ _ ⟨Value.ref (A0.objs.size + 1) :: us, []⟩ (Value.ref (A0.objs.size + 1) :: (us ++ [])) _ _ (fun _ _ _ => False) (hr.make C us []) (I2.env0.make C us []) bb r2 hq) fun r s' hq' => ?_))
  match r, hq' with
  | .error er, z => exact hx pins σ _ _ er s' I2 z
  | .ok (.ret u), z =>
    obtain ⟨v, H2, I3, rv, ev, q2⟩ := I2.after z
    subst ev
    exact ⟨rv, V.ref (A0.objs.size + 1), H2, I3, rfl, q2⟩
  | .ok .next, z => exact z.elim
  | .ok .brk, z => exact z.elim
  | .ok .cont, z => exact z.elim
theorem pe_mkK (T : ExB X.K C) (iC : PySem.W.findIn X.K (.ref C) "__init__" = some (some (.ref fI)))
    (tI : PySem.W.typeIn X.K (.ref fI) = some (.type "function")) (F1 : FnOk X.prog X.w X.K X.mg X.base CX k fI fd ps sp) (hr : Room (k + 1) X.A) (hb : KBn X.K fd ps 1 ks g gV) (hx : Passes CX X (fun _ _ _ => False)) (hg : Gl X x)
    (hm : X.mg x = some (.ref C)) (hkw : PK X kws tk)
    (hall : (backToKw pos (keywordEach kws X.env)).all (·.1.isSome) = true := by rfl) (hks : (backToKw pos (keywordEach kws X.env)).filterMap (·.1) = ks := by rfl) (hdb : (x == ("__debug__" : Str)) = false := by decide)
    (hpl : ((backTo pos (starEach [] X.env)).any (·.1) || (backToKw pos (keywordEach kws X.env)).any (·.1.isNone)) = false := by rfl) :
    PE X (.Call (.Name x p) [] kws pos) (tMkK C sp ks.length gV tk) := by
  refine ⟨fun pins s σ H Q I h => ?_⟩
  obtain ⟨nw, B, ini, bmB, nm, q, N, bs, bm, sn, sub, ab, col, dd, c0, c1, c2, c3, c5, base, hT, look⟩ := T.ex
  refine wpAny_Call_Name_kw (ld_glob I hg hm ?_ hdb)
  refine PySem.W.callWith_KW0 (h₀ := X.base) I.ok.mod.kin T.kp hall ?_ hpl
  refine thn (hkw.run pos pins s σ H _ I h) fun ws s1 hh => ?_
  obtain ⟨zs, H1, I1, rz, l2, q1⟩ := hh
  refine ⟨I1.kIn, ?_⟩
  rw [hks]
  show wpAny _ _ (call (.ref C) [] (ks.zip ws)) _ _ _
  obtain ⟨A0, ga, dr, tk, os⟩ := s1
  have big : A0.objs.size ≤ A0.objs.size + 1 := Nat.le_succ _
  have hq := q1 (A0.objs.size + 1) (I1.hok.fresh big)
  have kk : ∀ b o, A0.get? b = some o → ((A0.push (PySem.W.kdv_tup [])).push (PySem.HandSPX.excO C A0.objs.size)).get? b = some o := fun b o z => Heap.get?_push_of_some _ (Heap.get?_push_of_some _ z)
  have at1 : ((A0.push (PySem.W.kdv_tup [])).push (PySem.HandSPX.excO C A0.objs.size)).get? (A0.objs.size + 1) = some (PySem.HandSPX.excO C A0.objs.size) := by heap_get
  have I2 : Inv X pins σ (upd H1 (A0.objs.size + 1) (exo (A0.objs.size + 1) C none)) ⟨(A0.push (PySem.W.kdv_tup [])).push (PySem.HandSPX.excO C A0.objs.size), ga, dr, tk, os⟩ :=
    I1.laid (t' := tk) (a := A0.objs.size + 1) (o := exo (A0.objs.size + 1) C none) (h' := (A0.push (PySem.W.kdv_tup [])).push (PySem.HandSPX.excO C A0.objs.size)) kk big (exo_ok at1)
  have me : Vals [V.ref (A0.objs.size + 1)] [Value.ref (A0.objs.size + 1)] := .cons rfl .nil
  have bb := hb.to ⟨(A0.push (PySem.W.kdv_tup [])).push (PySem.HandSPX.excO C A0.objs.size), ga, dr, tk, os⟩ [Value.ref (A0.objs.size + 1)] ws I2.kIn rfl (rz.length.symm.trans l2)
  refine wpAny_call (kx_call base hT (us := []) (kw := ks.zip ws) (I1.kIn _ _ look) (PySem.W.looks_findIn I1.kIn iC) (fun self => PySem.W.bind_fn I1.kIn self tI) (Nat.zero_le _) (codeAny_mono (F1.run _ X.stack _ _ ⟨[Value.ref (A0.objs.size + 1)], ks.zip ws⟩ (g [Value.ref (A0.objs.size + 1)] ws) _ _ (fun _ _ _ => False) (hr.make C [] (ks.zip ws)) (I2.env0.make C [] (ks.zip ws)) bb (hb.rel me rz) hq) fun r s' hq' => ?_))
  match r, hq' with
  | .error er, z => exact hx pins σ _ _ er s' I2 z
  | .ok (.ret u), z =>
    obtain ⟨v, H2, I3, rv, ev, q2⟩ := I2.after z
    subst ev
    exact ⟨rv, V.ref (A0.objs.size + 1), H2, I3, rfl, q2⟩
  | .ok .next, z => exact z.elim
  | .ok .brk, z => exact z.elim
  | .ok .cont, z => exact z.elim
end
/-! ### the class of an error that is made, its fields -/
theorem exo_inst {X : Cx} {pins : List (Addr × Obj)} {σ : St} {H : Hp} {s : Shared} {a D : Addr} {d : Option Addr} (I : Inv X pins σ H s) (h : H a = some (exo a D d)) (hd : d = none ∨ ∃ dx fs, d = some dx ∧ H dx = some (exd dx fs)) :
    ∃ ox od, PySem.W.InstAt s.heap a ox D od ∧ ∀ dx, d = some dx → ∃ o, od = some o ∧ s.heap.get? dx = some o := by
  obtain ⟨t1, e1⟩ := exo_at I.hok h
  rcases hd with rfl | ⟨dx, fs, rfl, hx⟩
  · exact ⟨_, none, ⟨e1, rfl, rfl, trivial⟩, fun dx q => by cases q⟩
  · obtain ⟨mA, hns, _⟩ := exd_at I.hok hx
    obtain ⟨od, _, _, ho, _⟩ := id hns
    exact ⟨_, some od, ⟨e1, rfl, rfl, ho⟩, fun d2 q => by cases q; exact ⟨od, rfl, ho⟩⟩
def rIsO (K : PySem.W.Frag) : List V → Hp → VK → Prop := fun xs H Q => ∃ (a D : Addr) (d : Option Addr) (c : V) (u : Value) (b : Bool), xs = [.ref a, c] ∧ ClsV c u ∧ H a = some (exo a D d) ∧ (d = none ∨ ∃ dx fs, d = some dx ∧ H dx = some (exd dx fs)) ∧ ExcC K D ∧
  PySem.W.kitOne K (.ref D) u = some b ∧ Q (.bl b) H
theorem k_isO {X : Cx} {K : PySem.W.Frag} (e : X.K = K := by rfl) : CallR X (.builtin "isinstance") (rIsO K) := by
  subst e
  intro pins s σ H xs us Q I r h
  obtain ⟨a, D, d, c, cv, b, rfl, kc, ha, hd, EC, kit, q⟩ := h
  obtain ⟨u1, u2, rfl, r1, r2⟩ := vals2 r
  cases r1
  have e2 := kc.eq r2
  subst e2
  obtain ⟨ox, od, J, _⟩ := exo_inst I ha hd
  have look : PySem.W.KitX X.K (.ref a) (.ref D) (fun h => PySem.W.InstAt h a ox D od) := by
    obtain ⟨cd, hcd, _⟩ := PySem.W.any_some EC.hd
    have at_ : ∃ c1 d1 cd1 sl1, X.K.lookup D = some ⟨c1, d1, .cls cd1, sl1⟩ := by
      unfold PySem.W.clsIn at hcd
      split at hcd
      · rename_i c1 d1 cd1 sl1 ho
        exact ⟨_, _, _, _, ho⟩
      · cases hcd
    obtain ⟨c1, d1, cd1, sl1, lk⟩ := at_
    refine ⟨fun _ _ _ J => J.type, fun M h kin _ => fun A' Q' E' s' k q => ?_, fun h tp dd its n sl kin htp => Bool.eq_false_iff.mpr fun z => ?_, fun kin J q => PySem.W.exc_class EC kin J q⟩
    · unfold isType loadHead
      exact wpAny_bind (wpAny_loadPart (k _ _ (kin _ _ lk)) (wpAny_pure q))
    · have z2 : D = tp := Value.ref.inj (beq_iff_eq.mp z)
      rw [← z2, kin _ _ lk] at htp
      cases htp
  exact PySem.W.kia_one look I.kIn J kit (fun z => nomatch z) fun tk => ⟨.bl b, H, I.kept (t' := tk) fun _ _ z => z, rfl, q⟩
/-- e.n of an error that is made -/
def tXo (K : PySem.W.Frag) (n : Str) (te : TE) : TE := fun σ H Q => te σ H fun x H1 => ∃ (a C dd : Addr) (fs : List (Str × V)) (v : V), x = .ref a ∧ H1 a = some (exo a C (some dd)) ∧ XfC K C ∧ PySem.W.findIn K (.ref C) n = some none ∧
  H1 dd = some (exd dd fs) ∧ fs.lookup n = some v ∧ Q v H1
theorem pe_xo {X : Cx} {K : PySem.W.Frag} {e : Expr} {te : TE} {pos : Pos} {n : Str} (he : PE X e te) (hK : X.K = K := by rfl) (hb : attributeBase e n X.env (eval e X.env) = eval e X.env := by rfl) : PE X (.Attribute e n pos) (tXo K n te) := by
  subst hK
  refine ⟨fun pins s σ H Q I h => attr_of hb (thn (he.run pins s σ H _ I h) fun u s1 hh => ?_)⟩
  obtain ⟨x, H1, I1, rx, a, C, dd, fs, v, rfl, ha, T, hno, hx, hl, q⟩ := hh
  cases rx
  obtain ⟨ox, od, J, at_⟩ := exo_inst I1 ha (.inr ⟨dd, fs, rfl, hx⟩)
  obtain ⟨o, rfl, ho⟩ := at_ dd rfl
  obtain ⟨mA, hns, hr⟩ := exd_at I1.hok hx
  obtain ⟨o2, ho2, hl2⟩ := lookIn_ns hns
  rw [ho] at ho2
  cases ho2
  obtain ⟨u, hu, ru⟩ := RelO.some_of (v := v) (o := mA n) (by rw [← hl]; exact hr n)
  exact HandSPX.exc_get I1.kIn J T.ga T.gg T.exC (PySem.W.findObj_own T.hdC hno rfl (by rw [hl2, hu])) (handed_of ru) ⟨v, H1, I1.tok _, ru, q⟩
end L2

namespace My
open PySem PySem.Spec PyProof.Rows L2
/-! ### errors that are made -/
def ExAt (H : Hp) (a C : Addr) : List (Str × V) → Prop
  | [] => H a = some (exo a C none)
  | f :: fs => ∃ dx, H a = some (exo a C (some dx)) ∧ H dx = some (exd dx (f :: fs))
theorem ExAt.same {H H' : Hp} {a C : Addr} {fs : List (Str × V)} (h : ExAt H a C fs) (s : Same H H') : ExAt H' a C fs := by
  cases fs with
  | nil => exact s _ _ h
  | cons f fs =>
    obtain ⟨dx, h1, h2⟩ := h
    exact ⟨dx, s _ _ h1, s _ _ h2⟩
theorem ExAt.is {H : Hp} {a C : Addr} {fs : List (Str × V)} (h : ExAt H a C fs) : ∃ d, H a = some (exo a C d) ∧ (d = none ∨ ∃ dx fs, d = some dx ∧ H dx = some (exd dx fs)) := by
  cases fs with
  | nil => exact ⟨none, h, .inl rfl⟩
  | cons f fs =>
    obtain ⟨dx, h1, h2⟩ := h
    exact ⟨some dx, h1, .inr ⟨dx, _, rfl, h2⟩⟩
def sp_exc2 (C : Addr) (f1 f2 : Str) : Sp := fun vs H Q _ => ∃ (a : Addr) (w1 w2 : V), vs = [.ref a, w1, w2] ∧ H a = some (exo a C none) ∧
  ∀ dx, H dx = none → dx ≠ a → Q .non (upd (upd (upd H dx (exd dx [(f1, w1)])) a (exo a C (some dx))) dx (exd dx [(f2, w2), (f1, w1)]))
section
variable {C : Addr} {f1 f2 : Str} {w w2 : V} {H : Hp} {Q : VK}
theorem made0 (k : ∀ a H', Same H H' → ExAt H' a C [] → Q (.ref a) H') : ∀ a, H a = none → sp_excN C [.ref a, w] (upd H a (exo a C none)) (fun v H2 => v = .non ∧ Q (.ref a) H2) (fun _ _ _ => False) :=
  fun a ha => ⟨a, w, rfl, upd_same, rfl, k a _ (same_upd ha _) upd_same⟩
theorem made1 (k : ∀ a H', Same H H' → ExAt H' a C [(f1, w)] → Q (.ref a) H') : ∀ a, H a = none → sp_exc C f1 [.ref a, w] (upd H a (exo a C none)) (fun v H2 => v = .non ∧ Q (.ref a) H2) (fun _ _ _ => False) := by
  refine fun a ha => ⟨a, w, rfl, upd_same, fun dx hdx hne => ⟨rfl, k a _ (fun b o q => ?_) ⟨dx, upd_same, by rw [upd_ne hne, upd_same]⟩⟩⟩
  have b1 := ne_of_none q ha
  rw [upd_ne hne] at hdx
  have b2 := ne_of_none q hdx
  rw [upd_ne b1, upd_ne b2, upd_ne b1]
  exact q
theorem made2 (k : ∀ a H', Same H H' → ExAt H' a C [(f2, w2), (f1, w)] → Q (.ref a) H') : ∀ a, H a = none → sp_exc2 C f1 f2 [.ref a, w, w2] (upd H a (exo a C none)) (fun v H2 => v = .non ∧ Q (.ref a) H2) (fun _ _ _ => False) := by
  refine fun a ha => ⟨a, w, w2, rfl, upd_same, fun dx hdx hne => ⟨rfl, k a _ (fun b o q => ?_) ⟨dx, by rw [upd_ne hne.symm, upd_same], upd_same⟩⟩⟩
  have b1 := ne_of_none q ha
  rw [upd_ne hne] at hdx
  have b2 := ne_of_none q hdx
  rw [upd_ne b2, upd_ne b1, upd_ne b2, upd_ne b1]
  exact q
end
/-- such a class with two fields -/
structure ExcT2 (K : PySem.W.Frag) (mg : Str → Option Value) (name qual f1 f2 : Str) (st : Stmt) where
  C : Addr
  f : Addr
  d : FuncData
  m : mg name = some (.ref C)
  ox : OexC K C
  iC : PySem.W.findIn K (.ref C) "__init__" = some (some (.ref f))
  tI : PySem.W.typeIn K (.ref f) = some (.type "function")
  F : Fun K "__init__" qual st f d
  b : Binds K d ["self", f1, f2] []
  nf : PySem.W.findIn K (.ref C) f1 = some none
  nf2 : PySem.W.findIn K (.ref C) f2 = some none
  xf : XfC K C
  te : PySem.W.exmOne K (.ref C) (.ref C) = some true
def exc_mk2 {K : PySem.W.Frag} {h : Heap} {mg : Str → Option Value} {name qual f1 f2 : Str} {st : Stmt} (X : K.In h) (G : h.Ns mainGlobals mg) {C f : Addr} {d : FuncData} {nm q : Str} {N : Addr} {bs : List Value} {sn : List Str} {sub : List Value}
    {ab : Bool} {col : Option Bool} {dd : Option Addr} {m0 m1 m2 m3 m5 : Option Value} (F : Fun K "__init__" qual st f d) (b : Binds K d ["self", f1, f2] [])
    (aC : PySem.W.nsIn K mainGlobals name = some (some (.ref C)))
    (look : K.lookup C = some (excClassObj nm q C N bs [.type "ValueError", .type "Exception", .type "BaseException", .type "object"] true sn sub ab col dd m0 m1 m2 m3 m5 "ValueError.__new__"))
    (sa : PySem.W.findIn K (.ref C) "__setattr__" = some (some (.builtin "object.__setattr__")))
    (ga : PySem.W.findIn K (.ref C) "__getattribute__" = some (some (.builtin "BaseException.__getattribute__")))
    (gg : PySem.W.findIn K (.ref C) "__getattr__" = some none) (n1 : PySem.W.findIn K (.ref C) f1 = some none) (n2 : PySem.W.findIn K (.ref C) f2 = some none)
    (ini : PySem.W.findIn K (.ref C) "__init__" = some (some (.ref f))) (ti : PySem.W.typeIn K (.ref f) = some (.type "function"))
    (kC : PySem.W.keepIn K (.ref C) = true) (eC : PySem.W.subIn K (.ref C) (.type "BaseException") = some true) (tC : PySem.W.typeIn K (.ref C) = some (.type "type"))
    (hC : PySem.W.hasDictIn K C = true) (iC : PySem.W.isClsIn K C = true) (sC : PySem.W.subIn K (.ref C) (.ref C) = some true) : ExcT2 K mg name qual f1 f2 st where
  C := C
  f := f
  d := d
  m := PySem.W.mg_of X G aC
  ox := ⟨⟨nm, q, N, bs, _, sn, sub, ab, col, dd, m0, m1, m2, m3, m5, look, by decide +kernel⟩, sa, eC, tC, kC⟩
  iC := ini
  tI := ti
  F := F
  b := b
  nf := n1
  nf2 := n2
  xf := ⟨ga, gg, eC, hC⟩
  te := exm_me eC iC tC sC
/-- what a maker binds, its arguments by names -/
theorem vals_pickX {zs : List V} {ws : List Value} (h : Vals zs ws) : ∀ is : List Nat, Vals (is.map fun i => zs.getD i .non) (is.map fun i => ws.getD i .none)
  | [] => .nil
  | i :: r => by
    have gen : ∀ {zs : List V} {ws : List Value}, Vals zs ws → ∀ i, RelV (zs.getD i .non) (ws.getD i .none) := fun h => by
      induction h with
      | nil => exact fun i => rfl
      | cons h1 _ ih =>
        intro i
        cases i with
        | zero => exact h1
        | succ i => exact ih i
    exact .cons (gen h i) (vals_pickX h r)
theorem kb1 {K : PySem.W.Frag} {x qual : Str} {st : Stmt} {f : Addr} {fd : FuncData} (F : Fun K x qual st f fd) {ps ks : List Str} (is : List Nat)
    (h : ∀ (kV doc pm : Value) (an : Option Addr) (cdv ct : Value) (u : Value) (ws : List Value), ws.length = ks.length → bindArgs (PySem.W.fnOf x qual (defArgs st) (defBody st) (defScope st) .none kV doc pm an cdv ct) ⟨[u], ks.zip ws⟩ = pure (ps.zip (u :: is.map fun i => ws.getD i .none))) :
    KBn K fd ps 1 ks (fun us ws => us ++ is.map fun i => ws.getD i .none) (fun vs zs => vs ++ is.map fun i => zs.getD i .non) := by
  obtain ⟨oc, od, kV, doc, pm, an, cdv, ct, osl, rfl, lk, hcd⟩ := F.ex
  refine ⟨fun s us ws X l1 l2 => ?_, fun r1 r2 => r1.append (vals_pickX r2 is)⟩
  match us, l1 with
  | [u], _ => exact .of_eq (h kV doc pm an cdv ct u ws l2)
/-! ### of which of Python's own classes they are -/
theorem kit_vT {K : PySem.W.Frag} {C : Addr} (T : OexC K C) (Y : String) (hY : PySem.W.kitMeta Y = true) :
    PySem.W.kitOne K (.ref C) (.type Y) = some ([Value.type "ValueError", .type "Exception", .type "BaseException", .type "object"].contains (.type Y)) := by
  obtain ⟨nm, q, N, bs, bm, sn, sub, ab, col, dd, k0, k1, k2, k3, k5, hC, hbm⟩ := T.cls
  have hc : PySem.W.clsIn K C = some { name := nm, bases := bs, mro := .ref C :: bm, ns := N, qualname := q, hasDict := true, slotNames := sn, subclasses := sub, abstract := ab, collection := col, hasDel := false } := by
    unfold PySem.W.clsIn
    rw [hC] <;> rfl
  have e1 : (Value.ref C == Value.type Y) = false := rfl
  unfold PySem.W.kitOne
  rw [e1, if_neg Bool.false_ne_true]
  unfold PySem.W.kitCls
  dsimp only
  rw [if_pos hY]
  unfold PySem.W.subIn
  dsimp only
  unfold PySem.W.mroIn
  rw [hc, Option.bind_some]
  show some ((Value.ref C :: bm).contains (Value.type Y)) = _
  rw [List.contains_cons, PySem.HandSPX.refsVE_contains Y bm hbm]
  rfl
theorem kit_oT {K : PySem.W.Frag} {C : Addr} {nw : String} {tl : List Value} (T : OvC K C nw tl) (Y : String) (hY : PySem.W.kitMeta Y = true) : PySem.W.kitOne K (.ref C) (.type Y) = some (tl.contains (.type Y)) := by
  obtain ⟨nm, q, N, bs, sn, sub, ab, col, dd, k0, k1, k2, k3, k5, hC⟩ := T.at_
  have hc : PySem.W.clsIn K C = some { name := nm, bases := bs, mro := .ref C :: tl, ns := N, qualname := q, hasDict := true, slotNames := sn, subclasses := sub, abstract := ab, collection := col, hasDel := false } := by
    unfold PySem.W.clsIn
    rw [hC] <;> rfl
  have e1 : (Value.ref C == Value.type Y) = false := rfl
  unfold PySem.W.kitOne
  rw [e1, if_neg Bool.false_ne_true]
  unfold PySem.W.kitCls
  dsimp only
  rw [if_pos hY]
  unfold PySem.W.subIn
  dsimp only
  unfold PySem.W.mroIn
  rw [hc, Option.bind_some]
  show some ((Value.ref C :: tl).contains (Value.type Y)) = _
  rw [List.contains_cons]
  rfl
/-! ### repr of a list of things, some of them a dict -/
inductive Dz (K : PySem.W.Frag) (H : Hp) : V → PyData → Prop
  | base {v : V} {d : PyData} : Dp K H v d → d.hasDict = false → d.showable = true → Dz K H v d
  | dct {a : Addr} {x : Str} {i : Int} : H a = some (.dK [(.inr x, .int i)]) → (PyData.dict [(.str x, .int i)]).showable = true → Dz K H (.ref a) (.dict [(.str x, .int i)])
inductive DzAll (K : PySem.W.Frag) (H : Hp) : List V → List PyData → Prop
  | nil : DzAll K H [] []
  | cons {v : V} {vs : List V} {d : PyData} {ds : List PyData} (h : Dz K H v d) (r : DzAll K H vs ds) : DzAll K H (v :: vs) (d :: ds)
theorem Dz.same {K : PySem.W.Frag} {H H' : Hp} {v : V} {d : PyData} (h : Dz K H v d) (s : Same H H') : Dz K H' v d := by
  cases h with
  | base h1 h2 h3 => exact .base (h1.same_at s) h2 h3
  | dct h1 h2 => exact .dct (s _ _ h1) h2
inductive EachR (h : Heap) : List Value → List PyData → Prop
  | nil : EachR h [] []
  | cons {v : Value} {vs : List Value} {d : PyData} {ds : List PyData} {as : List Addr} (r : Reads h v d as) (hs : d.showable = true) (hd : d.hasDict = true → sysModules ∉ as) (rest : EachR h vs ds) : EachR h (v :: vs) (d :: ds)
theorem EachR.reads {h : Heap} {vs : List Value} {ds : List PyData} (e : EachR h vs ds) : ∃ as, ReadsAll h vs ds as := by
  induction e with
  | nil => exact ⟨_, .nil⟩
  | cons r _ _ _ ih =>
    obtain ⟨as, q⟩ := ih
    exact ⟨_, .cons r q⟩
theorem EachR.rep {prog : Program} {w : World} {h : Heap} {vs : List Value} {ds : List PyData} (e : EachR h vs ds) (hz : ∀ t ∈ PyData.shownAll ds, t.length ≤ sizeLine) :
    ∃ bs, ReadAtMost h (PyData.depthAll ds) bs ∧ ReprAllK prog w bs h (PyData.depthAll ds) vs (PyData.shownAll ds) := by
  induction e with
  | nil => exact ⟨[], (fun _ z => nomatch z), by simp only [PyData.shownAll]; exact .nil⟩
  | cons r hs hd _ ih =>
    obtain ⟨b1, m1, k1⟩ := ReprK.of_reads (prog := prog) (w := w) r hs hd (hz _ (by simp only [PyData.shownAll]; exact List.mem_cons_self ..))
    obtain ⟨b2, m2, k2⟩ := ih fun t ht => hz t (by simp only [PyData.shownAll]; exact List.mem_cons_of_mem _ ht)
    refine ⟨b1 ++ b2, fun b hm => ?_, ?_⟩
    · simp only [PyData.depthAll]
      rcases List.mem_append.mp hm with q | q
      · obtain ⟨d', as', r', z⟩ := m1 b q
        exact ⟨d', as', r', Nat.le_trans z (Nat.le_max_left _ _)⟩
      · obtain ⟨d', as', r', z⟩ := m2 b q
        exact ⟨d', as', r', Nat.le_trans z (Nat.le_max_right _ _)⟩
    · simp only [PyData.depthAll, PyData.shownAll]
      exact .cons ((k1.more fun b hb => List.mem_append_left _ hb).level_le (Nat.le_max_left _ _)) (k2.more_le (fun b hb => List.mem_append_right _ hb) (Nat.le_max_right _ _))
section
variable {X : Cx} {pins : List (Addr × Obj)} {σ : L2.St} {H : Hp} {s : Shared}
theorem Dz.reads (I : Inv X pins σ H s) {v : V} {d : PyData} {u : Value} (h : Dz X.K H v d) (r : RelV v u) : ∃ as, Reads s.heap u d as ∧ (d.hasDict = true → sysModules ∉ as) ∧ d.showable = true := by
  cases h with
  | base h1 h2 h3 =>
    obtain ⟨as, q⟩ := Dp.reads I d v u h1 r
    exact ⟨as, q, fun z => (Bool.noConfusion (z.symm.trans h2) : sysModules ∉ as), h3⟩
  | @dct a x i h1 h2 =>
    cases r
    obtain ⟨_, ns, vs, kv, o, es, ep, e1, e2, e3, _, e5, _⟩ := dk_of I.hok h1
    cases kv with
    | @cons p q ps qs hpq t =>
    cases t
    obtain ⟨q1, q2⟩ := q
    obtain ⟨e6, t6, e7⟩ := hpq
    cases e6
    dsimp only at e7
    subst e7
    obtain ⟨es⟩ := es
    have e5 : Pairs (mixKind X.prog X.w) es [(Sum.inr x, Value.int i t6)] := e5
    cases e5 with
    | @cons en _ es _ hk hv hn =>
    cases hn
    obtain ⟨z, t, z1, z2⟩ : ∃ z t, (Sum.inr x : Key) = Sum.inr z ∧ en.key = Value.str z t := by
      rcases keyIs_shape (k := .inr x) (v := en.key) hk with ⟨j, t, z1, _⟩ | ⟨z, t, z1, z2⟩
      · cases z1
      · exact ⟨z, t, z1, z2⟩
    cases z1
    have hv : en.val = Value.int i t6 := hv
    refine ⟨_, Reads.dict (kvs := [(.str x, .int i)]) e1 e2.1 e3 (as := []) (bs := []) ?_ ?_, fun _ => ?_, h2⟩
    · show ReadsAll _ [en.key] [.str x] []
      rw [z2]
      exact .cons (.str x t) .nil
    · show ReadsAll _ [en.val] [.int i] []
      rw [hv]
      exact .cons (.int i t6) .nil
    · show sysModules ∉ [a]
      intro z
      have z := List.mem_singleton.mp z
      rw [← z] at ns
      simp at ns
theorem DzAll.each (I : Inv X pins σ H s) : ∀ {vs : List V} {ds : List PyData} {us : List Value}, DzAll X.K H vs ds → Vals vs us → EachR s.heap us ds
  | _, _, _, .nil, .nil => .nil
  | _, _, _, .cons h r, .cons r1 r2 => by
    obtain ⟨as, q1, q2, q3⟩ := Dz.reads I h r1
    exact .cons q1 q3 q2 (DzAll.each I r r2)
end
def rReprZ (K : PySem.W.Frag) : List V → Hp → VK → Prop := fun xs H Q => ∃ (p : Addr) (v : V) (vs : List V) (ds : List PyData), xs = [.ref p] ∧ SqL K H p (v :: vs) ∧ DzAll K H (v :: vs) ds ∧ (PyData.list ds).depth ≤ 8 ∧ (PyData.list ds).shown.length ≤ sizeLine ∧ Q (.str (PyData.list ds).shown) H
theorem k_reprZ {X : Cx} {K : PySem.W.Frag} (hu : X.A.units + 64 < cLine) (hg : X.A.guards = some []) (e : X.K = K := by rfl) : CallR X (.builtin "repr") (rReprZ K) := by
  subst e
  intro pins s σ H xs us Q I r h
  obtain ⟨p, v, vs, ds, rfl, hs, hd, h8, hz, q⟩ := h
  obtain ⟨u, rfl, ru⟩ := vals1 r
  cases ru
  obtain ⟨its, rv, ⟨o, n, ho, hc, _, hda⟩, _⟩ := I.list hs
  have each := DzAll.each I hd rv
  obtain ⟨as, all⟩ := each.reads
  have hz' : (listText (PyData.shownAll ds)).length ≤ sizeLine := by simpa only [PyData.shown] using hz
  obtain ⟨bs, hb, hk⟩ := each.rep (prog := X.prog) (w := X.w) fun t ht => Nat.le_trans (listText_mem_le ht) hz'
  have hna : p ∉ bs := not_mem_of_deeper (.list ho hc hda all) (by simp only [PyData.depth]; omega) hb
  simp only [PyData.depth] at h8
  match its, rv with
  | it :: its, _ =>
  refine call_repr_slot (by omega) ⟨o, ho, hc⟩ F.slot_list_repr.toG ?_
  refine call_list_reprK ho hc hda hna (by simpa using hk.length_eq) (fun i y e => hk.item i y (by simpa using e)) hg (fun b _ => Clear.nil b) (by show X.A.units + 1 + (PyData.depthAll ds + 1) < cLine; omega) (fun _ _ e => e) (fun h' u tk hk' => ?_) hz'
  refine ⟨_, _, rfl, .str _, H, I.kept hk', ⟨_, rfl⟩, ?_⟩
  have q : Q (.str (PyData.list ds).shown) H := q
  rw [show (PyData.list ds).shown = listText (PyData.shownAll ds) by simp only [PyData.shown]] at q
  exact q
end My

/-! Any texts read as rows: what is split, which press a part writes, the first of what is wrong; errors with two fields let out. -/
namespace My
open PySem PySem.Spec PyProof.Rows L2
/-! ### how long what is split is -/
theorem spl_sum {S : List Nat} (hS : 1 ≤ S.length) : ∀ (l : List Nat) (k : Nat) (acc : List Nat), k ≤ l.length → ((TL.spl S k acc l).map List.length).sum + (TL.spl S k acc l).length * S.length + k ≤ acc.length + l.length + S.length ∧ 1 ≤ (TL.spl S k acc l).length
  | [], k, acc, h => by
    have k0 : k = 0 := Nat.le_zero.mp h
    subst k0
    rw [TL.spl_nil]
    simp
  | c :: r, 0, acc, _ => by
    cases hp : TL.pre S (c :: r) with
    | true =>
      have lS : S.length ≤ r.length + 1 := by
        have e : (c :: r).take S.length = S := by
          have z : ((c :: r).take S.length == S) = true := hp
          exact beq_iff_eq.mp z
        have q := congrArg List.length e
        rw [List.length_take, List.length_cons] at q
        omega
      have ih := spl_sum hS r (S.length - 1) [] (by omega)
      rw [TL.spl_hit hp, List.map_cons, List.sum_cons, List.length_cons, Nat.succ_mul, List.length_cons]
      rw [List.length_nil] at ih
      omega
    | false =>
      have ih := spl_sum hS r 0 (acc ++ [c]) (Nat.zero_le _)
      rw [TL.spl_miss hp]
      rw [List.length_append, List.length_singleton] at ih
      rw [List.length_cons]
      omega
  | c :: r, k + 1, acc, h => by
    have ih := spl_sum hS r k acc (by rw [List.length_cons] at h; omega)
    show ((TL.spl S k acc r).map List.length).sum + (TL.spl S k acc r).length * S.length + (k + 1) ≤ acc.length + (c :: r).length + S.length ∧ 1 ≤ (TL.spl S k acc r).length
    rw [List.length_cons]
    omega
theorem split_sum {x y : Str} (hy : 1 ≤ y.length) (hk : y.cps.all (· < 256) = true) : ((Txt.split x y).map (·.length)).sum + (Txt.split x y).length * y.length ≤ x.length + y.length ∧ 1 ≤ (Txt.split x y).length := by
  have ne : TL.tl y ≠ [] := fun z => by
    rw [TL.len_tl, z] at hy
    exact absurd hy (by decide)
  have e := TL.split_spl x y ne (TL.kind_ok hk)
  have q := spl_sum (S := TL.tl y) (by rw [← TL.len_tl]; exact hy) (TL.tl x) 0 [] (Nat.zero_le _)
  rw [← e, List.length_map, List.map_map, ← TL.len_tl, ← TL.len_tl] at q
  have e2 : (Txt.split x y).map (List.length ∘ TL.tl) = (Txt.split x y).map (·.length) := List.map_congr_left fun z _ => (TL.len_tl z).symm
  rw [e2] at q
  simpa using q
theorem join_len (y : Str) (ps : List Str) : (Txt.join y ps).length ≤ (ps.map (·.length)).sum + ps.length * y.length := by
  rw [TL.len_tl, TL.join_eq, TL.tl_join]
  have gen : ∀ ps : List Str, (TL.joinL (TL.tl y) (ps.map TL.tl)).length ≤ (ps.map (·.length)).sum + ps.length * y.length := by
    intro ps
    induction ps with
    | nil => exact Nat.zero_le _
    | cons p r ih =>
      cases r with
      | nil =>
        show (TL.tl p).length ≤ p.length + 0 + 1 * y.length
        rw [← TL.len_tl]
        omega
      | cons q r =>
        show (TL.tl p ++ (TL.tl y ++ TL.joinL (TL.tl y) ((q :: r).map TL.tl))).length ≤ _
        rw [List.length_append, List.length_append, ← TL.len_tl, ← TL.len_tl]
        simp only [List.map_cons, List.sum_cons, List.length_cons, Nat.succ_mul] at ih ⊢
        omega
  exact gen ps
/-! ### which press a part writes -/
def findP (s : Str) : Option Pr := (allPr 4).find? fun p => decide (prT p = s)
theorem findP_some {s : Str} {p : Pr} (h : findP s = some p) : p ∈ allPr 4 ∧ prT p = s :=
  ⟨List.mem_of_find?_eq_some h, of_decide_eq_true (List.find?_some (p := fun p => decide (prT p = s)) h)⟩
theorem findP_of {p : Pr} (h : p ∈ allPr 4) : findP (prT p) = some p := by
  cases e : findP (prT p) with
  | none =>
    have q := List.find?_eq_none.mp e p h
    exact absurd (decide_eq_true rfl) q
  | some q =>
    obtain ⟨a, b⟩ := findP_some e
    rw [pr_inj a h b]
theorem findP_none {s : Str} (h : ∀ p ∈ allPr 4, prT p ≠ s) : findP s = none := by
  refine List.find?_eq_none.mpr fun p hp z => ?_
  exact h p hp (of_decide_eq_true z)
theorem findP_no {s : Str} (h : findP s = none) : ∀ p ∈ allPr 4, prT p ≠ s := fun p hp e => by
  have q := List.find?_eq_none.mp h p hp
  exact q (decide_eq_true e)
/-- the presses of a line, or the first part that is wrong -/
def partF : Nat → List Str → Nat ⊕ List Pr
  | _, [] => .inr []
  | j, p :: r => if j = 8 then .inl (j + 1) else match findP p with
    | none => .inl (j + 1)
    | some q => match partF (j + 1) r with
      | .inl e => .inl e
      | .inr qs => .inr (q :: qs)
def lineF (line : Str) : Nat ⊕ List Pr := if line = "-" then .inr [] else partF 0 (Txt.split line ", ")
/-- the row of lines, or the line and the part that is wrong first -/
def linesF : Nat → List Str → (Nat × Nat) ⊕ List (List Pr)
  | _, [] => .inr []
  | j, l :: r => if j = 200 then .inl (j + 1, 0) else match lineF l with
    | .inl e => .inl (j + 1, e)
    | .inr st => match linesF (j + 1) r with
      | .inl e => .inl e
      | .inr row => .inr (st :: row)
def textF (s : Str) : (Nat × Nat) ⊕ List (List Pr) := if s = "" then .inr [] else linesF 0 (Txt.split s "\n")
def thF : Th → (Nat × Nat) ⊕ List (List Pr)
  | .str s => textF s
  | _ => .inl (0, 0)
/-- what stands ahead -/
def preS {α ε : Type} (qs : List α) : ε ⊕ List α → ε ⊕ List α
  | .inl e => .inl e
  | .inr x => .inr (qs ++ x)
theorem part_step {p : Str} {q : Pr} {r : List Str} {j : Nat} (hj : j ≠ 8) (h : findP p = some q) (qs : List Pr) : preS qs (partF j (p :: r)) = preS (qs ++ [q]) (partF (j + 1) r) := by
  show preS qs (if j = 8 then .inl (j + 1) else match findP p with
    | none => .inl (j + 1)
    | some q => match partF (j + 1) r with
      | .inl e => .inl e
      | .inr qs => .inr (q :: qs)) = _
  rw [if_neg hj, h]
  dsimp only
  cases partF (j + 1) r with
  | inl e => rfl
  | inr x =>
    show (Sum.inr (qs ++ q :: x) : Nat ⊕ List Pr) = .inr (qs ++ [q] ++ x)
    rw [List.append_assoc]
    rfl
theorem part_bad {p : Str} {r : List Str} {j : Nat} (h : j = 8 ∨ findP p = none) : partF j (p :: r) = .inl (j + 1) := by
  show (if j = 8 then _ else match findP p with
    | none => _
    | some q => _) = _
  by_cases hj : j = 8
  · rw [if_pos hj]
  · rw [if_neg hj]
    rcases h with h | h
    · exact absurd h hj
    · rw [h]
theorem line_step {l : Str} {st : List Pr} {r : List Str} {j : Nat} (hj : j ≠ 200) (h : lineF l = .inr st) (qs : List (List Pr)) : preS qs (linesF j (l :: r)) = preS (qs ++ [st]) (linesF (j + 1) r) := by
  show preS qs (if j = 200 then .inl (j + 1, 0) else match lineF l with
    | .inl e => .inl (j + 1, e)
    | .inr st => match linesF (j + 1) r with
      | .inl e => .inl e
      | .inr row => .inr (st :: row)) = _
  rw [if_neg hj, h]
  dsimp only
  cases linesF (j + 1) r with
  | inl e => rfl
  | inr x =>
    show (Sum.inr (qs ++ st :: x) : (Nat × Nat) ⊕ List (List Pr)) = .inr (qs ++ [st] ++ x)
    rw [List.append_assoc]
    rfl
theorem line_late {l : Str} {r : List Str} : linesF 200 (l :: r) = .inl (201, 0) := rfl
theorem line_bad {l : Str} {r : List Str} {j e : Nat} (hj : j ≠ 200) (h : lineF l = .inl e) : linesF j (l :: r) = .inl (j + 1, e) := by
  show (if j = 200 then _ else match lineF l with
    | .inl e => _
    | .inr st => _) = _
  rw [if_neg hj, h]
theorem part_ok : ∀ {ps : List Str} {j : Nat} {qs : List Pr}, partF j ps = .inr qs → j ≤ 8 → j + qs.length ≤ 8 ∧ ∀ p ∈ qs, p ∈ allPr 4
  | [], j, qs, h, hj => by
    cases h
    exact ⟨hj, fun p hp => by cases hp⟩
  | p :: r, j, qs, h, hj => by
    have h : (if j = 8 then .inl (j + 1) else match findP p with
      | none => .inl (j + 1)
      | some q => match partF (j + 1) r with
        | .inl e => .inl e
        | .inr qs => .inr (q :: qs)) = (.inr qs : Nat ⊕ List Pr) := h
    by_cases h8 : j = 8
    · rw [if_pos h8] at h
      cases h
    rw [if_neg h8] at h
    cases e : findP p with
    | none =>
      rw [e] at h
      cases h
    | some q =>
      rw [e] at h
      dsimp only at h
      cases e2 : partF (j + 1) r with
      | inl x =>
        rw [e2] at h
        cases h
      | inr x =>
        rw [e2] at h
        cases h
        obtain ⟨a, b⟩ := part_ok e2 (by omega)
        refine ⟨by rw [List.length_cons]; omega, fun z hz => ?_⟩
        rcases List.mem_cons.mp hz with rfl | hz
        · exact (findP_some e).1
        · exact b z hz
theorem line_ok {l : Str} {st : List Pr} (h : lineF l = .inr st) : st.length ≤ 8 ∧ ∀ p ∈ st, p ∈ allPr 4 := by
  unfold lineF at h
  by_cases e : l = "-"
  · rw [if_pos e] at h
    cases h
    exact ⟨Nat.zero_le _, fun p hp => by cases hp⟩
  · rw [if_neg e] at h
    have q := part_ok h (Nat.zero_le _)
    exact ⟨by omega, q.2⟩
theorem lines_ok : ∀ {ls : List Str} {j : Nat} {row : List (List Pr)}, linesF j ls = .inr row → j ≤ 200 → j + row.length ≤ 200 ∧ ∀ st ∈ row, st.length ≤ 8 ∧ ∀ p ∈ st, p ∈ allPr 4
  | [], j, qs, h, hj => by
    cases h
    exact ⟨hj, fun p hp => by cases hp⟩
  | l :: r, j, qs, h, hj => by
    have h : (if j = 200 then .inl (j + 1, 0) else match lineF l with
      | .inl e => .inl (j + 1, e)
      | .inr st => match linesF (j + 1) r with
        | .inl e => .inl e
        | .inr row => .inr (st :: row)) = (.inr qs : (Nat × Nat) ⊕ List (List Pr)) := h
    by_cases h8 : j = 200
    · rw [if_pos h8] at h
      cases h
    rw [if_neg h8] at h
    cases e : lineF l with
    | inl x =>
      rw [e] at h
      cases h
    | inr st =>
      rw [e] at h
      dsimp only at h
      cases e2 : linesF (j + 1) r with
      | inl x =>
        rw [e2] at h
        cases h
      | inr x =>
        rw [e2] at h
        cases h
        obtain ⟨a, b⟩ := lines_ok e2 (by omega)
        refine ⟨by rw [List.length_cons]; omega, fun z hz => ?_⟩
        rcases List.mem_cons.mp hz with rfl | hz
        · exact line_ok e
        · exact b z hz
theorem th_ok {d : Th} {row : List (List Pr)} (h : thF d = .inr row) : OkR 4 row := by
  have go : ∀ s, textF s = .inr row → OkR 4 row := fun s h => by
    unfold textF at h
    by_cases e : s = ""
    · rw [if_pos e] at h
      cases h
      exact ⟨Nat.zero_le _, fun st hs => by cases hs⟩
    · rw [if_neg e] at h
      obtain ⟨a, b⟩ := lines_ok h (Nat.zero_le _)
      exact ⟨by omega, fun st hs => ⟨(b st hs).1, fun p hp => all_ok ((b st hs).2 p hp)⟩⟩
  cases d with
  | str s => exact go s h
  | _ => cases h
/-- what is told of a text: a row in a list, or what is wrong -/
def outT : (Nat × Nat) ⊕ List (List Pr) → PyData
  | .inl e => .tuple [.str "text", .int (e.1 : Nat), .int (e.2 : Nat)]
  | .inr row => .list [.tuple (row.map fun st => .tuple (st.map prD))]
theorem bad_small {d : Th} {e : Nat × Nat} (h : thF d = .inl e) : e.1 ≤ 201 ∧ e.2 ≤ 9 := by
  have pb : ∀ (ps : List Str) (j x : Nat), partF j ps = .inl x → j ≤ 8 → x ≤ 9 := fun ps => by
    induction ps with
    | nil => intro j x h; cases h
    | cons p r ih =>
      intro j x h hj
      by_cases b : j = 8 ∨ findP p = none
      · rw [part_bad b] at h
        cases h
        omega
      · have b8 : j ≠ 8 := fun z => b (.inl z)
        cases e : findP p with
        | none => exact absurd (.inr e) b
        | some q =>
          have z := part_step (r := r) b8 e []
          rw [h] at z
          cases e2 : partF (j + 1) r with
          | inl y =>
            rw [e2] at z
            cases z
            exact ih (j + 1) x e2 (by omega)
          | inr y =>
            rw [e2] at z
            cases z
  have lb : ∀ (l : Str) (x : Nat), lineF l = .inl x → x ≤ 9 := fun l x h => by
    unfold lineF at h
    by_cases e : l = "-"
    · rw [if_pos e] at h
      cases h
    · rw [if_neg e] at h
      exact pb _ _ _ h (Nat.zero_le _)
  have go : ∀ (ls : List Str) (j : Nat) (e : Nat × Nat), linesF j ls = .inl e → j ≤ 200 → e.1 ≤ 201 ∧ e.2 ≤ 9 := fun ls => by
    induction ls with
    | nil => intro j x h; cases h
    | cons l r ih =>
      intro j x h hj
      by_cases h2 : j = 200
      · subst h2
        rw [line_late] at h
        cases h
        exact ⟨Nat.le_refl _, Nat.zero_le _⟩
      · cases e : lineF l with
        | inl y =>
          rw [line_bad h2 e] at h
          cases h
          exact ⟨by show j + 1 ≤ 201; omega, lb _ _ e⟩
        | inr st =>
          have z := line_step (r := r) h2 e []
          rw [h] at z
          cases e2 : linesF (j + 1) r with
          | inl y =>
            rw [e2] at z
            cases z
            exact ih (j + 1) x e2 (by omega)
          | inr y =>
            rw [e2] at z
            cases z
  cases d with
  | str s =>
    have h : textF s = .inl e := h
    unfold textF at h
    by_cases e : s = ""
    · rw [if_pos e] at h
      cases h
    · rw [if_neg e] at h
      exact go _ _ _ h (Nat.zero_le _)
  | _ =>
    cases h
    exact ⟨Nat.zero_le _, Nat.zero_le _⟩
/-! ### errors with two fields -/
theorem exc_made2 {C : Addr} {f1 f2 : Str} {w w2 : V} {H : Hp} {Q : XK} (k : ∀ d H', Same H H' → H' d = some (.xd [(f2, w2), (f1, w)]) → Q (.ref C) (some d) H') :
    ∀ a, H a = none → sp_exc2 C f1 f2 (.ref a :: ([w, w2] ++ [])) (upd H a (exo a C none)) (fun v H2 => v = .non ∧ ∃ (d : Addr) (fs : List (Str × V)),
      H2 a = some (exo a C (some d)) ∧ H2 d = some (exd d fs) ∧ H d = none ∧ Q (.ref C) (some d) (upd (del H2 a) d (.xd fs))) (fun _ _ _ => False) := by
  intro a ha
  refine ⟨a, w, w2, rfl, upd_same, fun dx hdx hne => ⟨rfl, dx, [(f2, w2), (f1, w)], by rw [upd_ne hne.symm, upd_same], upd_same, ?_, ?_⟩⟩
  · rw [upd_ne hne] at hdx
    exact hdx
  · rw [upd_ne hne] at hdx
    refine k dx _ (fun b o q => ?_) upd_same
    have b1 := ne_of_none q ha
    have b2 := ne_of_none q hdx
    rw [upd_ne b2, del_ne b1, upd_ne b2, upd_ne b1, upd_ne b2, upd_ne b1]
    exact q
def RaiseT (C : Addr) (H : Hp) (E : XK) (l w : Nat) : Prop := ∀ dd H', Same H H' → H' dd = some (.xd [("word", .int (w : Nat)), ("line", .int (l : Nat))]) → E (.ref C) (some dd) H'
theorem RaiseT.at {C : Addr} {H H' : Hp} {E : XK} {l w : Nat} (h : RaiseT C H E l w) (s : Same H H') : RaiseT C H' E l w := fun dd H2 s2 a => h dd H2 (s.trans s2) a
def flt2 (K : PySem.W.Frag) (C : Addr) (Q : VK) : XK := fun cls d H => cls = .ref C ∧ ∃ (dd : Addr) (w1 w2 : V), d = some dd ∧ H dd = some (.xd [("word", w2), ("line", w1)]) ∧ ∀ p H', Same H H' → SqT K H' p [.str "text", w1, w2] → Q (.ref p) H'
def sp_fault2 (K : PySem.W.Frag) (C : Addr) : Sp := fun vs H Q _ => ∃ (a : Addr) (cls : Value) (d : Option Addr), vs = [.ref a] ∧ H a = some (exI a cls d) ∧ flt2 K C Q cls d H
def TTo2 (K : PySem.W.Frag) (C : Addr) : (XK → Hp → VK → Prop) → Hp → VK → Prop := fun tl H Q => ∀ H0, Same H H0 → ∀ Q' : VK, (∀ v H1, (∀ p, H1 p = none → Q (.ref p) (upd H1 p (.lst [v]))) → Q' v H1) → tl (flt2 K C Q) H0 Q'
theorem flt2.up {K : PySem.W.Frag} {C : Addr} {Q : VK} {cls : Value} {d : Option Addr} {H H1 : Hp} (h : flt2 K C Q cls d H) (s : Same H H1) : flt2 K C Q cls d H1 := by
  obtain ⟨e, dd, w1, w2, e1, e2, k⟩ := h
  exact ⟨e, dd, w1, w2, e1, s _ _ e2, fun p H' s2 => k p H' (s.trans s2)⟩
section
variable {K : PySem.W.Frag} {P C : Addr} {q : Str} {t : XK → TE} {σ : L2.St} {H : Hp} {Q : VK} {o : (Nat × Nat) ⊕ List (List Pr)}
theorem lam_t (T : LamX.Tabs [(P, q)] H) (body : ∀ H0 (E : XK) (Q' : VK), LamX.ExtN H H0 → (∀ row, o = .inr row → ∀ x H', Same H0 H' → Dp K H' x (.tuple (row.map fun st => .tuple (st.map prD))) → Q' x H') → (∀ e, o = .inl e → RaiseT C H0 E e.1 e.2) → t E σ H0 Q')
    (k : ∀ v H', LamX.ExtN H H' → LamX.Tabs [(P, q)] H' → Dp K H' v (outT o) → Q v H') : LamX.tLam [(P, q)] (TTo2 K C) t σ H Q := by
  refine ⟨T, fun H1 e1 T1 H0 s0 Q' good => ?_⟩
  refine body H0 (flt2 K C Q) Q' (e1.trans (LamX.ExtN.of s0)) (fun row e x H' s' hx => good _ _ fun p hp => ?_) fun e eo dd H' s hx => ⟨rfl, dd, _, _, rfl, hx, fun p H2 s2 hp => ?_⟩
  · have st := s0.trans (s'.trans (same_upd hp (.lst [x])))
    subst e
    exact k _ _ (e1.trans (LamX.ExtN.of st)) (T1.ext st) (.lst (SqL.of upd_same) (.cons (hx.same_at (same_upd hp (.lst [x]))) .nil))
  · have st := s0.trans (s.trans s2)
    subst eo
    exact k _ H2 (e1.trans (LamX.ExtN.of st)) (T1.ext st) (.tup hp (.cons (.str _) (.cons (.int _) (.cons (.int _) .nil))))
end
end My
namespace My
open PySem PySem.Spec PyProof.Rows L2
theorem rep_size (a : Array Nat) : ∀ (n : Nat) (acc : Array Nat), ((List.replicate n a).foldl (· ++ ·) acc).size = acc.size + n * a.size
  | 0, acc => by simp
  | n + 1, acc => by
    rw [List.replicate_succ, List.foldl_cons, rep_size a n, Array.size_append, Nat.succ_mul]
    omega
def rRepS : R2 := fun x y H Q => ∃ (z : Str) (n : Int), x = .str z ∧ y = .int n ∧ 2 ≤ n ∧ n ≤ 1000 ∧ 1 ≤ z.length ∧ z.length ≤ 1000 ∧ ∀ r : Str, r.length = n.toNat * z.length → Q (.str r) H
theorem op_rep_str {X : Cx} : OpR X (binaryOp .Mult) rRepS := by
  intro pins s σ H x y v u Q I rx ry h
  obtain ⟨z, n, rfl, rfl, n2, n9, z1, z9, q⟩ := h
  obtain ⟨t, rfl⟩ := rx
  obtain ⟨t', rfl⟩ := ry
  have sz : (⟨(List.replicate n.toNat z.cps).foldl (· ++ ·) #[]⟩ : Str).length = n.toNat * z.length := by
    show ((List.replicate n.toNat z.cps).foldl (· ++ ·) #[]).size = _
    rw [rep_size]
    show 0 + _ = _
    rw [Nat.zero_add]
    rfl
  have big : n.toNat * z.length ≤ 1000 * 1000 := Nat.mul_le_mul (by omega) z9
  have e1 : (n == 1 || z.length == 0) = false := by
    rw [Bool.or_eq_false_iff]
    exact ⟨beq_eq_false_iff_ne.mpr (by omega), beq_eq_false_iff_ne.mpr (by omega)⟩
  refine P.mul_str ?_ (fun _ _ => ?_) (fun _ _ => ?_) ?_
  · rw [decide_eq_false (by omega), decide_eq_false (by omega)]
    rfl
  · have q1 : (1000 : Int) ≤ (2 ^ 63 - 1) / n := Int.le_ediv_of_mul_le (by omega) (by omega)
    omega
  · unfold Builtin.Str.tooLong
    rw [sizeLine_eq, Nat.mul_comm]
    exact decide_eq_false (by omega)
  · rw [if_neg (by omega), if_neg (by rw [e1]; exact Bool.false_ne_true)]
    exact ⟨by rw [sz, sizeLine_eq]; omega, ⟨.str _, H, I.tok _, ⟨_, rfl⟩, q _ sz⟩⟩
end My
namespace My
open PySem PySem.Spec PyProof.Rows L2
/-- a walk over what an expression gives, cut behind the expression -/
theorem for_cut {K : PySem.W.Frag} {te : TE} {g : TG} {tb rest : TS} {D : Ends} {σ : L2.St} {H : Hp} (R : V → Hp → Prop) (h : ∀ Q', (∀ v H', R v H' → Q' v H') → te σ H Q')
    (k : ∀ v H', R v H' → tSeq (tFor (iEnum K (fun _ H Q => Q [v] H)) g tb) rest D σ H') : tSeq (tFor (iEnum K (tCons te tNil)) g tb) rest D σ H := h _ fun v H' r => k v H' r
end My

namespace My
open PySem PySem.Spec PyProof.Rows L2
/-! ### promises on pedals -/
def sp_common_divisor (K : PySem.W.Frag) : Sp := fun vs H Q _ => ∃ (x y : Nat), vs = [.int x, .int y] ∧ Q (.int (Nat.gcd x y : Nat)) H
def sp_are_samples (K : PySem.W.Frag) : Sp := fun vs H Q _ => ∃ (v : V) (xs : List Int), vs = [v, .int (xs.length : Nat)] ∧ Dp K H v (dInts xs) ∧ xs.length ≤ 200 ∧ ∀ H', Same H H' → Q (.bl true) H'
def sp_are_at_most (K : PySem.W.Frag) : Sp := fun vs H Q _ => ∃ (v : V) (xs : List Int) (n : Int), vs = [v, .int n] ∧ Dp K H v (dInts xs) ∧ xs.length ≤ 200 ∧ ((xs.length : Nat) : Int) ≤ n ∧ ∀ H', Same H H' → Q (.bl true) H'
def sp_are_layers (K : PySem.W.Frag) : Sp := fun vs H Q _ => ∃ (v : V) (ls : List (List Int)), vs = [v] ∧ Dp K H v (dLoops ls) ∧ ls.length ≤ 4 ∧ (∀ l ∈ ls, l.length ≤ 64) ∧ ∀ H', Same H H' → Q (.bl true) H'
def sp_is_one_of (K : PySem.W.Frag) : Sp := fun vs H Q _ => ∃ (x : Int) (w : V) (ns : List Int), vs = [.int x, w] ∧ Dp K H w (dInts ns) ∧ x ∈ ns ∧ Q (.bl true) H
def sp_can_hold (K : PySem.W.Frag) : Sp := fun vs H Q _ => ∃ (v : V) (t : Tr) (n : Nat), vs = [v] ∧ Dp K H v (trD t) ∧ OkH t n ∧ ∀ H', Same H H' → Q (.bl true) H'
def sp_is_track (K : PySem.W.Frag) : Sp := fun vs H Q _ => ∃ (v : V) (t : Tr), vs = [v] ∧ Dp K H v (trD t) ∧ OkT t ∧ ∀ H', Same H H' → Q (.bl true) H'
def sp_need_pedal (K : PySem.W.Frag) : Sp := fun vs H Q _ => ∃ (v : V) (ts : List Tr), vs = [v] ∧ Dp K H v (dBoard ts) ∧ OkB ts ∧ ∀ H', Same H H' → Q v H'
def sp_put (K : PySem.W.Frag) : Sp := fun vs H Q _ => ∃ (v x : V) (i : Nat) (ds : List PyData) (d : PyData), vs = [v, .int i, x] ∧ Dp K H v (.tuple ds) ∧ Dp K H x d ∧ i < ds.length ∧ ds.length ≤ 200 ∧ ∀ w H', Same H H' → Dp K H' w (.tuple (ds.set i d)) → Q w H'
def sp_sounded (K : PySem.W.Frag) : Sp := fun vs H Q _ => ∃ (v : V) (t : Tr), vs = [v] ∧ Dp K H v (trD t) ∧ OkT t ∧ ∀ H', Same H H' → Q (.int (sndT t)) H'
def sp_heard_of (K : PySem.W.Frag) : Sp := fun vs H Q _ => ∃ (v : V) (ts : List Tr), vs = [v] ∧ Dp K H v (dBoard ts) ∧ OkB ts ∧ ∀ H', Same H H' → Q (.int (hearB ts)) H'
def sp_gone_on (K : PySem.W.Frag) : Sp := fun vs H Q _ => ∃ (v : V) (t : Tr) (s : Int), vs = [v, .int s] ∧ Dp K H v (trD t) ∧ OkT t ∧ ∀ w H', Same H H' → Dp K H' w (trD (goT t s)) → Q w H'
def sp_behind_tick (K : PySem.W.Frag) : Sp := fun vs H Q _ => ∃ (v : V) (ts : List Tr) (s : Int), vs = [v, .int s] ∧ Dp K H v (dBoard ts) ∧ OkB ts ∧ ∀ w H', Same H H' → Dp K H' w (dBoard (goB ts s)) → Q w H'
def sp_once_round (K : PySem.W.Frag) : Sp := fun vs H Q _ => ∃ (v : V) (t : Tr) (n : Nat), vs = [v] ∧ Dp K H v (trD t) ∧ OkH t n ∧ ∀ w H', Same H H' → Dp K H' w (dInts (onceT t)) → Q w H'
abbrev dCourse (ts : List Tr) : PyData := .tuple [dInts (earlyB ts), dLoops (turnB ts)]
def sp_course_of (K : PySem.W.Frag) : Sp := fun vs H Q _ => ∃ (v : V) (ts : List Tr), vs = [v] ∧ Dp K H v (dBoard ts) ∧ OkB ts ∧ ∀ w H', Same H H' → Dp K H' w (dCourse ts) → Q w H'
/-! ### the laws' own -/
def sp__law_cells (K : PySem.W.Frag) : Sp := fun vs H Q _ => ∃ (m : Addr) (many : Int) (n : Nat), vs = [.ref m, .int many] ∧ MS H m n ∧ 0 ≤ many ∧ many ≤ 64 ∧ n + 200 ≤ 2 ^ 40 ∧
  ∀ (v : V) (l : List Int) (n' : Nat) H', Dp K H' v (dInts l) → ((l.length : Nat) : Int) = many → (∀ z ∈ l, smA z) → n' ≤ n + 100 → MS H' m n' → Ef m H H' → Q v H'
def sp__law_track (K : PySem.W.Frag) : Sp := fun vs H Q _ => ∃ (m : Addr) (n : Nat), vs = [.ref m] ∧ MS H m n ∧ n + 1000 ≤ 2 ^ 40 ∧
  ∀ (v : V) (t : Tr) (n' : Nat) H', Dp K H' v (trD t) → OkT t → SmT t → n' ≤ n + 600 → MS H' m n' → Ef m H H' → Q v H'
def sp__law_pedal (K : PySem.W.Frag) : Sp := fun vs H Q _ => ∃ (m : Addr) (most : Int) (n : Nat), vs = [.ref m, .int most] ∧ MS H m n ∧ 1 ≤ most ∧ most ≤ 4 ∧ n + 5000 ≤ 2 ^ 40 ∧
  ∀ (v : V) (ts : List Tr) (n' : Nat) H', Dp K H' v (dBoard ts) → OkB ts → ((ts.length : Nat) : Int) ≤ most → (∀ t ∈ ts, SmT t) → n' ≤ n + 3000 → MS H' m n' → Ef m H H' → Q v H'
def sp__law_joined (K : PySem.W.Frag) : Sp := fun vs H Q _ => ∃ (v : V) (ls : List (List Int)) (n : Nat), vs = [v] ∧ Dp K H v (dLoops ls) ∧ 1 ≤ ls.length ∧ ls.length ≤ 4 ∧ n ≤ 64 ∧ (∀ l ∈ ls, l.length = n) ∧ ∀ w H', Same H H' → Dp K H' w (dInts ((List.range n).map fun c => colS ls c)) → Q w H'
def sp__law_now (K : PySem.W.Frag) : Sp := fun vs H Q _ => ∃ (v : V) (t : Tr), vs = [v] ∧ Dp K H v (trD t) ∧ OkT t ∧ ∀ H', Same H H' → Q (.int (if t.mu then 0 else t.sign * sndT t)) H'
def sp__law_on (K : PySem.W.Frag) : Sp := sp_gone_on K
def sp__law_tick (K : PySem.W.Frag) : Sp := fun vs H Q _ => ∃ (v : V) (ts : List Tr) (s : Int), vs = [v, .int s] ∧ Dp K H v (dBoard ts) ∧ OkB ts ∧ ∀ w H', Same H H' → Dp K H' w (.tuple [.int (hearB ts), dBoard (goB ts s)]) → Q w H'
def sp__law_round (K : PySem.W.Frag) : Sp := fun vs H Q _ => ∃ (v : V) (t : Tr) (n : Nat), vs = [v] ∧ Dp K H v (trD t) ∧ OkH t n ∧ t.md.on = true ∧ t.mu = false ∧ ∀ w H', Same H H' → Dp K H' w (dInts (onceT t)) → Q w H'
def sp_rounds (K : PySem.W.Frag) : Sp := fun vs H Q _ => ∃ (v : V) (ts : List Tr), vs = [v] ∧ Dp K H v (dBoard ts) ∧ OkB ts ∧ ∀ w H', Same H H' → Dp K H' w (.tuple [.int ((earlyB ts).length : Nat), dLoops (turnB ts)]) → Q w H'
theorem rep_bl {n : Nat} : ((List.replicate n true).all id) = true := by simp
theorem rep_more {n : Nat} : some (HO.lst ((List.replicate n true).map V.bl ++ [V.bl true])) = some (HO.lst ((List.replicate (n + 1) true).map V.bl)) := by
  rw [List.replicate_succ', List.map_append]
  rfl
theorem take_put {α : Type} (ps : List α) (d : α) {j : Nat} (h : j < ps.length) : ps.take j ++ [d] ++ ps.drop (j + 1) = ps.set j d := by
  rw [List.set_eq_take_append_cons_drop, if_pos h, List.append_assoc]
  rfl
theorem dp4 {K : PySem.W.Frag} {H : Hp} {v : V} {a b c d : PyData} (h : Dp K H v (.tuple [a, b, c, d])) : ∃ p w x y z, v = .ref p ∧ SqT K H p [w, x, y, z] ∧ Dp K H w a ∧ Dp K H x b ∧ Dp K H y c ∧ Dp K H z d := by
  obtain ⟨p, xs, rfl, hT, hX⟩ := Dp.tuple h
  cases hX with
  | cons a1 hX =>
  cases hX with
  | cons a2 hX =>
  cases hX with
  | cons a3 hX =>
  cases hX with
  | cons a4 hX =>
  cases hX
  exact ⟨p, _, _, _, _, rfl, hT, a1, a2, a3, a4⟩
theorem rd_catL {K : PySem.W.Frag} {H : Hp} {v u : V} {ls ms : List (List Int)} {Q : VK} (h1 : Dp K H v (dLoops ls)) (h2 : Dp K H u (dLoops ms)) (hz : ls.length + ms.length ≤ 1000)
    (k : ∀ w H', Same H H' → Dp K H' w (dLoops (ls ++ ms)) → Q w H') : rCatA K v u H Q := by
  refine rd_cat h1 h2 ?_ fun w H' s hw => k w H' s ?_
  · rw [List.length_map, List.length_map]
    exact Nat.le_trans hz (by decide)
  · rw [← List.map_append] at hw
    exact hw
theorem at_head {α : Type} {ls : List α} {f : α → PyData} {K : PySem.W.Frag} {H : Hp} {xs : List V} (h : DpAll K H xs (ls.map f)) (h1 : 1 ≤ ls.length) : ∃ x l, atI xs 0 = some x ∧ ls.head? = some l ∧ Dp K H x (f l) := by
  cases ls with
  | nil => simp at h1
  | cons l r =>
    cases h with
    | cons a b => exact ⟨_, l, at_zero, rfl, a⟩
theorem rep_blF {n : Nat} : ((List.replicate n false).any id) = false := by simp
theorem rep_moreF {n : Nat} : some (HO.lst ((List.replicate n false).map V.bl ++ [V.bl false])) = some (HO.lst ((List.replicate (n + 1) false).map V.bl)) := by
  rw [List.replicate_succ', List.map_append]
  rfl
theorem vne {a b : Int} (h : a ≠ b) : ¬ (V.int a = V.int b) := fun z => h (by injection z)
theorem dp0 {K : PySem.W.Frag} {H : Hp} {v : V} (h : Dp K H v (.tuple [])) : ∃ p, v = .ref p ∧ SqT K H p [] := by
  obtain ⟨p, xs, rfl, hT, hX⟩ := Dp.tuple h
  cases hX
  exact ⟨p, rfl, hT⟩
theorem sne {a b : Str} (h : a ≠ b) : ¬ (V.str a = V.str b) := fun z => h (by injection z)
theorem kit_ss {K : PySem.W.Frag} : PySem.W.kitOne K (.type "str") (.type "str") = some true := kit_ty (by show kitB "str" "str" = some true; decide +kernel)
theorem kit_bb {K : PySem.W.Frag} : PySem.W.kitOne K (.type "bool") (.type "bool") = some true := kit_ty (by show kitB "bool" "bool" = some true; decide +kernel)
theorem OkT.lays {t : Tr} (h : OkT t) : (t.lay.length ≤ 4 ∧ ∀ l ∈ t.lay, l.length ≤ 64) ∧ t.und.length ≤ 4 ∧ ∀ l ∈ t.und, l.length ≤ 64 := by
  cases h with
  | e => exact ⟨⟨by decide, fun l hl => by cases hl⟩, by decide, fun l hl => by cases hl⟩
  | r c h => exact ⟨⟨by show 1 ≤ 4; decide, fun l hl => by rw [List.mem_singleton.mp hl]; omega⟩, by show 0 ≤ 4; decide, fun l hl => by cases hl⟩
  | h t n h =>
    have := h.l4
    have := h.n64
    exact ⟨⟨by omega, fun l hl => by rw [h.ln l hl]; omega⟩, by omega, fun l hl => by rw [h.un l hl]; omega⟩
theorem OkT.ways {t : Tr} (h : OkT t) : t.way ∈ [(1 : Int), -1] ∧ t.pace ∈ [(1 : Int), 2, 4] ∧ t.sign ∈ [(1 : Int), -1] := by
  cases h with
  | e => exact ⟨by decide, by decide, by decide⟩
  | r c h => exact ⟨by show (1 : Int) ∈ [(1 : Int), -1]; decide, by show (2 : Int) ∈ [(1 : Int), 2, 4]; decide, by show (1 : Int) ∈ [(1 : Int), -1]; decide⟩
  | h t n h =>
    refine ⟨?_, ?_, ?_⟩
    · rcases h.wy with e | e <;> rw [e] <;> decide
    · rcases h.pc with e | e | e <;> rw [e] <;> decide
    · rcases h.sg with e | e <;> rw [e] <;> decide
theorem dpS3 {K : PySem.W.Frag} {H : Hp} {v : V} {a b c : Str} (h : Dp K H v (.tuple [.str a, .str b, .str c])) : ∃ p, v = .ref p ∧ SqT K H p [.str a, .str b, .str c] := by
  obtain ⟨p, xs, rfl, hT, hX⟩ := Dp.tuple h
  cases hX with
  | cons a1 hX =>
  cases hX with
  | cons a2 hX =>
  cases hX with
  | cons a3 hX =>
  cases hX
  cases a1
  cases a2
  cases a3
  exact ⟨p, rfl, hT⟩
theorem hear_snoc (ts : List Tr) (t : Tr) : hearB (ts ++ [t]) = hearB ts + (if t.mu then 0 else t.sign * sndT t) := by
  unfold hearB
  rw [List.map_append, List.sum_append]
  simp
theorem fdiv2 {p : Int} (h : 0 ≤ p) : p.fdiv 2 = ((p.toNat / 2 : Nat) : Int) := by
  rw [Int.fdiv_eq_ediv_of_nonneg _ (by decide)]
  omega
theorem col_len (ls : List (List Int)) (c : Nat) : (ls.map fun l => l.getD c 0).length = ls.length := by rw [List.length_map]
theorem OkT.onH {t : Tr} (h : OkT t) (e : t.md.on = true) : ∃ n, OkH t n := by
  cases h with
  | e => cases e
  | r c h => cases e
  | h t n h => exact ⟨n, h⟩
theorem OkT.sg {t : Tr} (h : OkT t) : -1 ≤ t.sign ∧ t.sign ≤ 1 := by
  obtain ⟨_, _, q⟩ := h.ways
  simp at q
  omega
theorem at_int {ps : List Int} {i : Nat} {p : Int} (h : ps[i]? = some p) : atI (ps.map V.int) ((i : Nat) : Int) = some (.int p) := by
  refine at_of (j := i) rfl ?_
  rw [List.getElem?_map, h]
  rfl
theorem getD_at {l : List Int} {c : Nat} (h : c < l.length) : l[c]? = some (l.getD c 0) := by
  rw [List.getD_eq_getElem?_getD, List.getElem?_eq_getElem h]
  rfl
theorem to_tr (t : Tr) : tupOnly (trD t) = true := by
  show tupOnly.go [.str t.md.s, dLoops t.lay, dLoops t.und, .int t.pt, .int t.way, .int t.pace, .int t.sign, .bool t.mu] = true
  show (tupOnly (.str t.md.s) && (tupOnly.go (t.lay.map dInts) && (tupOnly.go (t.und.map dInts) && (tupOnly (.int t.pt) && (tupOnly (.int t.way) && (tupOnly (.int t.pace) && (tupOnly (.int t.sign) && (tupOnly (.bool t.mu) && true)))))))) = true
  rw [to_loops, to_loops]
  rfl
theorem to_board : ∀ ts : List Tr, tupOnly.go (ts.map trD) = true
  | [] => rfl
  | t :: r => by
    show (tupOnly (trD t) && tupOnly.go (r.map trD)) = true
    rw [to_tr, to_board r]
    rfl
theorem dp6 {K : PySem.W.Frag} {H : Hp} {v : V} {a b c d e f : PyData} (h : Dp K H v (.tuple [a, b, c, d, e, f])) : ∃ p u w x y z s, v = .ref p ∧ SqT K H p [u, w, x, y, z, s] ∧ Dp K H u a ∧ Dp K H w b ∧ Dp K H x c ∧ Dp K H y d ∧ Dp K H z e ∧ Dp K H s f := by
  obtain ⟨p, xs, rfl, hT, hX⟩ := Dp.tuple h
  cases hX with
  | cons a1 hX =>
  cases hX with
  | cons a2 hX =>
  cases hX with
  | cons a3 hX =>
  cases hX with
  | cons a4 hX =>
  cases hX with
  | cons a5 hX =>
  cases hX with
  | cons a6 hX =>
  cases hX
  exact ⟨p, _, _, _, _, _, _, rfl, hT, a1, a2, a3, a4, a5, a6⟩
theorem at_lastL {α : Type} {ls : List α} {f : α → PyData} {K : PySem.W.Frag} {H : Hp} {xs : List V} (h : DpAll K H xs (ls.map f)) (h1 : ls ≠ []) : ∃ x, atI xs (-1) = some x ∧ Dp K H x (f (ls.getLast h1)) := by
  have e := List.dropLast_concat_getLast h1
  have hl := h.len
  rw [List.length_map] at hl
  have hx : xs ≠ [] := fun z => by
    rw [z] at hl
    have := List.length_pos_iff.mpr h1
    simp at hl
    omega
  have e2 := List.dropLast_concat_getLast hx
  refine ⟨xs.getLast hx, ?_, ?_⟩
  · have q := atI_last xs.dropLast (xs.getLast hx)
    rw [e2] at q
    exact q
  · have g : xs[xs.length - 1]? = some (xs.getLast hx) := by rw [List.getLast_eq_getElem, List.getElem?_eq_getElem]
    obtain ⟨l, hl2, q⟩ := h.map_get g
    have g2 : ls[ls.length - 1]? = some (ls.getLast h1) := by rw [List.getLast_eq_getElem, List.getElem?_eq_getElem]
    rw [hl, g2] at hl2
    cases hl2
    exact q
theorem getLastD_ne {α : Type} {ls : List α} (h : ls ≠ []) (d : α) : ls.getLastD d = ls.getLast h := by
  rw [List.getLastD_eq_getLast?, List.getLast?_eq_some_getLast h]
  rfl
theorem md_in : ∀ m : Md, inV (.str m.s) [.str "play", .str "dub"] = m.on
  | .empty => by decide +kernel
  | .record => by decide +kernel
  | .play => by decide +kernel
  | .dub => by decide +kernel
  | .stop => by decide +kernel
theorem md_rec {m : Md} (h : m ≠ .record) : m.s ≠ (Str.ofString "record") := by
  cases m with
  | record => exact absurd rfl h
  | empty => decide +kernel
  | play => decide +kernel
  | dub => decide +kernel
  | stop => decide +kernel
theorem md_dub {m : Md} (h : m ≠ .dub) : m.s ≠ (Str.ofString "dub") := by
  cases m with
  | dub => exact absurd rfl h
  | empty => decide +kernel
  | play => decide +kernel
  | record => decide +kernel
  | stop => decide +kernel
theorem md_play {m : Md} (h : m ≠ .play) : m.s ≠ (Str.ofString "play") := by
  cases m with
  | play => exact absurd rfl h
  | empty => decide +kernel
  | dub => decide +kernel
  | record => decide +kernel
  | stop => decide +kernel
theorem md_empty {m : Md} (h : m ≠ .empty) : m.s ≠ (Str.ofString "empty") := by
  cases m with
  | empty => exact absurd rfl h
  | play => decide +kernel
  | dub => decide +kernel
  | record => decide +kernel
  | stop => decide +kernel
theorem md_stop {m : Md} (h : m ≠ .stop) : m.s ≠ (Str.ofString "stop") := by
  cases m with
  | stop => exact absurd rfl h
  | play => decide +kernel
  | dub => decide +kernel
  | record => decide +kernel
  | empty => decide +kernel
theorem holds_rec {m : Md} (h : m.holds = true) : m ≠ .record := by
  intro e
  rw [e] at h
  cases h
theorem go_off {t : Tr} {n : Nat} (h : OkH t n) (e : t.md.on = false) (s : Int) : goT t s = t := by
  obtain ⟨md, lay, und, pt, way, pace, sign, mu⟩ := t
  cases md with
  | play => cases e
  | dub => cases e
  | empty => rfl
  | stop => rfl
  | record => exact absurd rfl (holds_rec h.md)
theorem go_on {t : Tr} (e : t.md.on = true) (s : Int) : goT t s = { t with lay := if t.md = .dub then dubL t.lay (t.pt.toNat / 2) s else t.lay, pt := wrapP t } := by
  obtain ⟨md, lay, und, pt, way, pace, sign, mu⟩ := t
  cases md with
  | play => rfl
  | dub => rfl
  | empty => cases e
  | stop => cases e
  | record => cases e
theorem OkT.wp {t : Tr} (h : OkT t) : (-1 ≤ t.way ∧ t.way ≤ 1) ∧ 1 ≤ t.pace ∧ t.pace ≤ 4 := by
  obtain ⟨q, r, _⟩ := h.ways
  simp at q r
  omega
theorem md_dec (m : Md) : decide (V.str m.s = V.str (Str.ofString "record")) = decide (m = .record) := by
  by_cases e : m = .record
  · rw [decide_eq_true e, e]
    exact decide_eq_true rfl
  · rw [decide_eq_false e]
    exact decide_eq_false (sne (md_rec e))
theorem any_rec {us : List Tr} (h : ∀ t ∈ us, OkT t) : (us.map fun t => decide (t.md = .record)).any id = decide (0 < waitB us) := by
  by_cases p : 0 < waitB us
  · rw [decide_eq_true p]
    obtain ⟨t, ht, e⟩ := (waitB_pos h).mp p
    rw [List.any_eq_true]
    exact ⟨true, List.mem_map.mpr ⟨t, ht, decide_eq_true e⟩, rfl⟩
  · rw [decide_eq_false p]
    refine any_false fun b hb => ?_
    obtain ⟨t, ht, rfl⟩ := List.mem_map.mp hb
    exact decide_eq_false fun e => p ((waitB_pos h).mpr ⟨t, ht, e⟩)
theorem col_of {ls : List (List Int)} {as : List Addr} {col : List V} {K : PySem.W.Frag} {H : Hp} {i n : Nat} (hi : i < n) (hl : ∀ l ∈ ls, l.length = n) (ha : as.length = ls.length) (h : ∀ (j : Nat) (a : Addr) (l : List Int), as[j]? = some a → ls[j]? = some l → SqT K H a (l.map V.int))
    (hc : col.length = as.length) (q : ∀ (j : Nat) (a : Addr) (xs : List V), as[j]? = some a → SqT K H a xs → xs[i]? = col[j]?) : col = (ls.map fun l => l.getD i 0).map V.int := by
  refine List.ext_getElem? fun j => ?_
  by_cases e : j < ls.length
  · have e1 : as[j]? = some (as[j]'(by omega)) := List.getElem?_eq_getElem (by omega)
    have e2 : ls[j]? = some ls[j] := List.getElem?_eq_getElem e
    have r := q j _ _ e1 (h j _ _ e1 e2)
    rw [← r, List.getElem?_map, List.getElem?_map, List.getElem?_map, e2, getD_at (by rw [hl _ (List.getElem_mem e)]; exact hi)]
    rfl
  · rw [List.getElem?_eq_none (by omega), List.getElem?_eq_none (by simp; omega)]
theorem dp2 {K : PySem.W.Frag} {H : Hp} {v : V} {a b : PyData} (h : Dp K H v (.tuple [a, b])) : ∃ p x y, v = .ref p ∧ SqT K H p [x, y] ∧ Dp K H x a ∧ Dp K H y b := by
  obtain ⟨p, xs, rfl, hT, hX⟩ := Dp.tuple h
  cases hX with
  | cons a1 hX =>
  cases hX with
  | cons a2 hX =>
  cases hX
  exact ⟨p, _, _, rfl, hT, a1, a2⟩
theorem pickV {xs : List V} {r : Int} (h0 : 0 ≤ r) (h1 : r < ((xs.length : Nat) : Int)) : ∃ z, atI xs r = some z ∧ z ∈ xs := by
  have e : xs[r.toNat]? = some (xs[r.toNat]'(by omega)) := List.getElem?_eq_getElem (by omega)
  exact ⟨_, at_of (j := r.toNat) (by omega) e, List.getElem_mem _⟩
theorem flat_rep (n : Nat) : (List.replicate n [V.int 0]).flatten = (List.replicate n (0 : Int)).map V.int := by
  induction n with
  | zero => rfl
  | succ n ih =>
    rw [List.replicate_succ, List.flatten_cons, ih]
    rfl
theorem colS_snoc (ls : List (List Int)) (l : List Int) (c : Nat) : colS (ls ++ [l]) c = colS ls c + l.getD c 0 := by
  unfold colS
  rw [List.map_append, List.sum_append]
  simp
theorem rep_zero (n : Nat) : List.replicate n (0 : Int) = (List.range n).map fun c => colS [] c := by
  refine List.ext_getElem? fun j => ?_
  by_cases h : j < n
  · rw [List.getElem?_replicate, if_pos h, List.getElem?_map, List.getElem?_range h]
    rfl
  · rw [List.getElem?_eq_none (by simp; omega), List.getElem?_eq_none (by simp; omega)]
theorem jn_get {ls : List (List Int)} {n c : Nat} (h : c < n) : ((List.range n).map fun c => colS ls c)[c]? = some (colS ls c) := by
  rw [List.getElem?_map, List.getElem?_range h]
  rfl
theorem sub_mod (p b : Int) : (p - b) % b = p % b := by
  have q : (p - b + b) % b = (p - b) % b := by simp
  rw [Int.sub_add_cancel] at q
  exact q.symm
theorem dub_len {lay : List (List Int)} {n : Nat} (h : lay ≠ []) (hl : ∀ l ∈ lay, l.length = n) (c : Nat) (s : Int) : 1 ≤ (dubL lay c s).length ∧ (dubL lay c s).length = lay.length ∧ ∀ l ∈ dubL lay c s, l.length = n := by
  unfold dubL
  have := List.length_pos_iff.mpr h
  refine ⟨by simp, by simp; omega, fun l hm => ?_⟩
  rcases List.mem_append.mp hm with q | q
  · exact hl l ((List.dropLast_sublist _).subset q)
  · rw [List.mem_singleton.mp q]
    unfold addAt
    rw [List.length_set, getLastD_ne h]
    exact hl _ (List.getLast_mem h)
theorem hear_eq (ts : List Tr) : ((ts.map fun t => if t.mu then 0 else t.sign * sndT t)).sum = hearB ts := rfl
theorem ixn {n c : Nat} (h : c < n) : ixN n ((c : Nat) : Int) = some c := by
  unfold ixN
  rw [if_pos (by omega), if_pos (by omega)]
  simp
/-- a drawing from a written list -/
theorem drawV {m p : Addr} {H H2 : Hp} {n : Nat} {xs : List V} (M : MS H m n) (hp : H p = none) (e : Ef m (upd H p (.lst xs)) H2) {r : Int} (h0 : 0 ≤ r) (h1 : r < ((xs.length : Nat) : Int)) : ∃ z, H2 p = some (.lst xs) ∧ atI xs r = some z ∧ z ∈ xs := by
  obtain ⟨q, _⟩ := e.lst (M.same (same_upd hp _)) upd_same (fun z => M.notLf hp (z.upd (M.mne hp)))
  obtain ⟨z, hz, hm⟩ := pickV h0 h1
  exact ⟨z, q, hz, hm⟩
theorem mem4 {x a b c d : V} (h : x ∈ [a, b, c, d]) : x = a ∨ x = b ∨ x = c ∨ x = d := by simpa using h
theorem mem6 {x a b c d e f : V} (h : x ∈ [a, b, c, d, e, f]) : x = a ∨ x = b ∨ x = c ∨ x = d ∨ x = e ∨ x = f := by simpa using h
theorem sm_of {r g : Int} (h0 : 0 ≤ r) (h1 : r < 19) (g0 : 0 ≤ g) (g1 : g ≤ 10 ^ 20) : smA ((r - 9) * g) := by
  unfold smA
  have e : ((r - 9) * g).natAbs = (r - 9).natAbs * g.natAbs := Int.natAbs_mul _ _
  rw [e]
  have a : (r - 9).natAbs ≤ 9 := by omega
  have b : g.natAbs ≤ 10 ^ 20 := by omega
  exact Nat.le_trans (Nat.mul_le_mul a b) (by decide)
theorem mem2 {x a b : V} (h : x ∈ [a, b]) : x = a ∨ x = b := by simpa using h
theorem mem3 {x a b c : V} (h : x ∈ [a, b, c]) : x = a ∨ x = b ∨ x = c := by simpa using h
theorem holds_of {d : Md} (h1 : d ≠ .empty) (h2 : d ≠ .record) : d.holds = true := by
  cases d with
  | empty => exact absurd rfl h1
  | record => exact absurd rfl h2
  | play => rfl
  | dub => rfl
  | stop => rfl
theorem fm_nat (u j : Nat) : ((u : Int)).fmod (j : Int) = ((u % j : Nat) : Int) := by
  rw [Int.fmod_eq_emod_of_nonneg _ (by omega)]
  rfl
/-! ### promises on presses -/
def sp_deed (d : Dd) (K : PySem.W.Frag) : Sp := fun vs H Q _ => ∃ (v : V) (t : Tr), vs = [v] ∧ Dp K H v (trD t) ∧ OkT t ∧ ∀ w H', Same H H' → Dp K H' w (trD (deedT d t)) → Q w H'
abbrev sp_tap := sp_deed .tap
abbrev sp_stop := sp_deed .stop
abbrev sp_clear := sp_deed .clear
abbrev sp_undo := sp_deed .undo
abbrev sp_redo := sp_deed .redo
abbrev sp_join := sp_deed .join
abbrev sp_turn := sp_deed .turn
abbrev sp_flip := sp_deed .flip
abbrev sp_mute := sp_deed .mute
def sp_begins (K : PySem.W.Frag) : Sp := fun vs H Q _ => ∃ (v : V) (z w : Str) (ds : List PyData) (n : Int), vs = [v, .str w, .int n] ∧ Dp K H v (.tuple (.str z :: ds)) ∧ ds.length ≤ 5 ∧ Q (.bl (decide (((ds.length : Nat) : Int) + 1 = n) && decide (z = w))) H
def sp_is_press (K : PySem.W.Frag) : Sp := fun vs H Q _ => ∃ (v : V) (p : Pr) (n : Nat), vs = [.int (n : Nat), v] ∧ Dp K H v (prD p) ∧ OkP p n ∧ ∀ H', Same H H' → Q (.bl true) H'
def sp_need_press (K : PySem.W.Frag) : Sp := fun vs H Q _ => ∃ (v u : V) (ts : List Tr) (p : Pr), vs = [v, u] ∧ Dp K H v (dBoard ts) ∧ Dp K H u (prD p) ∧ OkB ts ∧ OkP p ts.length ∧ ∀ H', Same H H' → Q .non H'
def sp_behind_press (K : PySem.W.Frag) : Sp := fun vs H Q _ => ∃ (v u : V) (ts : List Tr) (p : Pr), vs = [v, u] ∧ Dp K H v (dBoard ts) ∧ Dp K H u (prD p) ∧ OkB ts ∧ OkP p ts.length ∧ ∀ w H', Same H H' → Dp K H' w (dBoard (pressB ts p)) → Q w H'
def sp_pressed (K : PySem.W.Frag) : Sp := sp_behind_press K
def sp_is_idle (K : PySem.W.Frag) : Sp := fun vs H Q _ => ∃ (v u : V) (ts : List Tr) (p : Pr), vs = [v, u] ∧ Dp K H v (dBoard ts) ∧ Dp K H u (prD p) ∧ OkB ts ∧ OkP p ts.length ∧ ∀ H', Same H H' → Q (.bl (PyData.eqv (dBoard (pressB ts p)) (dBoard ts))) H'
def sp__law_tapped (K : PySem.W.Frag) : Sp := sp_deed .tap K
def sp__law_stopped (K : PySem.W.Frag) : Sp := sp_deed .stop K
def sp__law_layered (K : PySem.W.Frag) : Sp := fun vs H Q _ => ∃ (v : V) (t : Tr) (n : Nat) (d : Dd), vs = [v, .str d.s] ∧ Dp K H v (trD t) ∧ OkH t n ∧ (d = .undo ∨ d = .redo ∨ d = .join) ∧ ∀ w H', Same H H' → Dp K H' w (trD (deedT d t)) → Q w H'
def sp__law_led (K : PySem.W.Frag) : Sp := fun vs H Q _ => ∃ (v u : V) (t : Tr) (p : Pr) (n : Nat), vs = [v, u] ∧ Dp K H v (trD t) ∧ Dp K H u (prD p) ∧ OkT t ∧ OkP p n ∧ ∀ w H', Same H H' → Dp K H' w (trD (pressT p t)) → Q w H'
def sp__law_behind (K : PySem.W.Frag) : Sp := sp_behind_press K
def sp__law_all (K : PySem.W.Frag) : Sp := fun vs H Q _ => ∃ (i : Nat), vs = [.int (i : Nat)] ∧ i ≤ 4 ∧ ∀ (D : Addr) (xs : List V) (ps : List Pr) H', Same H H' → SqL K H' D xs → DpAll K H' xs (ps.map prD) → ps.length ≤ 48 → (∀ p ∈ ps, OkP p i) → Q (.ref D) H'
def sp__law_press (K : PySem.W.Frag) : Sp := fun vs H Q _ => ∃ (m : Addr) (i n : Nat), vs = [.ref m, .int (i : Nat)] ∧ MS H m n ∧ 1 ≤ i ∧ i ≤ 4 ∧ n + 200 ≤ 2 ^ 40 ∧
  ∀ (v : V) (p : Pr) (n' : Nat) H', Dp K H' v (prD p) → OkP p i → n' ≤ n + 10 → MS H' m n' → Ef m H H' → Q v H'
def sp__law_right (K : PySem.W.Frag) : Sp := fun vs H Q _ => ∃ (v u : V) (ts : List Tr) (p : Pr), vs = [v, u] ∧ Dp K H v (dBoard ts) ∧ Dp K H u (prD p) ∧ OkB ts ∧ OkP p ts.length ∧ (∀ t ∈ ts, BdT t (10 ^ 23)) ∧ ∀ H', Same H H' → Q (.bl true) H'
theorem md_hold : ∀ m : Md, inV (.str m.s) [.str "play", .str "dub", .str "stop"] = m.holds
  | .empty => by decide +kernel
  | .record => by decide +kernel
  | .play => by decide +kernel
  | .dub => by decide +kernel
  | .stop => by decide +kernel
abbrev trP (t : Tr) : List PyData := [.str t.md.s, dLoops t.lay, dLoops t.und, .int t.pt, .int t.way, .int t.pace, .int t.sign, .bool t.mu]
theorem trP_2 (t : Tr) : cutD (trP t) none (some 2) = [.str t.md.s, dLoops t.lay] := cutD_pre (trP t) 2
theorem trP_3 (t : Tr) : cutD (trP t) none (some 3) = [.str t.md.s, dLoops t.lay, dLoops t.und] := cutD_pre (trP t) 3
theorem trP_d2 (t : Tr) : cutD (trP t) (some 2) none = [dLoops t.und, .int t.pt, .int t.way, .int t.pace, .int t.sign, .bool t.mu] := cutD_suf (trP t) (i := 2) (by show 2 ≤ 8; decide)
theorem trP_d3 (t : Tr) : cutD (trP t) (some 3) none = [.int t.pt, .int t.way, .int t.pace, .int t.sign, .bool t.mu] := cutD_suf (trP t) (i := 3) (by show 3 ≤ 8; decide)
theorem eqv_one : ∀ ls : List (List Int), PyData.eqv (dLoops ls) (.tuple [.tuple []]) = decide (ls = [[]])
  | [] => by rfl
  | [[]] => by rfl
  | [_ :: _] => by rfl
  | [] :: _ :: _ => by rfl
  | (_ :: _) :: _ :: _ => by rfl
theorem dp3 {K : PySem.W.Frag} {H : Hp} {v : V} {a b c : PyData} (h : Dp K H v (.tuple [a, b, c])) : ∃ p w x y, v = .ref p ∧ SqT K H p [w, x, y] ∧ Dp K H w a ∧ Dp K H x b ∧ Dp K H y c := by
  obtain ⟨p, xs, rfl, hT, hX⟩ := Dp.tuple h
  cases hX with
  | cons a1 hX =>
  cases hX with
  | cons a2 hX =>
  cases hX with
  | cons a3 hX =>
  cases hX
  exact ⟨p, _, _, _, rfl, hT, a1, a2, a3⟩
theorem to_loopsD (ls : List (List Int)) : tupOnly (dLoops ls) = true := by
  show tupOnly.go (ls.map dInts) = true
  exact to_loops ls
theorem shaped_dLoops (ls : List (List Int)) : SeqAt.shaped (dLoops ls) = true := by
  have go : ∀ ls : List (List Int), PyData.canLayAll0 (ls.map dInts) = true ∧ PyData.depthAll (ls.map dInts) ≤ 1 := fun ls => by
    refine ⟨?_, depth_loops ls⟩
    induction ls with
    | nil => rfl
    | cons l r ih =>
      show ((dInts l).canLay0 && PyData.canLayAll0 (r.map dInts)) = true
      rw [ih, SeqAt.canLay_of_shaped (shaped_dInts l)]
      rfl
  obtain ⟨h1, h2⟩ := go ls
  refine Bool.and_eq_true_iff.mpr ⟨h1, decide_eq_true ?_⟩
  show PyData.depthAll (ls.map dInts) + 1 ≤ 64
  omega
theorem iteNY {p A B : Prop} [Decidable p] (h : ¬ p) (a : A) : if (!decide p) = true then A else B := by
  rw [decide_eq_false h]
  exact a
theorem iteNN {p A B : Prop} [Decidable p] (h : p) (b : B) : if (!decide p) = true then A else B := by
  rw [decide_eq_true h]
  exact b
theorem flat_one (d : PyData) (n : Nat) : (List.replicate n [d]).flatten = List.replicate n d := by
  induction n with
  | zero => rfl
  | succ n ih =>
    rw [List.replicate_succ, List.flatten_cons, ih]
    rfl
theorem cutD_m1 (ds : List PyData) : cutD ds (some (-1)) none = ds.drop (ds.length - 1) := by
  unfold L2.cutD HT.sIx
  cases ds with
  | nil => rfl
  | cons d r =>
    simp
    have e : (-1 + ((r.length : Int) + 1)).toNat = r.length := by omega
    rw [e, List.take_of_length_le (by simp)]
theorem rd_init {K : PySem.W.Frag} {H : Hp} {v : V} {ls : List (List Int)} {Q : VK} (h : Dp K H v (dLoops ls)) (k : ∀ w H', Same H H' → Dp K H' w (dLoops ls.dropLast) → Q w H') : rSlA K v none (some (-1)) H Q :=
  rd_cut h fun w H' s hw => k w H' s (by
    have q := cutD_last (ls.map dInts)
    rw [← List.map_dropLast] at q
    rw [q] at hw
    exact hw)
theorem rd_fin {K : PySem.W.Frag} {H : Hp} {v : V} {ls : List (List Int)} {Q : VK} (h : Dp K H v (dLoops ls)) (k : ∀ w H', Same H H' → Dp K H' w (dLoops (ls.drop (ls.length - 1))) → Q w H') : rSlA K v (some (-1)) none H Q :=
  rd_cut h fun w H' s hw => k w H' s (by
    have q := cutD_m1 (ls.map dInts)
    rw [List.length_map, ← List.map_drop] at q
    rw [q] at hw
    exact hw)
theorem drop_fin {ls : List (List Int)} (h : ls ≠ []) : ls.drop (ls.length - 1) = [ls.getLastD []] := by
  have e := List.dropLast_concat_getLast h
  have q : (ls.dropLast ++ [ls.getLast h]).drop ls.dropLast.length = [ls.getLast h] := List.drop_left
  rw [e, List.length_dropLast] at q
  rw [q, getLastD_ne h]
theorem shaped_tr (t : Tr) : (trD t).canLay0 = true ∧ (trD t).depth ≤ 3 := by
  have l := SeqAt.canLay_of_shaped (shaped_dLoops t.lay)
  have u := SeqAt.canLay_of_shaped (shaped_dLoops t.und)
  have dl := depth_loops t.lay
  have du := depth_loops t.und
  constructor
  · show ((PyData.str t.md.s).canLay0 && ((dLoops t.lay).canLay0 && ((dLoops t.und).canLay0 && true))) = true
    rw [l, u]
    cases t.md <;> decide +kernel
  · show PyData.depthAll [.str t.md.s, dLoops t.lay, dLoops t.und, .int t.pt, .int t.way, .int t.pace, .int t.sign, .bool t.mu] + 1 ≤ 3
    show max 0 (max (PyData.depthAll (t.lay.map dInts) + 1) (max (PyData.depthAll (t.und.map dInts) + 1) (PyData.depthAll [.int t.pt, .int t.way, .int t.pace, .int t.sign, .bool t.mu]))) + 1 ≤ 3
    have z : PyData.depthAll [.int t.pt, .int t.way, .int t.pace, .int t.sign, .bool t.mu] = 0 := rfl
    omega
theorem shaped_board (ts : List Tr) : SeqAt.shaped (dBoard ts) = true := by
  have go : ∀ ts : List Tr, PyData.canLayAll0 (ts.map trD) = true ∧ PyData.depthAll (ts.map trD) ≤ 3 := fun ts => by
    induction ts with
    | nil => exact ⟨rfl, by decide⟩
    | cons t r ih =>
      obtain ⟨h1, h2⟩ := shaped_tr t
      constructor
      · show ((trD t).canLay0 && PyData.canLayAll0 (r.map trD)) = true
        rw [h1, ih.1]
        rfl
      · show max (trD t).depth (PyData.depthAll (r.map trD)) ≤ 3
        have := ih.2
        omega
  obtain ⟨h1, h2⟩ := go ts
  refine Bool.and_eq_true_iff.mpr ⟨h1, decide_eq_true ?_⟩
  show PyData.depthAll (ts.map trD) + 1 ≤ 64
  omega
theorem beg_yes {z : Str} {l n : Int} (h : l + 1 = n) : V.bl (decide (l + 1 = n) && decide (z = z)) = V.bl true := by
  rw [decide_eq_true h, decide_eq_true rfl]
  rfl
theorem beg_no {y z : Str} {l n : Int} (h : l + 1 ≠ n) : V.bl (decide (l + 1 = n) && decide (y = z)) = V.bl false := by
  rw [decide_eq_false h]
  rfl
theorem beg_some {y z : Str} {l n : Int} (h : l + 1 = n) : V.bl (decide (l + 1 = n) && decide (y = z)) = V.bl (decide (y = z)) := by
  rw [decide_eq_true h]
  rfl
abbrev allW : List Str := ["tap", "stop", "clear", "undo", "redo", "join", "turn", "flip", "mute"]
theorem allW_mem (d : Dd) : d.s ∈ allW := by
  cases d <;> decide +kernel
theorem allW_any (d : Dd) : (allW.map fun z => decide (d.s = z)).any id = true := by
  rw [List.any_eq_true]
  exact ⟨true, List.mem_map.mpr ⟨d.s, allW_mem d, decide_eq_true rfl⟩, rfl⟩
theorem _root_.L2.Dp.pr {K : PySem.W.Frag} {H : Hp} {v : V} {p : Pr} (h : Dp K H v (prD p)) : ∃ a xs, v = .ref a ∧ SqT K H a xs ∧ xs[0]? = some (.str p.s) ∧ xs[1]? = some (.int (p.at : Nat)) ∧ DpAll K H xs (match p with | .d w c => [.str w.s, .int (c : Nat)] | .p c n => [.str "pace", .int (c : Nat), .int n]) := by
  cases p with
  | d w c =>
    obtain ⟨a, x0, x1, rfl, hT, d0, d1⟩ := dp2 h
    cases d0
    cases d1
    exact ⟨a, _, rfl, hT, rfl, rfl, .cons (.str _) (.cons (.int _) .nil)⟩
  | p c n =>
    obtain ⟨a, x0, x1, x2, rfl, hT, d0, d1, d2⟩ := dp3 h
    cases d0
    cases d1
    cases d2
    exact ⟨a, _, rfl, hT, rfl, rfl, .cons (.str _) (.cons (.int _) (.cons (.int _) .nil))⟩
theorem str_dec {y z : Str} : decide (V.str z = V.str y) = decide (z = y) := by
  by_cases e : z = y
  · rw [decide_eq_true e, e]
    exact decide_eq_true rfl
  · rw [decide_eq_false e]
    exact decide_eq_false (sne e)
abbrev prP : Pr → List PyData
  | .d w a => [.str w.s, .int (a : Nat)]
  | .p a n => [.str "pace", .int (a : Nat), .int n]
theorem prD_eq (p : Pr) : prD p = .tuple (prP p) := by cases p <;> rfl
theorem prP_2 (p : Pr) : cutD (prP p) none (some 2) = [.str p.s, .int (p.at : Nat)] := by
  have q := cutD_pre (prP p) 2
  cases p <;> exact q
theorem Dd.ne_pace (d : Dd) : d.s ≠ Str.ofString "pace" := by cases d <;> decide +kernel
theorem md_hold2 (m : Md) : (if False then !m.holds else m.holds) = m.holds := rfl
theorem trP_d1 (t : Tr) : cutD (trP t) (some 1) none = [dLoops t.lay, dLoops t.und, .int t.pt, .int t.way, .int t.pace, .int t.sign, .bool t.mu] := cutD_suf (trP t) (i := 1) (by show 1 ≤ 8; decide)
theorem trP_d4 (t : Tr) : cutD (trP t) (some 4) none = [.int t.way, .int t.pace, .int t.sign, .bool t.mu] := cutD_suf (trP t) (i := 4) (by show 4 ≤ 8; decide)
theorem trP_13 (t : Tr) : cutD (trP t) (some 1) (some 3) = [dLoops t.lay, dLoops t.und] := rfl
theorem eqv_loops_nil (ls : List (List Int)) : PyData.eqv (dLoops ls) (.tuple []) = ls.isEmpty := by
  cases ls <;> rfl
theorem dpSet {K : PySem.W.Frag} {H : Hp} {w : V} {d : PyData} (hw : Dp K H w d) : ∀ {xs : List V} {ds : List PyData} (j : Nat), DpAll K H xs ds → DpAll K H (xs.set j w) (ds.set j d)
  | _, _, _, .nil => .nil
  | _, _, 0, .cons _ h => .cons hw h
  | _, _, j + 1, .cons a h => .cons a (dpSet hw j h)
theorem md_hold3 {K : PySem.W.Frag} (m : Md) : inV (.str m.s) [.str "play", .str "dub", .str "stop"] = m.holds := md_hold m
theorem pressB_bd {ts : List Tr} {p : Pr} {b : Nat} (h : ∀ t ∈ ts, BdT t b) : ∀ t ∈ pressB ts p, BdT t b := fun t ht => by
  unfold pressB at ht
  rcases List.mem_or_eq_of_mem_set ht with q | q
  · exact h t q
  · rw [q]
    refine press_bd p ?_
    rw [List.getD_eq_getElem?_getD]
    cases e : ts[p.at]? with
    | none => exact BdT.e b
    | some u => exact h u (List.mem_of_getElem? e)
theorem pressB_fit {ts : List Tr} {p : Pr} (h : ∀ t ∈ ts, BdT t (10 ^ 23)) : ∀ t ∈ pressB ts p, FitT t := fun t ht => (pressB_bd h t ht).fit
theorem trP_5 (t : Tr) : cutD (trP t) none (some 5) = [.str t.md.s, dLoops t.lay, dLoops t.und, .int t.pt, .int t.way] := rfl
theorem trP_4 (t : Tr) : cutD (trP t) none (some 4) = [.str t.md.s, dLoops t.lay, dLoops t.und, .int t.pt] := rfl
theorem trP_6 (t : Tr) : cutD (trP t) none (some 6) = [.str t.md.s, dLoops t.lay, dLoops t.und, .int t.pt, .int t.way, .int t.pace] := rfl
theorem trP_7 (t : Tr) : cutD (trP t) none (some 7) = [.str t.md.s, dLoops t.lay, dLoops t.und, .int t.pt, .int t.way, .int t.pace, .int t.sign] := rfl
theorem trP_d6 (t : Tr) : cutD (trP t) (some 6) none = [.int t.sign, .bool t.mu] := rfl
theorem trP_d5 (t : Tr) : cutD (trP t) (some 5) none = [.int t.pace, .int t.sign, .bool t.mu] := rfl
theorem trP_d7 (t : Tr) : cutD (trP t) (some 7) none = [.bool t.mu] := rfl
theorem trP_d8 (t : Tr) : cutD (trP t) (some 8) none = [] := rfl
theorem OkT.holdH {t : Tr} (h : OkT t) (e : t.md.holds = true) : ∃ n, OkH t n := by
  cases h with
  | e => cases e
  | r c h => cases e
  | h t n h => exact ⟨n, h⟩
theorem idle_layers {t : Tr} (h : OkT t) (e : t.md.holds = false) : undoT t = t ∧ redoT t = t ∧ joinT t = t := by
  cases h with
  | e => exact ⟨rfl, rfl, rfl⟩
  | r c h => exact ⟨if_pos (by show 1 < 2; decide), if_pos rfl, if_pos (.inr (by show 1 < 2; decide))⟩
  | h t n h => rw [h.md] at e; cases e
def kTurn : Key := .inr "turn"
def kFlip : Key := .inr "flip"
def kMute : Key := .inr "mute"
theorem dget_turn {H : Hp} {p : Addr} (h : H p = some (.dK (mergeK [] [(kTurn, .int 4), (kFlip, .int 6), (kMute, .int 7)]))) : DGet H p (.str "turn") (some (.int 4)) := DGet.k (k := kTurn) h
theorem dget_flip {H : Hp} {p : Addr} (h : H p = some (.dK (mergeK [] [(kTurn, .int 4), (kFlip, .int 6), (kMute, .int 7)]))) : DGet H p (.str "flip") (some (.int 6)) := DGet.k (k := kFlip) h
theorem dget_mute {H : Hp} {p : Addr} (h : H p = some (.dK (mergeK [] [(kTurn, .int 4), (kFlip, .int 6), (kMute, .int 7)]))) : DGet H p (.str "mute") (some (.int 7)) := DGet.k (k := kMute) h
theorem to_prs : ∀ ps : List Pr, tupOnly.go (ps.map prD) = true
  | [] => rfl
  | p :: r => by
    show (tupOnly (prD p) && tupOnly.go (r.map prD)) = true
    rw [to_prs r]
    cases p <;> rfl
abbrev wA : List V := [.str "tap", .str "tap", .str "tap", .str "tap", .str "stop", .str "undo", .str "redo", .str "join", .str "turn", .str "flip", .str "mute"]
abbrev wB : List V := [.str "pace", .str "pace", .str "clear"]
theorem wAB {z : V} (h : z ∈ wA ++ wB) : z = .str "pace" ∨ ∃ d : Dd, z = .str d.s := by
  have q : z = .str Dd.tap.s ∨ z = .str Dd.stop.s ∨ z = .str Dd.undo.s ∨ z = .str Dd.redo.s ∨ z = .str Dd.join.s ∨ z = .str Dd.turn.s ∨ z = .str Dd.flip.s ∨ z = .str Dd.mute.s ∨ z = .str "pace" ∨ z = .str Dd.clear.s := by
    simp only [List.cons_append, List.nil_append, List.mem_cons, List.not_mem_nil, or_false] at h
    rcases h with h | h | h | h | h | h | h | h | h | h | h | h | h | h <;> rw [h] <;> simp [Dd.s]
  rcases q with q | q | q | q | q | q | q | q | q | q
  all_goals first
    | exact .inl q
    | exact .inr ⟨_, q⟩
theorem pace3 {z : V} (h : z ∈ [V.int 1, .int 2, .int 4]) : ∃ n : Int, z = .int n ∧ (n = 1 ∨ n = 2 ∨ n = 4) := by
  rcases mem3 h with e | e | e
  · exact ⟨1, e, .inl rfl⟩
  · exact ⟨2, e, .inr (.inl rfl)⟩
  · exact ⟨4, e, .inr (.inr rfl)⟩
theorem min5' (z : Int) (h : 0 ≤ z) : 0 ≤ (if (5 : Int) < z then 5 else z) ∧ (if (5 : Int) < z then 5 else z) ≤ 5 := by
  split <;> omega
/-! ### promises on rows -/
abbrev stD (st : List Pr) : PyData := .tuple (st.map prD)
abbrev dRow (row : List (List Pr)) : PyData := .tuple (row.map fun st => .tuple (st.map prD))
abbrev dPlay (ts : List Tr) (row : List (List Pr)) (ss : List Int) : PyData := .tuple [dInts (playB ts row ss).1, dBoard (playB ts row ss).2]
def sp_need_tracks (K : PySem.W.Frag) : Sp := fun vs H Q _ => ∃ i : Int, vs = [.int i] ∧ 1 ≤ i ∧ i ≤ 4 ∧ Q .non H
def sp_need_row (K : PySem.W.Frag) : Sp := fun vs H Q _ => ∃ (v : V) (i : Nat) (row : List (List Pr)), vs = [.int (i : Nat), v] ∧ Dp K H v (dRow row) ∧ 1 ≤ i ∧ i ≤ 4 ∧ OkR i row ∧ ∀ H', Same H H' → Q v H'
def sp_behind_row (K : PySem.W.Frag) : Sp := fun vs H Q _ => ∃ (v u z : V) (ts : List Tr) (row : List (List Pr)) (ss : List Int), vs = [v, u, z] ∧ Dp K H v (dBoard ts) ∧ Dp K H u (dRow row) ∧ Dp K H z (dInts ss) ∧ OkB ts ∧ OkR ts.length row ∧ row.length = ss.length ∧ ∀ w H', Same H H' → Dp K H' w (dPlay ts row ss) → Q w H'
def sp_played (K : PySem.W.Frag) : Sp := fun vs H Q _ => ∃ (v u z : V) (ts : List Tr) (row : List (List Pr)) (ss : List Int), vs = [u, z, v] ∧ Dp K H v (dBoard ts) ∧ Dp K H u (dRow row) ∧ Dp K H z (dInts ss) ∧ OkB ts ∧ OkR ts.length row ∧ row.length = ss.length ∧ ∀ w H', Same H H' → Dp K H' w (dPlay ts row ss) → Q w H'
def sp__law_played (K : PySem.W.Frag) : Sp := fun vs H Q _ => ∃ (v u z : V) (ts : List Tr) (row : List (List Pr)) (ss : List Int), vs = [v, u, z] ∧ Dp K H v (dBoard ts) ∧ Dp K H u (dRow row) ∧ Dp K H z (dInts ss) ∧ OkB ts ∧ OkR ts.length row ∧ row.length = ss.length ∧ ∀ w H', Same H H' → Dp K H' w (.tuple [dList (playB ts row ss).1, dBoard (playB ts row ss).2]) → Q w H'
def sp__law_empty (K : PySem.W.Frag) : Sp := fun vs H Q _ => ∃ i : Nat, vs = [.int (i : Nat)] ∧ 1 ≤ i ∧ i ≤ 4 ∧ ∀ w H', Same H H' → Dp K H' w (dBoard (List.replicate i Tr.e)) → Q w H'
def sp__law_steps (K : PySem.W.Frag) : Sp := fun vs H Q _ => ∃ (m : Addr) (i : Nat) (many top : Int) (n : Nat), vs = [.ref m, .int (i : Nat), .int many, .int top] ∧ MS H m n ∧ (1 ≤ i ∧ i ≤ 4 ∧ 0 ≤ many ∧ many ≤ 200 ∧ 1 ≤ top ∧ top ≤ 8) ∧ n + 20000 ≤ 2 ^ 40 ∧
  ∀ (v : V) (row : List (List Pr)) (n' : Nat) H', Dp K H' v (dRow row) → ((row.length : Nat) : Int) = many → OkR i row → n' ≤ n + 17000 → MS H' m n' → Ef m H H' → Q v H'
def sp__law_sound (K : PySem.W.Frag) : Sp := fun vs H Q _ => ∃ (m : Addr) (v : V) (row : List (List Pr)) (n : Nat), vs = [.ref m, v] ∧ MS H m n ∧ Dp K H v (dRow row) ∧ row.length ≤ 200 ∧ n + 1000 ≤ 2 ^ 40 ∧
  ∀ (w : V) (ss : List Int) (n' : Nat) H', Dp K H' w (dInts ss) → ss.length = row.length → (∀ z ∈ ss, z.natAbs ≤ 10 ^ 27) → n' ≤ n + 201 → MS H' m n' → Ef m H H' → Q w H'

theorem DpAll.rep {K : PySem.W.Frag} {H : Hp} {v : V} {d : PyData} (h : Dp K H v d) : ∀ n : Nat, DpAll K H (List.replicate n v) (List.replicate n d)
  | 0 => .nil
  | n + 1 => .cons h (DpAll.rep h n)
theorem to_row : ∀ row : List (List Pr), tupOnly.go (row.map stD) = true
  | [] => rfl
  | st :: r => by
    show (tupOnly.go (st.map prD) && tupOnly.go (r.map stD)) = true
    rw [to_prs st, to_row r]
    rfl
theorem flatV (d : V) : ∀ n : Nat, (List.replicate n [d]).flatten = List.replicate n d
  | 0 => rfl
  | n + 1 => by rw [List.replicate_succ, List.flatten_cons, flatV d n]; rfl
theorem BdT.fit' {t : Tr} {b : Nat} (h : BdT t b) (q : b < 10 ^ 40) : FitT t :=
  ⟨fun l hl z hz => Nat.lt_of_le_of_lt (h.cell (List.mem_append.mpr (.inl hl)) hz) q, fun l hl z hz => Nat.lt_of_le_of_lt (h.cell (List.mem_append.mpr (.inr hl)) hz) q⟩
theorem play_bd {c : Nat} : ∀ (row : List (List Pr)) (sound : List Int) (ts : List Tr) (b : Nat), (∀ st ∈ row, ∀ p ∈ st, OkP p ts.length) → OkB ts → (∀ s ∈ sound, s.natAbs ≤ c) → (∀ t ∈ ts, BdT t b) →
    (∀ t ∈ (playB ts row sound).2, BdT t (b + row.length * c)) ∧ ∀ h ∈ (playB ts row sound).1, h.natAbs ≤ 4 * (b + row.length * c)
  | [], ss, ts, b, _, _, _, h => by rw [playB_nil]; exact ⟨fun t ht => (h t ht).mono (by omega), fun x hx => by cases hx⟩
  | st :: r, [], ts, b, _, _, _, h => ⟨fun t ht => (h t ht).mono (Nat.le_add_right _ _), fun x hx => by cases hx⟩
  | st :: r, s :: ss, ts, b, hp, ok, hs, h => by
    have ok1 := stepB_ok (hp st List.mem_cons_self) ok
    have l : (goB (stepB ts st) s).length = ts.length := by rw [goB_len, stepB_len]
    have h1 := stepB_bd (ps := st) h
    have h2 : ∀ t ∈ goB (stepB ts st) s, BdT t (b + c) := fun t ht => (goB_bd ok1.2.2 h1 s t ht).mono (by have := hs s List.mem_cons_self; omega)
    obtain ⟨q1, q2⟩ := play_bd r ss (goB (stepB ts st) s) (b + c) (fun u hu p hq => by rw [l]; exact hp u (List.mem_cons_of_mem _ hu) p hq) (goB_ok s ok1) (fun z hz => hs z (List.mem_cons_of_mem _ hz)) h2
    have e : b + c + r.length * c = b + (r.length + 1) * c := by rw [Nat.succ_mul]; omega
    rw [e] at q1 q2
    refine ⟨q1, fun x hx => ?_⟩
    rcases List.mem_cons.mp hx with rfl | hx
    · exact Nat.le_trans (hear_le ok1.2.2 h1) (Nat.mul_le_mul ok1.2.1 (Nat.le_add_right _ _))
    · exact q2 x hx
theorem tells_told {hs : List Int} {ts : List Tr} (hh : ∀ z ∈ hs, z.natAbs < 10 ^ 40) (hl : hs.length ≤ 200) (ok : OkB ts) (f : ∀ t ∈ ts, FitT t) : Tells (.tuple [dInts hs, dBoard ts]) := by
  refine tells 40 (by decide) (by decide) rfl ?_ ?_ ?_
  · show (fits.go 40 (hs.map PyData.int) && (fits.go 40 (ts.map trD) && true)) = true
    rw [fits_ints hh, fits_board ok.2.2 f]
    rfl
  · have q := depth_board ts
    have q2 := depth_ints hs
    show max (PyData.depthAll (hs.map PyData.int) + 1) (max (PyData.depthAll (ts.map trD) + 1) 0) + 1 ≤ 8
    omega
  · have q := room_board ok.2.2
    have := ok.2.1
    have q2 := room_ints 40 hs
    show ((room.go 40 (hs.map PyData.int) + 4) + 2 + ((room.go 40 (ts.map trD) + 4) + 2 + 0)) + 4 ≤ 16000000
    omega
theorem tells_play {ts : List Tr} {row : List (List Pr)} {ss : List Int} (ok : OkB ts) (okr : OkR ts.length row) (hl : row.length = ss.length) (bd : ∀ t ∈ ts, BdT t (10 ^ 23)) (hs : ∀ z ∈ ss, z.natAbs ≤ 10 ^ 27) : Tells (dPlay ts row ss) := by
  obtain ⟨q1, q2⟩ := play_bd row ss ts (10 ^ 23) (fun st h => (okr.s st h).2) ok hs bd
  have h200 : 10 ^ 23 + row.length * 10 ^ 27 ≤ 10 ^ 23 + 200 * 10 ^ 27 := Nat.add_le_add_left (Nat.mul_le_mul_right _ okr.l) _
  refine tells_told (fun z hz => Nat.lt_of_le_of_lt (q2 z hz) (Nat.lt_of_le_of_lt (Nat.mul_le_mul_left 4 h200) (by decide))) ?_ (playB_ok row ss ts (fun st h => (okr.s st h).2) ok) fun t ht => (q1 t ht).fit' (Nat.lt_of_le_of_lt h200 (by decide))
  rw [(playB_len row ss ts hl).1]
  exact okr.l
theorem fits_word : ∀ d : Dd, fits 40 (.str d.s) = true := by
  intro d
  cases d <;> decide +kernel
theorem fits_pr {p : Pr} {i : Nat} (h : OkP p i) (hi : i ≤ 4) : fits 40 (prD p) = true := by
  have ha := h.at_
  cases p with
  | d w a =>
    show (fits 40 (.str w.s) && (fits 40 (.int (a : Nat)) && true)) = true
    rw [fits_word, fitI (by have : a < i := ha; omega)]
    rfl
  | p a n =>
    have hn := h.pc a n rfl
    show (fits 40 (.str "pace") && (fits 40 (.int (a : Nat)) && (fits 40 (.int n) && true))) = true
    rw [show fits 40 (.str "pace") = true by decide +kernel, fitI (by have : a < i := ha; omega), fitI (by omega)]
    rfl
theorem room_pr (p : Pr) : room 40 (prD p) ≤ 1100 := by
  cases p with
  | d w a => show 1000 + 2 + (41 + 2 + 0) + 4 ≤ 1100; decide
  | p a n => show 1000 + 2 + (41 + 2 + (41 + 2 + 0)) + 4 ≤ 1100; decide
theorem depth_pr (p : Pr) : (prD p).depth ≤ 1 := by
  cases p with
  | d w a => show max 0 (max 0 0) + 1 ≤ 1; decide
  | p a n => show max 0 (max 0 (max 0 0)) + 1 ≤ 1; decide
theorem prs_all {i : Nat} (hi : i ≤ 4) : ∀ {ps : List Pr}, (∀ p ∈ ps, OkP p i) → fits.go 40 (ps.map prD) = true ∧ room.go 40 (ps.map prD) ≤ 1102 * ps.length ∧ PyData.depthAll (ps.map prD) ≤ 1
  | [], _ => ⟨rfl, Nat.le_refl _, Nat.zero_le _⟩
  | p :: r, h => by
    obtain ⟨a, b, c⟩ := prs_all hi (ps := r) fun u hu => h u (List.mem_cons_of_mem _ hu)
    have b1 := room_pr p
    have c1 := depth_pr p
    refine ⟨?_, ?_, ?_⟩
    · show (fits 40 (prD p) && fits.go 40 (r.map prD)) = true
      rw [a, fits_pr (h p List.mem_cons_self) hi]
      rfl
    · show room 40 (prD p) + 2 + room.go 40 (r.map prD) ≤ 1102 * (r.length + 1)
      omega
    · show max (prD p).depth (PyData.depthAll (r.map prD)) ≤ 1
      omega
theorem row_all {i : Nat} (hi : i ≤ 4) : ∀ {row : List (List Pr)}, (∀ st ∈ row, st.length ≤ 8 ∧ ∀ p ∈ st, OkP p i) → fits.go 40 (row.map stD) = true ∧ room.go 40 (row.map stD) ≤ 8822 * row.length ∧ PyData.depthAll (row.map stD) ≤ 2
  | [], _ => ⟨rfl, Nat.le_refl _, Nat.zero_le _⟩
  | st :: r, h => by
    obtain ⟨a, b, c⟩ := row_all hi (row := r) fun u hu => h u (List.mem_cons_of_mem _ hu)
    obtain ⟨l, o⟩ := h st List.mem_cons_self
    obtain ⟨a1, b1, c1⟩ := prs_all hi o
    refine ⟨?_, ?_, ?_⟩
    · show (fits.go 40 (st.map prD) && fits.go 40 (r.map stD)) = true
      rw [a, a1]
      rfl
    · show room.go 40 (st.map prD) + 4 + 2 + room.go 40 (r.map stD) ≤ 8822 * (r.length + 1)
      omega
    · show max (PyData.depthAll (st.map prD) + 1) (PyData.depthAll (r.map stD)) ≤ 2
      omega
theorem tells_three {ts : List Tr} {row : List (List Pr)} {ss : List Int} (ok : OkB ts) (okr : OkR ts.length row) (hl : row.length = ss.length) (bd : ∀ t ∈ ts, BdT t (10 ^ 23)) (hs : ∀ z ∈ ss, z.natAbs ≤ 10 ^ 27) : Tells (.list [dBoard ts, dRow row, dInts ss]) := by
  obtain ⟨a, b, c⟩ := row_all ok.2.1 okr.s
  have hl2 := okr.l
  refine tells 40 (by decide) (by decide) rfl ?_ ?_ ?_
  · show (fits.go 40 (ts.map trD) && (fits.go 40 (row.map stD) && (fits.go 40 (ss.map PyData.int) && true))) = true
    rw [a, fits_board ok.2.2 fun t ht => (bd t ht).fit, fits_ints fun z hz => Nat.lt_of_le_of_lt (hs z hz) (by decide)]
    rfl
  · have q := depth_board ts
    have q2 := depth_ints ss
    show max (PyData.depthAll (ts.map trD) + 1) (max (PyData.depthAll (row.map stD) + 1) (max (PyData.depthAll (ss.map PyData.int) + 1) 0)) + 1 ≤ 8
    omega
  · have q := room_board ok.2.2
    have := ok.2.1
    have q2 := room_ints 40 ss
    show (room.go 40 (ts.map trD) + 4) + 2 + ((room.go 40 (row.map stD) + 4) + 2 + ((room.go 40 (ss.map PyData.int) + 4) + 2 + 0)) + 4 ≤ 16000000
    omega
theorem emp_ok {i : Nat} (h1 : 1 ≤ i) (h4 : i ≤ 4) : OkB (List.replicate i Tr.e) := ⟨by rw [List.length_replicate]; exact h1, by rw [List.length_replicate]; exact h4, fun t ht => by rw [(List.mem_replicate.mp ht).2]; exact .e⟩
theorem emp_bd {i b : Nat} : ∀ t ∈ List.replicate i Tr.e, BdT t b := fun t ht => by rw [(List.mem_replicate.mp ht).2]; exact BdT.e b
theorem min4' (z : Int) (h : 0 ≤ z) : 0 ≤ (if (4 : Int) < z then 4 else z) ∧ (if (4 : Int) < z then 4 else z) ≤ 4 := by
  split <;> omega
theorem _root_.L2.Dp.lints {K : PySem.W.Frag} {H : Hp} {v : V} {ns : List Int} (h : Dp K H v (dList ns)) : ∃ a, v = .ref a ∧ SqL K H a (ns.map V.int) := by
  cases h with
  | lst hs ha =>
    rw [DpAll.ints_inv ha] at hs
    exact ⟨_, rfl, hs⟩
theorem rd_catI {K : PySem.W.Frag} {H : Hp} {v w : V} {xs ys : List Int} {Q : VK} (h1 : Dp K H v (dInts xs)) (h2 : Dp K H w (dInts ys)) (hl : xs.length + ys.length ≤ sizeLine) (k : ∀ u H', Same H H' → Dp K H' u (dInts (xs ++ ys)) → Q u H') : rCatA K v w H Q := by
  obtain ⟨a, rfl, ha⟩ := h1.ints
  obtain ⟨b, rfl, hb⟩ := h2.ints
  refine ⟨a, b, _, _, rfl, rfl, ha, hb, by rw [List.length_map, List.length_map]; exact hl, fun e => ?_, fun e1 e2 => ?_, fun e1 e2 p hp => ?_⟩
  · cases xs with
    | nil => exact k _ _ (Same.refl _) h2
    | cons x r => cases e
  · cases ys with
    | nil =>
      refine k _ _ (Same.refl _) ?_
      rw [List.append_nil]
      exact h1
    | cons x r => cases e2
  · refine k _ _ (same_upd hp _) (Dp.ofInts ?_)
    rw [List.map_append]
    exact SqT.of upd_same
theorem to_told (hs : List Int) (ts : List Tr) : tupOnly (.tuple [dInts hs, dBoard ts]) = true := by
  show (tupOnly.go (hs.map PyData.int) && (tupOnly.go (ts.map trD) && true)) = true
  rw [to_ints, to_board]
  rfl
/-! ### what is no track, no pedal -/
def NotTup (K : PySem.W.Frag) (H : Hp) (x : V) : Prop := ∃ d : Th, Rt K H x d ∧ ∀ ds, d ≠ .tup ds
def BadTr (K : PySem.W.Frag) (H : Hp) (x : V) : Prop := NotTup K H x ∨ (∃ a xs, x = .ref a ∧ SqT K H a xs ∧ xs.length ≠ 8) ∨ ∃ t : Tr, OkT t ∧ Dp K H x (.tuple ((trP t).take 7 ++ [.int 0]))
def BadPd (K : PySem.W.Frag) (H : Hp) (v : V) (pl : List Int) : Prop := (pl = [] ∧ (NotTup K H v ∨ ∃ a xs, v = .ref a ∧ SqT K H a xs ∧ (xs.length = 0 ∨ 4 < xs.length))) ∨
  ∃ (a : Addr) (xs : List V) (i : Nat) (x : V) (ts : List Tr), v = .ref a ∧ SqT K H a xs ∧ 1 ≤ xs.length ∧ xs.length ≤ 4 ∧ ts.length = i ∧ (∀ t ∈ ts, OkT t) ∧ DpAll K H (xs.take i) (ts.map trD) ∧ xs[i]? = some x ∧ BadTr K H x ∧ pl = [((i : Nat) : Int)]
theorem NotTup.at {K : PySem.W.Frag} {H H' : Hp} {x : V} (h : NotTup K H x) (s : Same H H') : NotTup K H' x := by
  obtain ⟨d, h1, h2⟩ := h
  exact ⟨d, h1.at s, h2⟩
theorem BadTr.at {K : PySem.W.Frag} {H H' : Hp} {x : V} (h : BadTr K H x) (s : Same H H') : BadTr K H' x := by
  rcases h with h | ⟨a, xs, e, h, l⟩ | ⟨t, ok, h⟩
  · exact .inl (h.at s)
  · exact .inr (.inl ⟨a, xs, e, Same.tk s _ _ h, l⟩)
  · exact .inr (.inr ⟨t, ok, h.same_at s⟩)
theorem BadPd.at {K : PySem.W.Frag} {H H' : Hp} {v : V} {pl : List Int} (h : BadPd K H v pl) (s : Same H H') : BadPd K H' v pl := by
  rcases h with ⟨e, h | ⟨a, xs, e2, h, l⟩⟩ | ⟨a, xs, i, x, ts, e, h, l1, l4, li, ok, hD, hx, hb, ep⟩
  · exact .inl ⟨e, .inl (h.at s)⟩
  · exact .inl ⟨e, .inr ⟨a, xs, e2, Same.tk s _ _ h, l⟩⟩
  · exact .inr ⟨a, xs, i, x, ts, e, Same.tk s _ _ h, l1, l4, li, ok, DpAll.same s _ _ hD, hx, hb.at s, ep⟩
theorem NotTup.kit {K : PySem.W.Frag} {H : Hp} {x : V} (h : NotTup K H x) : ∃ c : String, TyX K H x (.type c) ∧ PySem.W.kitOne K (.type c) (.type "tuple") = some false := by
  obtain ⟨d, h1, h2⟩ := h
  refine ⟨_, h1.ty, ?_⟩
  have q := kit_tup (K := K) d
  cases d with
  | tup ds => exact absurd rfl (h2 ds)
  | int i => exact q
  | bl b => exact q
  | str s => exact q
  | non => exact q
  | lst => exact q
  | dct => exact q
def sp_is_trackB (K : PySem.W.Frag) : Sp := fun vs H Q _ => ∃ (v : V) (b : Bool), vs = [v] ∧ ((b = true ∧ ∃ t : Tr, Dp K H v (trD t) ∧ OkT t) ∨ (b = false ∧ BadTr K H v)) ∧ ∀ H', Same H H' → Q (.bl b) H'
def sp_need_pedalX (K : PySem.W.Frag) (C : Addr) : Sp := fun vs H Q E => ∃ v : V, vs = [v] ∧ ((∃ ts : List Tr, Dp K H v (dBoard ts) ∧ OkB ts ∧ ∀ H', Same H H' → Q v H') ∨ ∃ pl, BadPd K H v pl ∧ RaiseP K C H E pl)
def sp_plain_track (K : PySem.W.Frag) : Sp := fun _ _ _ _ => False
def sp_plainX (K : PySem.W.Frag) (C : Addr) : Sp := fun vs H Q E => ∃ v : V, vs = [v] ∧ ∃ pl, BadPd K H v pl ∧ RaiseP K C H E pl
def sp_are_twinsX (K : PySem.W.Frag) (C C2 : Addr) : Sp := fun vs H Q E => ∃ v u : V, vs = [v, u] ∧ ((∃ pl, BadPd K H v pl ∧ RaiseP K C H E pl) ∨ (∃ ts pl, Dp K H v (dBoard ts) ∧ OkB ts ∧ BadPd K H u pl ∧ RaiseP K C H E pl) ∨
  ∃ ts us, Dp K H v (dBoard ts) ∧ OkB ts ∧ Dp K H u (dBoard us) ∧ OkB us ∧ ts.length ≠ us.length ∧ ∀ H', Same H H' → E (.ref C2) none H')
theorem flatD : ∀ (n : Nat) {K : PySem.W.Frag} {H : Hp} {xs : List V} {ds : List PyData}, DpAll K H xs ds → DpAll K H (List.replicate n xs).flatten (List.replicate n ds).flatten
  | 0, _, _, _, _, _ => .nil
  | n + 1, _, _, _, _, h => by
    rw [List.replicate_succ, List.flatten_cons, List.replicate_succ, List.flatten_cons]
    exact DpAll.app h (flatD n h)
theorem rd_rep {K : PySem.W.Frag} {H : Hp} {v : V} {ds : List PyData} {n : Nat} {Q : VK} (h : Dp K H v (.tuple ds)) (hz : ds.length ≤ 1000) (h1 : n ≤ 200)
    (k : ∀ w H', Same H H' → Dp K H' w (.tuple (List.replicate n ds).flatten) → Q w H') : rRepA K v (.int (n : Nat)) H Q := by
  obtain ⟨a, xs, rfl, hT, hX⟩ := Dp.tuple h
  have hl := hX.len
  refine ⟨a, _, xs, rfl, rfl, hT, by omega, by omega, by omega, fun e => ?_, fun _ p hp => ?_⟩
  · refine k _ H (Same.refl H) (.tup hT ?_)
    have q := flatD n hX
    rcases e with e | e
    · subst e
      cases hX
      have z : (List.replicate n ([] : List PyData)).flatten = [] := by simp
      rw [z]
      exact .nil
    · have n1 : n = 1 := by omega
      subst n1
      have z : (List.replicate 1 ds).flatten = ds := by simp
      rw [z]
      exact hX
  · rw [Int.toNat_natCast]
    have s := same_upd hp (.tup (List.replicate n xs).flatten)
    exact k _ _ s (.tup (SqT.of upd_same) (DpAll.same s _ _ (flatD n hX)))
theorem min8' (z : Int) (h : 0 ≤ z) : 0 ≤ (if (8 : Int) < z then 8 else z) ∧ (if (8 : Int) < z then 8 else z) ≤ 8 := by
  split <;> omega
/-- things that are no pedals, however the heap goes on -/
def OddV (K : PySem.W.Frag) (H : Hp) (m : Addr) (x : V) : Prop := (x = .non ∨ (∃ i, x = .int i) ∨ (∃ b, x = .bl b) ∨ ∃ s, x = .str s) ∨ (∃ a xs, x = .ref a ∧ SqT K H a xs ∧ (xs.length = 0 ∨ 4 < xs.length)) ∨
  ∃ a o, x = .ref a ∧ H a = some o ∧ ((∃ xs, o = .lst xs) ∨ ∃ kvs, o = .dK kvs) ∧ a ≠ m ∧ ¬ Lf H m a
theorem OddV.bad {K : PySem.W.Frag} {H : Hp} {m : Addr} {x : V} (h : OddV K H m x) : BadPd K H x [] := by
  refine .inl ⟨rfl, ?_⟩
  rcases h with (rfl | ⟨i, rfl⟩ | ⟨b, rfl⟩ | ⟨s, rfl⟩) | ⟨a, xs, rfl, h, l⟩ | ⟨a, o, rfl, h, (⟨xs, rfl⟩ | ⟨kvs, rfl⟩), _⟩
  · exact .inl ⟨.non, .non, fun _ z => by cases z⟩
  · exact .inl ⟨.int i, .int i, fun _ z => by cases z⟩
  · exact .inl ⟨.bl b, .bl b, fun _ z => by cases z⟩
  · exact .inl ⟨.str s, .str s, fun _ z => by cases z⟩
  · exact .inr ⟨a, xs, rfl, h, l⟩
  · exact .inl ⟨.lst, .lst h, fun _ z => by cases z⟩
  · exact .inl ⟨.dct, .dct h, fun _ z => by cases z⟩
theorem OddV.same {K : PySem.W.Frag} {H H' : Hp} {m : Addr} {x : V} {n : Nat} (h : OddV K H m x) (M : MS H m n) (s : Same H H') : OddV K H' m x := by
  rcases h with h | ⟨a, xs, e, h, l⟩ | ⟨a, o, e, h, k, n1, n2⟩
  · exact .inl h
  · exact .inr (.inl ⟨a, xs, e, Same.tk s _ _ h, l⟩)
  · exact .inr (.inr ⟨a, o, e, s _ _ h, k, n1, noLf_same M s n2⟩)
theorem OddV.ef {K : PySem.W.Frag} {H H' : Hp} {m : Addr} {x : V} {n : Nat} (h : OddV K H m x) (M : MS H m n) (e : Ef m H H') : OddV K H' m x := by
  rcases h with h | ⟨a, xs, e1, h, l⟩ | ⟨a, o, e1, h, k, n1, n2⟩
  · exact .inl h
  · exact .inr (.inl ⟨a, xs, e1, e.tk M _ _ h, l⟩)
  · refine .inr (.inr ⟨a, o, e1, e.keep _ _ h n1 n2, k, n1, fun z => ?_⟩)
    rcases e.new _ z with q | q
    · exact n2 q
    · rw [h] at q
      cases q
theorem OddV.ext {K : PySem.W.Frag} {H H' : Hp} {m : Addr} {x : V} {n : Nat} (h : OddV K H m x) (M : MS H m n) (e : LamX.ExtN H H') : OddV K H' m x := by
  rcases h with h | ⟨a, xs, e1, h, l⟩ | ⟨a, o, e1, h, k, n1, n2⟩
  · exact .inl h
  · exact .inr (.inl ⟨a, xs, e1, ExtN.tk e _ _ h, l⟩)
  · refine .inr (.inr ⟨a, o, e1, e _ _ h (fun ps z => ?_), k, n1, fun z => n2 ?_⟩)
    · rcases k with ⟨xs, rfl⟩ | ⟨kvs, rfl⟩ <;> cases z
    · obtain ⟨c, l, M⟩ := M
      obtain ⟨kvs, kk, h1, h2⟩ := z
      rw [e _ _ M.dk (fun ps z => by cases z)] at h1
      cases h1
      exact ⟨_, kk, M.dk, h2⟩
/-- a track with no truth value for its last part -/
abbrev spoilD (t : Tr) : PyData := .tuple ((trP t).take 7 ++ [.int 0])
theorem bad_of {K : PySem.W.Frag} {H : Hp} {v : V} {us : List Tr} {t : Tr} {ds : List PyData} (h : Dp K H v (.tuple (us.map trD ++ (spoilD t :: ds)))) (ok : ∀ u ∈ us, OkT u) (okt : OkT t) (l : us.length + (1 + ds.length) ≤ 4) : BadPd K H v [((us.length : Nat) : Int)] := by
  obtain ⟨a, xs, rfl, hT, hX⟩ := h.tuple
  have hl := hX.len
  rw [List.length_append, List.length_map, List.length_cons] at hl
  have ht := DpAll.take us.length hX
  rw [List.take_left' (by rw [List.length_map])] at ht
  have ix : us.length < xs.length := by omega
  have hx : xs[us.length]? = some xs[us.length] := List.getElem?_eq_getElem ix
  obtain ⟨d, hd, hD⟩ := hX.get hx
  rw [List.getElem?_append_right (by rw [List.length_map]; exact Nat.le_refl _), List.length_map, Nat.sub_self] at hd
  cases hd
  exact .inr ⟨a, xs, us.length, _, us, rfl, hT, by omega, by omega, rfl, ok, ht, hx, .inr (.inr ⟨t, okt, hD⟩), rfl⟩
theorem to_tracks : ∀ (us : List Tr) (ds : List PyData), tupOnly.go ds = true → tupOnly.go (us.map trD ++ ds) = true
  | [], ds, h => h
  | u :: r, ds, h => by
    show (tupOnly (trD u) && tupOnly.go (r.map trD ++ ds)) = true
    rw [to_tr u, to_tracks r ds h]
    rfl
theorem to_spoil (us : List Tr) (t : Tr) (vs : List Tr) : tupOnly.go (us.map trD ++ (spoilD t :: vs.map trD)) = true := by
  refine to_tracks us _ ?_
  show (tupOnly.go [.str t.md.s, dLoops t.lay, dLoops t.und, .int t.pt, .int t.way, .int t.pace, .int t.sign, .int 0] && tupOnly.go (vs.map trD)) = true
  rw [to_board vs]
  show (tupOnly (.str t.md.s) && (tupOnly.go (t.lay.map dInts) && (tupOnly.go (t.und.map dInts) && true)) && true) = true
  rw [to_loops, to_loops]
  rfl
theorem cut_one (us : List PyData) (d : PyData) (ds : List PyData) : L2.cutD (us ++ (d :: ds)) (some ((us.length : Nat) : Int)) (some ((us.length + 1 : Nat) : Int)) = [d] := by
  unfold L2.cutD
  rw [HT.sIx_nat, HT.sIx_nat]
  have l : (us ++ (d :: ds)).length = us.length + (ds.length + 1) := by simp
  rw [l, Nat.min_eq_left (by omega), Nat.min_eq_left (by omega), List.drop_left' rfl]
  rw [show us.length + 1 - us.length = 1 from by omega]
  rfl
/-! ### presses among things of many kinds -/
def begTh (w : Str) (n : Int) : Th → Bool
  | .tup (.str s :: r) => decide (((r.length : Nat) : Int) + 1 = n) && decide (s = w)
  | _ => false
def oneTh (ns : List Int) : Th → Bool
  | .int i => decide (i ∈ ns)
  | _ => false
def rangeTh (n : Nat) : Th → Bool
  | .int i => decide (0 ≤ i) && decide (i < n)
  | _ => false
def pressTh (n : Nat) (d : Th) : Bool :=
  (bif begTh "pace" 3 d then (match d with | .tup [_, _, p] => oneTh [1, 2, 4] p | _ => false) else allW.any fun w => begTh w 2 d) && (match d with | .tup (_ :: k :: _) => rangeTh n k | _ => false)
def sp_beginsG (K : PySem.W.Frag) : Sp := fun vs H Q _ => ∃ (v : V) (w : Str) (n : Int) (d : Th), vs = [v, .str w, .int n] ∧ Rt K H v d ∧ 1 ≤ n ∧ Q (.bl (begTh w n d)) H
def sp_is_one_ofG (K : PySem.W.Frag) : Sp := fun vs H Q _ => ∃ (x w : V) (ns : List Int) (b : Bool), vs = [x, w] ∧ Dp K H w (dInts ns) ∧ ((∃ i, x = .int i ∧ i ∈ ns ∧ b = true) ∨ ∃ d, Rt K H x d ∧ b = oneTh ns d) ∧ Q (.bl b) H
def sp_is_pressG (K : PySem.W.Frag) : Sp := fun vs H Q _ => ∃ (v : V) (d : Th) (n : Nat), vs = [.int (n : Nat), v] ∧ Rt K H v d ∧ ∀ H', Same H H' → Q (.bl (pressTh n d)) H'
def sp_need_pressX (K : PySem.W.Frag) (C : Addr) : Sp := fun vs H Q E => ∃ (v u : V) (ts : List Tr) (d : Th), vs = [v, u] ∧ Dp K H v (dBoard ts) ∧ OkB ts ∧ Rt K H u d ∧ pressTh ts.length d = false ∧ RaiseN C H E
def sp_pressX (K : PySem.W.Frag) (C C2 : Addr) : Sp := fun vs H Q E => ∃ v u : V, vs = [v, u] ∧ ((∃ pl, BadPd K H v pl ∧ RaiseP K C H E pl) ∨ ∃ (ts : List Tr) (d : Th), Dp K H v (dBoard ts) ∧ OkB ts ∧ Rt K H u d ∧ pressTh ts.length d = false ∧ RaiseN C2 H E)
def pressA (d : Th) : Bool := bif begTh "pace" 3 d then (match d with | .tup [_, _, p] => oneTh [1, 2, 4] p | _ => false) else allW.any fun w => begTh w 2 d
theorem begTh_yes {w : Str} {n : Int} {d : Th} (h : begTh w n d = true) : ∃ r, d = .tup (.str w :: r) ∧ ((r.length : Nat) : Int) + 1 = n := by
  unfold begTh at h
  split at h
  · rw [Bool.and_eq_true] at h
    obtain ⟨h1, h2⟩ := h
    rw [of_decide_eq_true h2]
    exact ⟨_, rfl, of_decide_eq_true h1⟩
  · cases h
theorem pressA_shape {d : Th} (h : pressA d = true) : ∃ x kd r, d = .tup (x :: kd :: r) := by
  unfold pressA at h
  cases e : begTh "pace" 3 d with
  | true =>
    obtain ⟨r, rfl, l⟩ := begTh_yes e
    match r, l with
    | kd :: r, _ => exact ⟨_, kd, r, rfl⟩
    | [], l => simp at l
  | false =>
    rw [e] at h
    obtain ⟨w, _, hw⟩ := List.any_eq_true.mp h
    obtain ⟨r, rfl, l⟩ := begTh_yes hw
    match r, l with
    | kd :: r, _ => exact ⟨_, kd, r, rfl⟩
    | [], l => simp at l
theorem press_of {n : Nat} {x kd : Th} {r : List Th} (h : pressA (.tup (x :: kd :: r)) = true) : pressTh n (.tup (x :: kd :: r)) = rangeTh n kd := by
  show (pressA (.tup (x :: kd :: r)) && rangeTh n kd) = _
  rw [h]
  rfl
theorem press_no {n : Nat} {d : Th} (h : pressA d = false) : pressTh n d = false := by
  show (pressA d && _) = false
  rw [h]
  rfl
theorem any_map_id {α : Type} (l : List α) (f : α → Bool) : (l.map f).any id = l.any f := by
  rw [List.any_map]
  rfl
theorem inV_dec {ns : List Int} {i : Int} : inV (.int i) (ns.map V.int) = decide (i ∈ ns) := by
  by_cases h : i ∈ ns
  · rw [inV_ints h, decide_eq_true h]
  · rw [decide_eq_false h]
    unfold inV
    rw [List.any_eq_false]
    intro x hx
    obtain ⟨z, hz, rfl⟩ := List.mem_map.mp hx
    intro q
    have e : z = i := by simpa [eqV] using q
    exact h (e ▸ hz)
theorem bad_gen {K : PySem.W.Frag} {H : Hp} {v : V} {us : List Tr} {d : PyData} {ds : List PyData} (h : Dp K H v (.tuple (us.map trD ++ (d :: ds)))) (ok : ∀ u ∈ us, OkT u) (hb : ∀ x, Dp K H x d → BadTr K H x) (l : us.length + (1 + ds.length) ≤ 4) : BadPd K H v [((us.length : Nat) : Int)] := by
  obtain ⟨a, xs, rfl, hT, hX⟩ := h.tuple
  have hl := hX.len
  rw [List.length_append, List.length_map, List.length_cons] at hl
  have ht := DpAll.take us.length hX
  rw [List.take_left' (by rw [List.length_map])] at ht
  have ix : us.length < xs.length := by omega
  have hx : xs[us.length]? = some xs[us.length] := List.getElem?_eq_getElem ix
  obtain ⟨e, he, hD⟩ := hX.get hx
  rw [List.getElem?_append_right (by rw [List.length_map]; exact Nat.le_refl _), List.length_map, Nat.sub_self] at he
  cases he
  exact .inr ⟨a, xs, us.length, _, us, rfl, hT, by omega, by omega, rfl, ok, ht, hx, hb _ hD, rfl⟩
theorem bad_seven {K : PySem.W.Frag} {H : Hp} {x : V} {t : Tr} (h : Dp K H x (.tuple ((trP t).take 7))) : BadTr K H x := by
  obtain ⟨a, xs, rfl, hT, hX⟩ := h.tuple
  have hl := hX.len
  exact .inr (.inl ⟨a, xs, rfl, hT, by rw [hl]; show 7 ≠ 8; decide⟩)
/-! ### rows among things of many kinds -/
theorem fx_some {α : Type} {p : α → Bool} : ∀ {xs : List α} {i : Nat} {x : α}, xs[i]? = some x → p x = true → (∀ (j : Nat) (y : α), j < i → xs[j]? = some y → p y = false) → xs.findIdx? p = some i
  | [], i, x, h, _, _ => by simp at h
  | a :: r, 0, x, h, hp, _ => by
    simp at h
    subst h
    simp [List.findIdx?_cons, hp]
  | a :: r, i + 1, x, h, hp, hb => by
    have h0 := hb 0 a (Nat.succ_pos i) rfl
    have ih := fx_some (p := p) (xs := r) (i := i) (x := x) h hp fun j y hj hy => hb (j + 1) y (Nat.succ_lt_succ hj) hy
    simp [List.findIdx?_cons, h0, ih]
theorem fx_none {α : Type} {p : α → Bool} : ∀ {xs : List α}, (∀ (j : Nat) (y : α), xs[j]? = some y → p y = false) → xs.findIdx? p = none
  | [], _ => rfl
  | a :: r, hb => by
    have h0 := hb 0 a rfl
    have ih := fx_none (p := p) (xs := r) fun j y hy => hb (j + 1) y hy
    simp [List.findIdx?_cons, h0, ih]
def badStep : Th → Bool
  | .tup ps => decide (8 < ps.length)
  | _ => true
def firstOdd (n : Nat) : Th → Option Nat
  | .tup ps => ps.findIdx? fun p => !pressTh n p
  | _ => none
def rowF (n : Nat) : Th → Option (List Int)
  | .tup ds => if 200 < ds.length then some [] else match ds.findIdx? badStep with
    | some i => some [((i : Nat) : Int)]
    | none => match ds.findIdx? fun s => (firstOdd n s).isSome with
      | some i => some [((i : Nat) : Int), (((((ds[i]?).bind (firstOdd n)).getD 0 : Nat)) : Int)]
      | none => none
  | _ => some []
theorem rowF6 {n : Nat} {ds : List Th} (h : 200 < ds.length) : rowF n (.tup ds) = some [] := if_pos h
theorem rowF1 {n i : Nat} {ds : List Th} {e : Th} (h : ¬ 200 < ds.length) (he : ds[i]? = some e) (eb : badStep e = true) (hb : ∀ (j : Nat) (y : Th), j < i → ds[j]? = some y → badStep y = false) : rowF n (.tup ds) = some [((i : Nat) : Int)] := by
  unfold rowF
  dsimp only
  rw [if_neg h, fx_some he eb hb]
theorem rowF2 {n i k : Nat} {ds : List Th} {e : Th} (h : ¬ 200 < ds.length) (ha : ∀ (j : Nat) (y : Th), ds[j]? = some y → badStep y = false) (he : ds[i]? = some e) (ef : firstOdd n e = some k)
    (hb : ∀ (j : Nat) (y : Th), j < i → ds[j]? = some y → firstOdd n y = none) : rowF n (.tup ds) = some [((i : Nat) : Int), ((k : Nat) : Int)] := by
  unfold rowF
  dsimp only
  rw [if_neg h, fx_none ha, fx_some (p := fun s => (firstOdd n s).isSome) he (by rw [ef]; rfl) (fun j y hj hy => by rw [hb j y hj hy]; rfl)]
  dsimp only
  rw [he]
  show some [((i : Nat) : Int), ((((firstOdd n e).getD 0 : Nat)) : Int)] = _
  rw [ef]
  rfl
theorem rowF0 {n : Nat} {ds : List Th} (h : ¬ 200 < ds.length) (ha : ∀ (j : Nat) (y : Th), ds[j]? = some y → badStep y = false) (hb : ∀ (j : Nat) (y : Th), ds[j]? = some y → firstOdd n y = none) : rowF n (.tup ds) = none := by
  unfold rowF
  dsimp only
  rw [if_neg h, fx_none ha, fx_none (p := fun s => (firstOdd n s).isSome) (fun j y hy => by rw [hb j y hy]; rfl)]
def tracksTh : Th → Bool
  | .int i => decide (1 ≤ i) && decide (i ≤ 4)
  | _ => false
def sp_need_tracksX (K : PySem.W.Frag) (C2 : Addr) : Sp := fun vs H Q E => ∃ (x : V) (d : Th), vs = [x] ∧ Rt K H x d ∧ (tracksTh d = true → Q .non H) ∧ (tracksTh d = false → RaiseN C2 H E)
def sp_need_rowX (K : PySem.W.Frag) (C C2 : Addr) : Sp := fun vs H Q E => ∃ x v : V, vs = [x, v] ∧ ((∃ d : Th, Rt K H x d ∧ tracksTh d = false ∧ RaiseN C2 H E) ∨
  ∃ (n : Nat) (d : Th), x = .int (n : Nat) ∧ 1 ≤ n ∧ n ≤ 4 ∧ Rt K H v d ∧ (rowF n d = none → ∀ H', Same H H' → Q v H') ∧ ∀ pl, rowF n d = some pl → RaiseP K C H E pl)
def sp_never (_ : PySem.W.Frag) : Sp := fun _ _ _ _ => False
/-- whether a thing is a row of n whole numbers -/
def sampTh (n : Int) : Th → Bool
  | .tup ds => decide (((ds.length : Nat) : Int) = n) && ds.all isInt
  | _ => false
def sp_are_samplesG (K : PySem.W.Frag) : Sp := fun vs H Q _ => ∃ (v : V) (d : Th) (n : Int), vs = [v, .int n] ∧ Rt K H v d ∧ n ≤ 1000 ∧ ∀ H', Same H H' → Q (.bl (sampTh n d)) H'
def tickTh : Th → Bool
  | .int i => decide (0 ≤ i) && decide (i ≤ 10 ^ 30)
  | _ => false
def sp_is_tickG (K : PySem.W.Frag) : Sp := fun vs H Q _ => ∃ (v : V) (d : Th), vs = [v] ∧ Rt K H v d ∧ Q (.bl (tickTh d)) H
def sp_need_tickX (K : PySem.W.Frag) (C2 : Addr) : Sp := fun vs H Q E => ∃ (v : V) (d : Th), vs = [v] ∧ Rt K H v d ∧ tickTh d = false ∧ RaiseN C2 H E
def GoodB (K : PySem.W.Frag) (H : Hp) (v : V) (ts : List Tr) : Prop := Dp K H v (dBoard ts) ∧ OkB ts
def sp_playedX (K : PySem.W.Frag) (C C1 C2 : Addr) : Sp := fun vs H Q E => ∃ v u z : V, vs = [u, z, v] ∧ ((∃ pl, BadPd K H v pl ∧ RaiseP K C H E pl) ∨ (∃ (ts : List Tr) (d : Th) (pl : List Int), Dp K H v (dBoard ts) ∧ OkB ts ∧ Rt K H u d ∧ rowF ts.length d = some pl ∧ RaiseP K C1 H E pl) ∨
  ∃ (ts : List Tr) (d e : Th) (a : Addr) (xs : List V), Dp K H v (dBoard ts) ∧ OkB ts ∧ u = .ref a ∧ SqT K H a xs ∧ Rt K H u d ∧ rowF ts.length d = none ∧ Rt K H z e ∧ ((xs.length : Nat) : Int) ≤ 1000 ∧ sampTh ((xs.length : Nat) : Int) e = false ∧ RaiseN C2 H E)
def sp_roundsX (K : PySem.W.Frag) (C : Addr) : Sp := fun vs H Q E => ∃ (v : V) (pl : List Int), vs = [v] ∧ BadPd K H v pl ∧ RaiseP K C H E pl
def sp_later_atX (K : PySem.W.Frag) (C C2 : Addr) : Sp := fun vs H Q E => ∃ v u : V, vs = [v, u] ∧ ((∃ pl, BadPd K H v pl ∧ RaiseP K C H E pl) ∨ ∃ (ts : List Tr) (d : Th), Dp K H v (dBoard ts) ∧ OkB ts ∧ Rt K H u d ∧ tickTh d = false ∧ RaiseN C2 H E)
def sp_first_partingX (K : PySem.W.Frag) (C : Addr) : Sp := fun vs H Q E => ∃ v u : V, vs = [v, u] ∧ ((∃ pl, BadPd K H v pl ∧ RaiseP K C H E pl) ∨ ∃ (ts : List Tr) (pl : List Int), Dp K H v (dBoard ts) ∧ OkB ts ∧ BadPd K H u pl ∧ RaiseP K C H E pl)
/-! ### rows of presses as things -/
theorem th_pr (p : Pr) : thD (prD p) = match p with | .d w a => .tup [.str w.s, .int (a : Nat)] | .p a n => .tup [.str "pace", .int (a : Nat), .int n] := by
  cases p <;> rfl
theorem range_in {n a : Nat} (h : a < n) : rangeTh n (.int (a : Nat)) = true := by
  show (decide (0 ≤ ((a : Nat) : Int)) && decide (((a : Nat) : Int) < ((n : Nat) : Int))) = true
  rw [decide_eq_true (by omega), decide_eq_true (by omega)]
  rfl
theorem pressA_d (w : Dd) (a : Int) : pressA (.tup [.str w.s, .int a]) = true := by
  cases w <;> rfl
theorem pressA_p {n : Int} (a : Int) (h : n = 1 ∨ n = 2 ∨ n = 4) : pressA (.tup [.str "pace", .int a, .int n]) = true := by
  rcases h with rfl | rfl | rfl <;> rfl
theorem press_thD {n : Nat} {p : Pr} (h : OkP p n) : pressTh n (thD (prD p)) = true := by
  cases p with
  | d w a =>
    show pressTh n (.tup [.str w.s, .int (a : Nat)]) = true
    rw [press_of (pressA_d w _), range_in (a := a) h.at_]
  | p a q =>
    show pressTh n (.tup [.str "pace", .int (a : Nat), .int q]) = true
    rw [press_of (pressA_p _ (h.pc a q rfl)), range_in (a := a) h.at_]
theorem first_ok {n : Nat} {st : List Pr} (h : ∀ p ∈ st, OkP p n) : firstOdd n (thD (stD st)) = none := by
  rw [thD_tup]
  refine fx_none fun j y hy => ?_
  obtain ⟨p, hp, rfl⟩ := List.mem_map.mp (List.mem_of_getElem? hy)
  obtain ⟨q, hq, rfl⟩ := List.mem_map.mp hp
  rw [press_thD (h q hq)]
  rfl
theorem step_ok {st : List Pr} (h : st.length ≤ 8) : badStep (thD (stD st)) = false := by
  rw [thD_tup]
  exact decide_eq_false (by rw [List.length_map, List.length_map]; omega)
theorem row_ok {n : Nat} {row : List (List Pr)} (h : OkR n row) : rowF n (thD (dRow row)) = none := by
  rw [thD_tup]
  refine rowF0 (by rw [List.length_map, List.length_map]; have := h.l; omega) (fun j y hy => ?_) fun j y hy => ?_
  · obtain ⟨p, hp, rfl⟩ := List.mem_map.mp (List.mem_of_getElem? hy)
    obtain ⟨q, hq, rfl⟩ := List.mem_map.mp hp
    exact step_ok (h.s q hq).1
  · obtain ⟨p, hp, rfl⟩ := List.mem_map.mp (List.mem_of_getElem? hy)
    obtain ⟨q, hq, rfl⟩ := List.mem_map.mp hp
    exact first_ok (h.s q hq).2
/-- a good row and one more step, whose first press is none -/
theorem row_late {n : Nat} {row : List (List Pr)} {d : Th} (h : OkR n row) (l : row.length < 200) (hp : pressTh n d = false) : rowF n (.tup ((row.map stD).map thD ++ [.tup [d]])) = some [((row.length : Nat) : Int), 0] := by
  have le : ((row.map stD).map thD).length = row.length := by rw [List.length_map, List.length_map]
  have at_ : ∀ (j : Nat) (y : Th), j < row.length → ((row.map stD).map thD ++ [Th.tup [d]])[j]? = some y → ∃ st ∈ row, y = thD (stD st) := fun j y hj hy => by
    rw [List.getElem?_append_left (by rw [le]; exact hj)] at hy
    obtain ⟨p, hp, rfl⟩ := List.mem_map.mp (List.mem_of_getElem? hy)
    obtain ⟨q, hq, rfl⟩ := List.mem_map.mp hp
    exact ⟨q, hq, rfl⟩
  have last : ((row.map stD).map thD ++ [Th.tup [d]])[row.length]? = some (.tup [d]) := by
    rw [List.getElem?_append_right (by rw [le]; exact Nat.le_refl _), le, Nat.sub_self]
    rfl
  have q := rowF2 (n := n) (i := row.length) (k := 0) (ds := (row.map stD).map thD ++ [.tup [d]]) (e := .tup [d]) (by rw [List.length_append, le]; show ¬ 200 < row.length + 1; omega) (fun j y hy => ?_) last ?_ fun j y hj hy => ?_
  · exact q
  · by_cases hj : j < row.length
    · obtain ⟨st, hs, rfl⟩ := at_ j y hj hy
      exact step_ok (h.s st hs).1
    · have hj2 : j = row.length := by
        have hlt : j < ((row.map stD).map thD ++ [Th.tup [d]]).length := by
          rcases Nat.lt_or_ge j ((row.map stD).map thD ++ [Th.tup [d]]).length with z | z
          · exact z
          · rw [List.getElem?_eq_none z] at hy
            cases hy
        rw [List.length_append, le] at hlt
        have hlt : j < row.length + 1 := hlt
        omega
      subst hj2
      rw [last] at hy
      cases hy
      rfl
  · exact fx_some (i := 0) (x := d) rfl (by rw [hp]; rfl) (fun j y hj => absurd hj (Nat.not_lt_zero j))
  · obtain ⟨st, hs, rfl⟩ := at_ j y hj hy
    exact first_ok (h.s st hs).2
theorem press_out (n : Nat) : pressTh n (.tup [.str "tap", .int ((n : Nat) : Int)]) = false := by
  rw [press_of (by rfl)]
  show (decide (0 ≤ ((n : Nat) : Int)) && decide (((n : Nat) : Int) < ((n : Nat) : Int))) = false
  rw [decide_eq_false (by omega : ¬ ((n : Nat) : Int) < ((n : Nat) : Int)), Bool.and_false]
theorem samp_len {n : Int} {ds : List Th} (h : ((ds.length : Nat) : Int) ≠ n) : sampTh n (.tup ds) = false := by
  show (decide (((ds.length : Nat) : Int) = n) && _) = false
  rw [decide_eq_false h]
  rfl
theorem samp_rep {n : Int} {d : Th} (h : isInt d = false) : ∀ {i : Nat}, 1 ≤ i → sampTh n (.tup (List.replicate i d)) = false
  | i + 1, _ => by
    show (decide _ && (List.replicate (i + 1) d).all isInt) = false
    rw [List.replicate_succ, List.all_cons, h]
    simp
theorem samp_ints (xs : List Int) : sampTh ((xs.length : Nat) : Int) (thD (dInts xs)) = true := by
  rw [thD_tup]
  show (decide ((((xs.map PyData.int).map thD).length : Nat) = ((xs.length : Nat) : Int)) && ((xs.map PyData.int).map thD).all isInt) = true
  rw [List.length_map, List.length_map, decide_eq_true rfl, Bool.true_and, List.all_eq_true]
  intro x hx
  obtain ⟨d, hd, rfl⟩ := List.mem_map.mp hx
  obtain ⟨i, _, rfl⟩ := List.mem_map.mp hd
  rfl
/-! ### rows with something otherwise -/
def wholeTh (lo hi : Int) : Th → Bool
  | .int i => decide (lo ≤ i) && decide (i ≤ hi)
  | _ => false
def sp__law_is_whole (K : PySem.W.Frag) : Sp := fun vs H Q _ => ∃ (v : V) (d : Th) (lo hi : Int), vs = [v, .int lo, .int hi] ∧ Rt K H v d ∧ Q (.bl (wholeTh lo hi d)) H
def poB : PyData → Bool
  | .tuple (.str w :: _ :: t :: _) => !decide (w = "pace") || (match t with | .int i => decide (1 ≤ i) && decide (i ≤ 4) | _ => false)
  | _ => true
def eoB (d : PyData) : Bool := poB d && (d.canLay0 && (fits 40 d && (decide (d.depth ≤ 2) && decide (room 40 d ≤ 1190))))
def soB (k : Nat) (d : PyData) : Bool := d.canLay0 && (fits 40 d && (decide (d.depth ≤ 3) && (decide (room 40 d ≤ 12000 * k) && match d with | .tuple es => decide (es.length ≤ 10 * k) && es.all eoB | _ => true)))
def roB (k : Nat) (d : PyData) : Bool := d.canLay0 && (fits 40 d && (decide (d.depth ≤ 4) && (decide (room 40 d ≤ 4000000) && match d with | .tuple ds => decide (ds.length ≤ 60 + k) && ds.all (soB k) | _ => true)))
abbrev anyP : Addr → Prop := fun _ => True
def sp__law_is_press (K : PySem.W.Frag) : Sp := fun vs H Q _ => ∃ (v : V) (d : PyData) (n : Nat), vs = [.int (n : Nat), v] ∧ Dq K H anyP v d ∧ eoB d = true ∧ ∀ H', Same H H' → Q (.bl (pressTh n (thD d))) H'
def sp__law_row_due (K : PySem.W.Frag) : Sp := fun vs H Q _ => ∃ (v : V) (d : PyData) (n k : Nat), vs = [.int (n : Nat), v] ∧ Dq K H anyP v d ∧ roB k d = true ∧ k ≤ 4 ∧ ∀ w H', Same H H' → Dp K H' w (outD "row" d (rowF n (thD d))) → Q w H'
def tupP : PyData → Bool
  | .tuple _ => true
  | _ => false
def sp__law_bent_row (K : PySem.W.Frag) : Sp := fun vs H Q _ => ∃ (m p : Addr) (v : V) (ds : List PyData) (n k : Nat), vs = [.ref m, v] ∧ MS H m n ∧ Pin H m p ∧ Dq K H (offP H m p) v (.tuple ds) ∧ ds.length ≤ 60 + k ∧ ds.all (soB k) = true ∧ ds.all tupP = true ∧ 1 ≤ k ∧ k ≤ 3 ∧ n + 20 ≤ 2 ^ 40 ∧
  ∀ (w : V) (d : PyData) (n' : Nat) H', Dq K H' (offP H' m p) w d → roB (k + 1) d = true → n' ≤ n + 10 → MS H' m n' → Ef m H H' → Q w H'
theorem lay_all {ds : List PyData} (h : ∀ d ∈ ds, d.canLay0 = true) : PyData.canLayAll0 ds = true := by
  induction ds with
  | nil => rfl
  | cons d r ih =>
    show (d.canLay0 && PyData.canLayAll0 r) = true
    rw [h d List.mem_cons_self, ih fun x hx => h x (List.mem_cons_of_mem _ hx)]
    rfl
theorem fits_all {ds : List PyData} (h : ∀ d ∈ ds, fits 40 d = true) : fits.go 40 ds = true := by
  induction ds with
  | nil => rfl
  | cons d r ih =>
    show (fits 40 d && fits.go 40 r) = true
    rw [h d List.mem_cons_self, ih fun x hx => h x (List.mem_cons_of_mem _ hx)]
    rfl
theorem room_all {R : Nat} {ds : List PyData} (h : ∀ d ∈ ds, room 40 d ≤ R) : room.go 40 ds ≤ (R + 2) * ds.length := by
  induction ds with
  | nil => exact Nat.zero_le _
  | cons d r ih =>
    have a := h d List.mem_cons_self
    have b := ih fun x hx => h x (List.mem_cons_of_mem _ hx)
    show room 40 d + 2 + room.go 40 r ≤ (R + 2) * (r.length + 1)
    rw [Nat.mul_succ]
    omega
theorem depth_all {D : Nat} {ds : List PyData} (h : ∀ d ∈ ds, d.depth ≤ D) : PyData.depthAll ds ≤ D := by
  induction ds with
  | nil => exact Nat.zero_le _
  | cons d r ih =>
    have a := h d List.mem_cons_self
    have b := ih fun x hx => h x (List.mem_cons_of_mem _ hx)
    show max d.depth (PyData.depthAll r) ≤ D
    omega
theorem eo_at {d : PyData} (h : eoB d = true) : poB d = true ∧ d.canLay0 = true ∧ fits 40 d = true ∧ d.depth ≤ 2 ∧ room 40 d ≤ 1190 := by
  simp only [eoB, Bool.and_eq_true, decide_eq_true_eq] at h
  exact h
theorem so_at {k : Nat} {d : PyData} (h : soB k d = true) : d.canLay0 = true ∧ fits 40 d = true ∧ d.depth ≤ 3 ∧ room 40 d ≤ 12000 * k ∧ ∀ es, d = .tuple es → es.length ≤ 10 * k ∧ es.all eoB = true := by
  simp only [soB, Bool.and_eq_true, decide_eq_true_eq] at h
  obtain ⟨a, b, c, e, f⟩ := h
  refine ⟨a, b, c, e, fun es z => ?_⟩
  subst z
  simp only [Bool.and_eq_true, decide_eq_true_eq] at f
  exact f
theorem ro_at {k : Nat} {d : PyData} (h : roB k d = true) : d.canLay0 = true ∧ fits 40 d = true ∧ d.depth ≤ 4 ∧ room 40 d ≤ 4000000 ∧ ∀ ds, d = .tuple ds → ds.length ≤ 60 + k ∧ ds.all (soB k) = true := by
  simp only [roB, Bool.and_eq_true, decide_eq_true_eq] at h
  obtain ⟨a, b, c, e, f⟩ := h
  refine ⟨a, b, c, e, fun es z => ?_⟩
  subst z
  simp only [Bool.and_eq_true, decide_eq_true_eq] at f
  exact f
theorem so_of {k : Nat} (h1 : 1 ≤ k) {es : List PyData} (l : es.length ≤ 10 * k) (h : es.all eoB = true) : soB k (.tuple es) = true ∧ soB k (.list es) = true := by
  have q : ∀ e ∈ es, _ := fun e he => eo_at (List.all_eq_true.mp h e he)
  have a := lay_all fun e he => (q e he).2.1
  have b := fits_all fun e he => (q e he).2.2.1
  have c := depth_all fun e he => (q e he).2.2.2.1
  have e := room_all fun e he => (q e he).2.2.2.2
  have e2 : room.go 40 es + 4 ≤ 12000 * k := by
    have z := Nat.mul_le_mul_left 1192 l
    omega
  have a1 : (PyData.tuple es).canLay0 = true := a
  have a2 : (PyData.list es).canLay0 = true := a
  have b1 : fits 40 (.tuple es) = true := b
  have b2 : fits 40 (.list es) = true := b
  have c1 : (PyData.tuple es).depth ≤ 3 := by show PyData.depthAll es + 1 ≤ 3; omega
  have c2 : (PyData.list es).depth ≤ 3 := by show PyData.depthAll es + 1 ≤ 3; omega
  have d1 : room 40 (.tuple es) ≤ 12000 * k := e2
  have d2 : room 40 (.list es) ≤ 12000 * k := e2
  constructor
  · unfold soB
    rw [a1, b1, decide_eq_true c1, decide_eq_true d1]
    dsimp only
    rw [decide_eq_true l, h]
    rfl
  · unfold soB
    rw [a2, b2, decide_eq_true c2, decide_eq_true d2]
    rfl
theorem ro_of {k : Nat} (h8 : k ≤ 4) {ds : List PyData} (l : ds.length ≤ 60 + k) (h : ds.all (soB k) = true) : roB k (.tuple ds) = true ∧ roB k (.list ds) = true := by
  have q : ∀ e ∈ ds, _ := fun e he => so_at (List.all_eq_true.mp h e he)
  have a := lay_all fun e he => (q e he).1
  have b := fits_all fun e he => (q e he).2.1
  have c := depth_all fun e he => (q e he).2.2.1
  have e := room_all (R := 48000) fun e he => Nat.le_trans (q e he).2.2.2.1 (by omega)
  have e2 : room.go 40 ds + 4 ≤ 4000000 := by
    have z := Nat.mul_le_mul_left 48002 (show ds.length ≤ 64 by omega)
    omega
  have a1 : (PyData.tuple ds).canLay0 = true := a
  have a2 : (PyData.list ds).canLay0 = true := a
  have b1 : fits 40 (.tuple ds) = true := b
  have b2 : fits 40 (.list ds) = true := b
  have c1 : (PyData.tuple ds).depth ≤ 4 := by show PyData.depthAll ds + 1 ≤ 4; omega
  have c2 : (PyData.list ds).depth ≤ 4 := by show PyData.depthAll ds + 1 ≤ 4; omega
  have d1 : room 40 (.tuple ds) ≤ 4000000 := e2
  have d2 : room 40 (.list ds) ≤ 4000000 := e2
  constructor
  · unfold roB
    rw [a1, b1, decide_eq_true c1, decide_eq_true d1]
    dsimp only
    rw [decide_eq_true l, h]
    rfl
  · unfold roB
    rw [a2, b2, decide_eq_true c2, decide_eq_true d2]
    rfl
theorem so_up {k : Nat} {d : PyData} (h : soB k d = true) : soB (k + 1) d = true := by
  obtain ⟨a, b, c, e, f⟩ := so_at h
  unfold soB
  rw [a, b, decide_eq_true c, decide_eq_true (by omega : room 40 d ≤ 12000 * (k + 1))]
  cases d with
  | tuple es =>
    obtain ⟨l, q⟩ := f es rfl
    simp only [Bool.true_and]
    rw [decide_eq_true (by omega), q]
    rfl
  | _ => rfl
theorem so_up1 : ∀ {k : Nat} {d : PyData}, 1 ≤ k → soB 1 d = true → soB k d = true
  | k + 1, d, _, h => by
    cases k with
    | zero => exact h
    | succ k => exact so_up (so_up1 (Nat.succ_pos k) h)
theorem so_ups {k : Nat} {ds : List PyData} (h : ds.all (soB k) = true) : ds.all (soB (k + 1)) = true := List.all_eq_true.mpr fun d hd => so_up (List.all_eq_true.mp h d hd)
theorem lay_word : ∀ d : Dd, (PyData.str d.s).canLay0 = true := by
  intro d
  cases d <;> decide +kernel
theorem po_d (w : Dd) (a : Nat) : poB (.tuple [.str w.s, .int (a : Nat)]) = true := rfl
theorem eo_pr {p : Pr} {i : Nat} (h : OkP p i) (hi : i ≤ 4) : eoB (prD p) = true := by
  have f := fits_pr h hi
  have r := room_pr p
  have e := depth_pr p
  have po : poB (prD p) = true := by
    cases p with
    | d w a => rfl
    | p a n =>
      have z := h.pc a n rfl
      show (!decide (("pace" : Str) = "pace") || (decide (1 ≤ n) && decide (n ≤ 4))) = true
      rw [decide_eq_true (by omega : 1 ≤ n), decide_eq_true (by omega : n ≤ 4), Bool.and_self, Bool.or_true]
  have ly : (prD p).canLay0 = true := by
    cases p with
    | d w a =>
      show ((PyData.str w.s).canLay0 && ((PyData.int (a : Nat)).canLay0 && true)) = true
      rw [lay_word]
      rfl
    | p a n =>
      show ((PyData.str "pace").canLay0 && (PyData.canLay0 (.int (a : Nat)) && (PyData.canLay0 (.int n) && true))) = true
      rw [show (PyData.str "pace").canLay0 = true by decide +kernel]
      rfl
  unfold eoB
  rw [po, ly, f, decide_eq_true (by omega), decide_eq_true (by omega)]
  rfl
theorem so_step {st : List Pr} {i : Nat} (l : st.length ≤ 8) (h : ∀ p ∈ st, OkP p i) (hi : i ≤ 4) : soB 1 (stD st) = true := by
  refine (so_of (by decide) (by rw [List.length_map]; omega) (List.all_eq_true.mpr fun e he => ?_)).1
  obtain ⟨p, hp, rfl⟩ := List.mem_map.mp he
  exact eo_pr (h p hp) hi
theorem so_row {n : Nat} {row : List (List Pr)} (h : OkR n row) (hn : n ≤ 4) : (row.map stD).all (soB 1) = true ∧ (row.map stD).all tupP = true := by
  constructor
  · refine List.all_eq_true.mpr fun e he => ?_
    obtain ⟨p, hp, rfl⟩ := List.mem_map.mp he
    exact so_step (h.s p hp).1 (h.s p hp).2 hn
  · refine List.all_eq_true.mpr fun e he => ?_
    obtain ⟨p, hp, rfl⟩ := List.mem_map.mp he
    rfl
abbrev odds : List PyData := [.none, .tuple [], .tuple [.str "tap"], .tuple [.str "tap", .int 4], .tuple [.str "tap", .int 3], .tuple [.str "pace", .int 0], .tuple [.str "pace", .int 0, .int 4], .tuple [.str "pace", .int 0, .int 3], .list [], .str "tap", .int 5] ++
  [.tuple [.str "tap", .int 0, .int 0], .tuple [.str "tap", .bool true], .tuple [.tuple [.str "tap", .int 0]], .list [.str "tap", .int 0], .tuple [.str "undo", .int 0]]
theorem odd_ok : ∀ d ∈ odds, eoB d = true ∧ soB 1 d = true ∧ roB 1 d = true := by
  have h : odds.all (fun d => eoB d && (soB 1 d && roB 1 d)) = true := by decide +kernel
  intro d hd
  have q := List.all_eq_true.mp h d hd
  simp only [Bool.and_eq_true] at q
  exact q
theorem ro_up {k : Nat} {d : PyData} (h : roB k d = true) : roB (k + 1) d = true := by
  obtain ⟨a, b, c, e, f⟩ := ro_at h
  unfold roB
  rw [a, b, decide_eq_true c, decide_eq_true e]
  cases d with
  | tuple es =>
    obtain ⟨l, q⟩ := f es rfl
    simp only [Bool.true_and]
    rw [decide_eq_true (by omega), so_ups q]
    rfl
  | _ => rfl
theorem ro_up1 : ∀ {k : Nat} {d : PyData}, 1 ≤ k → roB 1 d = true → roB k d = true
  | k + 1, d, _, h => by
    cases k with
    | zero => exact h
    | succ k => exact ro_up (ro_up1 (Nat.succ_pos k) h)
theorem all_cut {α : Type} {p : α → Bool} {xs : List α} {i : Nat} (h : xs.all p = true) : (xs.take i).all p = true ∧ (xs.drop i).all p = true :=
  ⟨List.all_eq_true.mpr fun x hx => List.all_eq_true.mp h x (List.mem_of_mem_take hx), List.all_eq_true.mpr fun x hx => List.all_eq_true.mp h x (List.mem_of_mem_drop hx)⟩
theorem all_app {α : Type} {p : α → Bool} {xs ys : List α} (h : xs.all p = true) (h2 : ys.all p = true) : (xs ++ ys).all p = true := by
  rw [List.all_append, h, h2]
  rfl
theorem tells_ro {k : Nat} {d : PyData} (h : roB k d = true) : d.showable = true ∧ d.hasDict = false ∧ d.depth ≤ 8 ∧ d.shown.length ≤ sizeLine := by
  obtain ⟨a, b, c, e, _⟩ := ro_at h
  obtain ⟨s1, s2⟩ := fits_show (k := 40) (by decide) d b
  refine ⟨s1, s2, by omega, Nat.le_trans (room_ok (by decide) d b) (Nat.le_trans e ?_)⟩
  rw [sizeLine_eq]
  decide
theorem press_short (n : Nat) (e : PyData) : pressTh n (thD (.tuple [e])) = false := by
  refine press_no ?_
  rw [thD_tup]
  show pressA (.tup [thD e]) = false
  cases thD e <;> rfl
theorem press_first {n : Nat} {x : Th} {r : List Th} (h : ∀ s, x ≠ .str s) : pressTh n (.tup (x :: r)) = false := by
  refine press_no ?_
  cases x with
  | str s => exact absurd rfl (h s)
  | _ => rfl
theorem whole_range (n : Nat) (d : Th) : wholeTh 0 (((n : Nat) : Int) - 1) d = rangeTh n d := by
  cases d with
  | int i =>
    show (decide (0 ≤ i) && decide (i ≤ ((n : Nat) : Int) - 1)) = (decide (0 ≤ i) && decide (i < ((n : Nat) : Int)))
    rw [show decide (i ≤ ((n : Nat) : Int) - 1) = decide (i < ((n : Nat) : Int)) from by rw [decide_eq_decide]; omega]
  | _ => rfl
theorem po_pace {a t : PyData} {r : List PyData} (h : poB (.tuple (.str "pace" :: a :: t :: r)) = true) : ∃ i : Int, t = .int i ∧ (i = 1 ∨ i = 2 ∨ i = 3 ∨ i = 4) := by
  cases t with
  | int i =>
    have h : (!decide (("pace" : Str) = "pace") || (decide (1 ≤ i) && decide (i ≤ 4))) = true := h
    rw [decide_eq_true rfl] at h
    simp at h
    exact ⟨i, rfl, by omega⟩
  | none => exact absurd h (by show ¬ ((!decide (("pace" : Str) = "pace") || false) = true); decide +kernel)
  | bool b => exact absurd h (by show ¬ ((!decide (("pace" : Str) = "pace") || false) = true); decide +kernel)
  | str b => exact absurd h (by show ¬ ((!decide (("pace" : Str) = "pace") || false) = true); decide +kernel)
  | list b => exact absurd h (by show ¬ ((!decide (("pace" : Str) = "pace") || false) = true); decide +kernel)
  | tuple b => exact absurd h (by show ¬ ((!decide (("pace" : Str) = "pace") || false) = true); decide +kernel)
  | dict b => exact absurd h (by show ¬ ((!decide (("pace" : Str) = "pace") || false) = true); decide +kernel)
theorem beg_len {w s : Str} {n : Int} {r : List Th} (h : ((r.length : Nat) : Int) + 1 ≠ n) : begTh w n (.tup (.str s :: r)) = false := by
  show (decide (((r.length : Nat) : Int) + 1 = n) && decide (s = w)) = false
  rw [decide_eq_false h]
  rfl
theorem any_no {α : Type} {p : α → Bool} {xs : List α} (h : ∀ x ∈ xs, p x = false) : xs.any p = false := by
  rw [List.any_eq_false]
  intro x hx z
  rw [h x hx] at z
  cases z
theorem press_long {s : Str} {x y z : Th} {r : List Th} : pressA (.tup (.str s :: x :: y :: z :: r)) = false := by
  unfold pressA
  rw [beg_len (by simp; omega)]
  exact any_no fun w _ => beg_len (by simp; omega)
theorem press_other {s : Str} {x y : Th} {r : List Th} (h : ¬ s = "pace") : pressA (.tup (.str s :: x :: y :: r)) = false := by
  have e : begTh "pace" 3 (.tup (.str s :: x :: y :: r)) = false := by
    show (_ && decide (s = "pace")) = false
    rw [decide_eq_false h, Bool.and_false]
  unfold pressA
  rw [e]
  exact any_no fun w _ => beg_len (by simp; omega)
theorem press_two {s : Str} {x : Th} (h : ¬ s = "pace") : pressA (.tup [.str s, x]) = inV (.str s) [.str "tap", .str "stop", .str "clear", .str "undo", .str "redo", .str "join", .str "turn", .str "flip", .str "mute"] := by
  by_cases hm : s ∈ allW
  · simp only [List.mem_cons, List.not_mem_nil, or_false] at hm
    rcases hm with rfl | rfl | rfl | rfl | rfl | rfl | rfl | rfl | rfl <;> rfl
  · unfold pressA
    rw [beg_len (r := [x]) (by show ((1 : Nat) : Int) + 1 ≠ 3; decide)]
    have e1 : (allW.any fun w => begTh w 2 (.tup [.str s, x])) = false := any_no fun w hw => by
      show (decide (((1 : Nat) : Int) + 1 = 2) && decide (s = w)) = false
      have ne : ¬ s = w := fun z => hm (z ▸ hw)
      rw [decide_eq_false ne, Bool.and_false]
    have e2 : inV (.str s) (allW.map V.str) = false := by
      unfold inV
      refine any_no fun y hy => ?_
      obtain ⟨w, hw, rfl⟩ := List.mem_map.mp hy
      show (w == s) = false
      exact beq_eq_false_iff_ne.mpr fun z => hm (z ▸ hw)
    rw [e1]
    exact e2.symm
theorem row_non {n : Nat} {d : Th} (h : ∀ ds, d ≠ .tup ds) : rowF n d = some [] := by
  cases d with
  | tup ds => exact absurd rfl (h ds)
  | _ => rfl
theorem fx_step {α : Type} {p : α → Bool} {xs : List α} {j : Nat} {x : α} {W : List Nat} (h : W.head? = (xs.take j).findIdx? p) (hx : xs[j]? = some x) :
    (p x = true → (W ++ [j]).head? = (xs.take (j + 1)).findIdx? p) ∧ (p x = false → W.head? = (xs.take (j + 1)).findIdx? p) := by
  rw [fx_take p hx, ← h]
  cases W with
  | nil =>
    constructor
    · intro q
      rw [q]
      rfl
    · intro q
      rw [q]
      rfl
  | cons w r => exact ⟨fun _ => rfl, fun _ => rfl⟩
theorem step_some {s : PyData} (h : ∀ ps, s ≠ .tuple ps) : badStep (thD s) = true := by
  cases s with
  | tuple ps => exact absurd rfl (h ps)
  | _ => rfl
theorem step_tup (ps : List PyData) : badStep (thD (.tuple ps)) = decide (8 < ps.length) := by
  rw [thD_tup]
  show decide (8 < (ps.map thD).length) = _
  rw [List.length_map]
theorem rowF_map {n : Nat} {ds : List PyData} (h : ¬ 200 < ds.length) : rowF n (thD (.tuple ds)) = match ds.findIdx? fun s => badStep (thD s) with
    | some i => some [((i : Nat) : Int)]
    | none => match ds.findIdx? fun s => (firstOdd n (thD s)).isSome with
      | some i => some [((i : Nat) : Int), (((((ds[i]?).bind fun s => firstOdd n (thD s)).getD 0 : Nat)) : Int)]
      | none => none := by
  rw [thD_tup]
  unfold rowF
  dsimp only
  rw [List.length_map, if_neg h, List.findIdx?_map, List.findIdx?_map, show (badStep ∘ thD) = fun s => badStep (thD s) from rfl, show ((fun s => (firstOdd n s).isSome) ∘ thD) = fun s => (firstOdd n (thD s)).isSome from rfl]
  cases ds.findIdx? fun s => badStep (thD s) with
  | some i => rfl
  | none =>
    cases ds.findIdx? fun s => (firstOdd n (thD s)).isSome with
    | some i =>
      dsimp only
      rw [List.getElem?_map]
      cases ds[i]? <;> rfl
    | none => rfl
theorem odd_map (n : Nat) (ps : List PyData) : firstOdd n (thD (.tuple ps)) = ps.findIdx? fun e => !pressTh n (thD e) := by
  rw [thD_tup]
  show (ps.map thD).findIdx? _ = _
  rw [List.findIdx?_map]
  rfl
section
variable {K : PySem.W.Frag} {σ : L2.St} {t : TA} {ds : List PyData} {m q : Addr} {n i : Nat} {many : Int} {H : Hp} {Q : VK}
theorem pick_listQ (hm : σ[i]? = some (some (.ref m))) (h : MqL K H (offP H m q) t σ ds) (hz : ds.length ≤ 1000) (hl : many = ((ds.length : Nat) : Int)) (h1 : 1 ≤ ds.length) (M : MS H m n) (hn : n < 2 ^ 40)
    (k : ∀ x d H' n', d ∈ ds → Dq K H' (offP H' m q) x d → MS H' m n' → n' ≤ n + 1 → Ef m H H' → Q x H') : tOp (rIxL K) (tLst t) (tCall (sp__law_next K) [] E0 (tCons (tVar i) (tCons (tC (.int many)) tNil))) σ H Q := by
  refine h H _ (Same.refl H) fun vs G s R => ⟨by rw [R.len]; exact Nat.le_of_lt (small1000 hz), fun p hp => ?_⟩
  have y := same_upd hp (.lst vs)
  have M1 := M.same (s.trans y)
  have R1 : DqAll K (upd G p (.lst vs)) (offP (upd G p (.lst vs)) m q) vs ds := (R.sm y).re fun a _ _ z => offP_sm M z (s.trans y)
  refine ⟨_, hm, m, many, n, rfl, M1, by omega, by rw [hl]; exact Int.le_trans (Int.ofNat_le.mpr hz) (by decide), hn, fun r n' H2 r0 r1 hn' M2 e2 => ?_⟩
  obtain ⟨hp2, _⟩ := lst_ef (upd_same : upd G p (.lst vs) p = _) M1 (off_free M (s.trans y) (s.free hp)) e2
  obtain ⟨x, d, hx, hd, rx⟩ := pickQ (R1.ef M1 e2) r0 (by rw [← hl]; exact r1)
  exact ⟨p, vs, r, x, rfl, rfl, SqL.of hp2, hx, k x d H2 n' hd rx M2 hn' ((Ef.ofSame M (s.trans y)).trans e2)⟩
end
theorem fx_lt {α : Type} {p : α → Bool} {xs : List α} {i : Nat} (h : xs.findIdx? p = some i) : i < xs.length := by
  rcases Nat.lt_or_ge i xs.length with z | z
  · exact z
  · exfalso
    have q := List.findIdx?_eq_some_iff_getElem.mp h
    obtain ⟨l, _⟩ := q
    omega
theorem rowF_small {n k : Nat} {d : PyData} (h : roB k d = true) (h8 : k ≤ 4) {pl : List Int} (e : rowF n (thD d) = some pl) : pl.length ≤ 2 ∧ ∀ z ∈ pl, z.natAbs ≤ 1000 := by
  have non : (∀ ds, d ≠ .tuple ds) → rowF n (thD d) = some [] := fun q => row_non fun ds z => by
    cases d with
    | tuple es => exact q es rfl
    | _ => cases z
  obtain ⟨_, _, _, _, f⟩ := ro_at h
  cases d with
  | tuple ds =>
    obtain ⟨l, hs⟩ := f ds rfl
    rw [rowF_map (by omega)] at e
    cases e1 : ds.findIdx? fun s => badStep (thD s) with
    | some i =>
      rw [e1] at e
      cases e
      have q := fx_lt e1
      refine ⟨by show 1 ≤ 2; decide, fun z hz => ?_⟩
      rw [List.mem_singleton.mp hz]
      omega
    | none =>
      rw [e1] at e
      dsimp only at e
      cases e2 : ds.findIdx? fun s => (firstOdd n (thD s)).isSome with
      | none =>
        rw [e2] at e
        cases e
      | some i =>
        rw [e2] at e
        cases e
        have q := fx_lt e2
        refine ⟨Nat.le_refl _, fun z hz => ?_⟩
        rcases List.mem_cons.mp hz with rfl | hz
        · omega
        rw [List.mem_singleton.mp hz]
        have hsi : ds[i]? = some ds[i] := List.getElem?_eq_getElem q
        rw [hsi]
        show ((((firstOdd n (thD ds[i])).getD 0 : Nat)) : Int).natAbs ≤ 1000
        have so := List.all_eq_true.mp hs _ (List.getElem_mem q)
        cases ed : ds[i] with
        | tuple ps =>
          rw [ed] at so
          obtain ⟨_, _, _, _, g⟩ := so_at so
          obtain ⟨lp, _⟩ := g ps rfl
          rw [odd_map]
          cases e3 : ps.findIdx? fun e => !pressTh n (thD e) with
          | none => exact Nat.zero_le _
          | some j =>
            have q3 := fx_lt e3
            show ((j : Nat) : Int).natAbs ≤ 1000
            omega
        | _ => exact Nat.zero_le _
  | _ =>
    rw [non fun ds z => by cases z] at e
    cases e
    exact ⟨Nat.zero_le _, fun z hz => by cases hz⟩
theorem tells_fits {d : PyData} (b : fits 40 d = true) (c : d.depth ≤ 8) (e : room 40 d ≤ 16000000) : d.showable = true ∧ d.hasDict = false ∧ d.depth ≤ 8 ∧ d.shown.length ≤ sizeLine := by
  obtain ⟨s1, s2⟩ := fits_show (k := 40) (by decide) d b
  refine ⟨s1, s2, c, Nat.le_trans (room_ok (by decide) d b) (Nat.le_trans e ?_)⟩
  rw [sizeLine_eq]
  decide
theorem tells_out {n k : Nat} {d : PyData} (h : roB k d = true) (h8 : k ≤ 4) : (outD "row" d (rowF n (thD d))).showable = true ∧ (outD "row" d (rowF n (thD d))).hasDict = false ∧ (outD "row" d (rowF n (thD d))).depth ≤ 8 ∧ (outD "row" d (rowF n (thD d))).shown.length ≤ sizeLine := by
  obtain ⟨a, b, c, e, _⟩ := ro_at h
  cases eo : rowF n (thD d) with
  | none =>
    refine tells_fits ?_ ?_ ?_
    · show (fits 40 d && true) = true
      rw [b]
      rfl
    · show max d.depth 0 + 1 ≤ 8
      omega
    · show (room 40 d + 2 + 0) + 4 ≤ 16000000
      omega
  | some pl =>
    obtain ⟨l, q⟩ := rowF_small h h8 eo
    have hb : ∀ z ∈ pl, z.natAbs < 10 ^ 40 := fun z hz => Nat.lt_of_le_of_lt (q z hz) (by decide)
    refine tells_fits ?_ ?_ ?_
    · show (fits 40 (.str "row") && (fits.go 40 (pl.map PyData.int) && true)) = true
      rw [fits_ints hb, show fits 40 (.str "row") = true by decide +kernel]
      rfl
    · have z := depth_ints pl
      show max 0 (max (PyData.depthAll (pl.map PyData.int) + 1) 0) + 1 ≤ 8
      omega
    · have z := room_ints 40 pl
      show (1000 + 2 + ((room.go 40 (pl.map PyData.int) + 4) + 2 + 0)) + 4 ≤ 16000000
      omega
theorem rd_repB {K : PySem.W.Frag} {H : Hp} {v : V} {ds : List PyData} {n : Nat} {Q : VK} (h : Dp K H v (.tuple ds)) (hz : ds.length ≤ 1000) (h1 : n ≤ 1000)
    (k : ∀ w H', Same H H' → Dp K H' w (.tuple (List.replicate n ds).flatten) → Q w H') : rRepA K v (.int (n : Nat)) H Q := by
  obtain ⟨a, xs, rfl, hT, hX⟩ := Dp.tuple h
  have hl := hX.len
  refine ⟨a, _, xs, rfl, rfl, hT, by omega, by omega, by omega, fun e => ?_, fun _ p hp => ?_⟩
  · refine k _ H (Same.refl H) (.tup hT ?_)
    have q := flatD n hX
    rcases e with e | e
    · subst e
      cases hX
      have z : (List.replicate n ([] : List PyData)).flatten = [] := by simp
      rw [z]
      exact .nil
    · have n1 : n = 1 := by omega
      subst n1
      have z : (List.replicate 1 ds).flatten = ds := by simp
      rw [z]
      exact hX
  · rw [Int.toNat_natCast]
    have s := same_upd hp (.tup (List.replicate n xs).flatten)
    exact k _ _ s (.tup (SqT.of upd_same) (DpAll.same s _ _ (flatD n hX)))
abbrev tapS : PyData := .tuple [.tuple [.str "tap", .int 0]]
theorem many_taps (n : Nat) : rowF 1 (thD (.tuple (List.replicate n tapS))) = if n ≤ 200 then none else some [] := by
  rw [th_rep]
  by_cases h : n ≤ 200
  · rw [if_pos h]
    refine rowF0 (by rw [List.length_replicate]; omega) (fun j y hy => ?_) fun j y hy => ?_
    · rw [(List.mem_replicate.mp (List.mem_of_getElem? hy)).2]
      rfl
    · rw [(List.mem_replicate.mp (List.mem_of_getElem? hy)).2]
      rfl
  · rw [if_neg h]
    exact rowF6 (by rw [List.length_replicate]; omega)
theorem to_taps (n : Nat) : tupOnly (.tuple (List.replicate n tapS)) = true := to_rep rfl n
theorem lay_taps (n : Nat) : PyData.canLayAll0 (List.replicate n tapS) = true := lay_all fun d hd => by
  rw [(List.mem_replicate.mp hd).2]
  decide +kernel
theorem shaped_taps (n : Nat) : SeqAt.shaped (.list [.tuple (List.replicate n tapS)]) = true := by
  unfold SeqAt.shaped
  rw [Bool.and_eq_true]
  constructor
  · show (PyData.canLayAll0 (List.replicate n tapS) && true) = true
    rw [lay_taps]
    rfl
  · refine decide_eq_true ?_
    have q := depth_all (D := 2) (ds := List.replicate n tapS) fun d hd => by
      rw [(List.mem_replicate.mp hd).2]
      decide
    show max (PyData.depthAll (List.replicate n tapS) + 1) 0 + 1 ≤ 64
    omega
theorem eqv_taps (n : Nat) : PyData.eqv (.list [.tuple (List.replicate n tapS)]) (.list [.tuple (List.replicate n tapS)]) = true := by
  show (PyData.eqv (.tuple (List.replicate n tapS)) (.tuple (List.replicate n tapS)) && PyData.eqvAll [] []) = true
  rw [eqv_self _ (to_taps n)]
  rfl
/-! ### texts of rows -/
def sp_noneB : Sp := fun _ _ _ _ => False
def sp_press_text (K : PySem.W.Frag) : Sp := fun vs H Q _ => ∃ (v : V) (p : Pr), vs = [v] ∧ Dp K H v (prD p) ∧ p ∈ allPr 4 ∧ ∀ H', Same H H' → Q (.str (prT p)) H'
def sp_step_text (K : PySem.W.Frag) : Sp := fun vs H Q _ => ∃ (v : V) (st : List Pr), vs = [v] ∧ Dp K H v (stD st) ∧ st.length ≤ 8 ∧ (∀ p ∈ st, p ∈ allPr 4) ∧ ∀ H', Same H H' → Q (.str (stT st)) H'
def sp_row_text (K : PySem.W.Frag) : Sp := fun vs H Q _ => ∃ (v : V) (row : List (List Pr)), vs = [v] ∧ Dp K H v (dRow row) ∧ OkR 4 row ∧ ∀ H', Same H H' → Q (.str (rowT row)) H'
def sp__law_text_of (K : PySem.W.Frag) : Sp := sp_row_text K
def sp_row_textX (K : PySem.W.Frag) (C : Addr) : Sp := fun vs H Q E => ∃ v : V, vs = [v] ∧ ((∃ (d : Th) (pl : List Int), Rt K H v d ∧ rowF 4 d = some pl ∧ RaiseP K C H E pl) ∨
  ∃ (row : List (List Pr)), Dp K H v (dRow row) ∧ OkR 4 row ∧ ∀ H', Same H H' → Q (.str (rowT row)) H')
def sp_every_press (K : PySem.W.Frag) : Sp := fun vs H Q _ => ∃ (i : Nat), vs = [.int (i : Nat)] ∧ i ≤ 4 ∧ ∀ (D : Addr) (xs : List V) H', Same H H' → H' D = some (.lst xs) → DpAll K H' xs ((allPr i).map prD) → Q (.ref D) H'
def TabP (K : PySem.W.Frag) (H : Hp) (kvs : List (Key × V)) : Prop := ∀ p ∈ allPr 4, ∃ v, valV kvs (.inr (prT p)) = some v ∧ Dp K H v (prD p)
def sp_read_step (K : PySem.W.Frag) : Sp := fun vs H Q _ => ∃ (n : Int) (D : Addr) (kvs : List (Key × V)) (st : List Pr), vs = [.int n, .str (stT st), .ref D] ∧ H D = some (.dK kvs) ∧ TabP K H kvs ∧ st.length ≤ 8 ∧ (∀ p ∈ st, p ∈ allPr 4) ∧ ∀ w H', Same H H' → Dp K H' w (stD st) → Q w H'
def sp_read_row (K : PySem.W.Frag) : Sp := fun vs H Q _ => ∃ row : List (List Pr), vs = [.str (rowT row)] ∧ OkR 4 row ∧ ∀ w H', Same H H' → Dp K H' w (dRow row) → Q w H'
def prXs : Pr → List V
  | .d w a => [.str w.s, .int (a : Nat)]
  | .p a n => [.str "pace", .int (a : Nat), .int n]
theorem pr_xs {K : PySem.W.Frag} {H : Hp} {v : V} {p : Pr} (h : Dp K H v (prD p)) : ∃ b, v = .ref b ∧ SqT K H b (prXs p) := by
  cases p with
  | d w a =>
    obtain ⟨b, xs, rfl, hT, hX⟩ := h.tuple
    cases hX with
    | cons h1 r =>
      cases h1
      cases r with
      | cons h2 r =>
        cases h2
        cases r
        exact ⟨b, rfl, hT⟩
  | p a n =>
    obtain ⟨b, xs, rfl, hT, hX⟩ := h.tuple
    cases hX with
    | cons h1 r =>
      cases h1
      cases r with
      | cons h2 r =>
        cases h2
        cases r with
        | cons h3 r =>
          cases h3
          cases r
          exact ⟨b, rfl, hT⟩
theorem log_small {i : Int} (h : i.natAbs ≤ 1000) : i.natAbs.log2 < 1920 := Nat.lt_of_le_of_lt (Nat.log2_le_self _) (by omega)
theorem xs_parts {p : Pr} (ok : p ∈ allPr 4) : ∀ {l : Nat} {x : V}, (prXs p)[l]? = some x → ∃ t, (prParts p)[l]? = some t ∧ ((∃ a, x = .str a ∧ t = a) ∨ ∃ i : Int, x = .int i ∧ i.natAbs.log2 < 1920 ∧ t = toString i) := by
  have o := all_ok ok
  intro l x h
  cases p with
  | d w a =>
    have ha : a < 4 := o.at_
    match l, h with
    | 0, h => cases h; exact ⟨_, rfl, .inl ⟨_, rfl, rfl⟩⟩
    | 1, h => cases h; exact ⟨_, rfl, .inr ⟨_, rfl, log_small (by omega), rfl⟩⟩
  | p a n =>
    have ha : a < 4 := o.at_
    have hn := o.pc a n rfl
    match l, h with
    | 0, h => cases h; exact ⟨_, rfl, .inl ⟨_, rfl, rfl⟩⟩
    | 1, h => cases h; exact ⟨_, rfl, .inr ⟨_, rfl, log_small (by omega), rfl⟩⟩
    | 2, h => cases h; exact ⟨_, rfl, .inr ⟨_, rfl, log_small (by omega), rfl⟩⟩
theorem parts_len : ∀ p ∈ allPr 4, (prParts p).length ≤ 3 ∧ (prXs p).length = (prParts p).length ∧ ((prParts p).map (·.length)).sum ≤ 1000 := by
  have h : ((allPr 4).all fun p => decide ((prParts p).length ≤ 3) && (decide ((prXs p).length = (prParts p).length) && decide (((prParts p).map (·.length)).sum ≤ 1000))) = true := by decide +kernel
  intro p hp
  have q := List.all_eq_true.mp h p hp
  simp only [Bool.and_eq_true, decide_eq_true_eq] at q
  exact q
theorem sum_le {xs : List Str} {c : Nat} (h : ∀ x ∈ xs, x.length ≤ c) : (xs.map (·.length)).sum ≤ c * xs.length := by
  induction xs with
  | nil => exact Nat.zero_le _
  | cons x r ih =>
    have a := h x List.mem_cons_self
    have b := ih fun y hy => h y (List.mem_cons_of_mem _ hy)
    show x.length + (r.map (·.length)).sum ≤ c * (r.length + 1)
    rw [Nat.mul_succ]
    omega
theorem st_sum {st : List Pr} (l8 : st.length ≤ 8) (ok : ∀ p ∈ st, p ∈ allPr 4) : ((st.map prT).map (·.length)).sum ≤ 100 := by
  have q := sum_le (xs := st.map prT) (c := 10) fun x hx => by
    obtain ⟨p, hp, rfl⟩ := List.mem_map.mp hx
    rw [TL.len_tl]
    exact (pr_free p (ok p hp)).2.2.1
  rw [List.length_map] at q
  omega
theorem row_sum {row : List (List Pr)} (ok : OkR 4 row) : ((row.map stT).map (·.length)).sum ≤ 20000 := by
  have q := sum_le (xs := row.map stT) (c := 97) fun x hx => by
    obtain ⟨st, hs, rfl⟩ := List.mem_map.mp hx
    have a := st_len (row_pr ok (by decide) st hs)
    have b := (ok.s st hs).1
    rw [TL.len_tl]
    omega
  have := ok.l
  rw [List.length_map] at q
  omega
theorem take_str {ts : List Str} {l : Nat} {t : Str} (h : ts[l]? = some t) : (ts.take (l + 1)).map V.str = (ts.take l).map V.str ++ [V.str t] := by
  rw [List.take_succ, h, List.map_append]
  rfl
theorem flat_len (i : Nat) : ∀ ds : List Dd, ((ds.map fun d => (List.range i).map fun j => Pr.d d j).flatten).length = ds.length * i
  | [] => (Nat.zero_mul i).symm
  | d :: r => by
    rw [List.map_cons, List.flatten_cons, List.length_append, flat_len i r, List.length_map, List.length_range, List.length_cons, Nat.succ_mul, Nat.add_comm]
theorem flat_len3 : ∀ js : List Nat, ((js.map fun j => [(1 : Int), 2, 4].map fun n => Pr.p j n).flatten).length = js.length * 3
  | [] => rfl
  | d :: r => by
    rw [List.map_cons, List.flatten_cons, List.length_append, flat_len3 r, List.length_map, List.length_cons]
    show 3 + r.length * 3 = (r.length + 1) * 3
    omega
theorem prs_more {K : PySem.W.Frag} {H : Hp} {D q : Addr} {ys zs : List V} {ps : List Pr} {p : Pr} {o : HO} (hA : H D = some (.lst ys)) (hq : H q = none) (hY : DpAll K H ys (ps.map prD)) (hp : Dp K (upd H q o) (.ref q) (prD p)) :
    DpAll K (upd (upd H q o) D (.lst zs)) (ys ++ [.ref q]) ((ps ++ [p]).map prD) := by
  have n2 := same_upd hq o
  rw [List.map_append]
  have q2 := DpAll.app (DpAll.same n2 _ _ hY) (.cons hp .nil)
  have q3 := to_prs (ps ++ [p])
  rw [List.map_append] at q3
  exact DpAll.keepT (tk_upd (n2 _ _ hA)) _ _ q3 q2
theorem ints3 {K : PySem.W.Frag} {H : Hp} {v : V} (h : Dp K H v (.tuple [.int 1, .int 2, .int 4])) : ∃ b, v = .ref b ∧ SqT K H b ([1, 2, 4].map V.int) := by
  obtain ⟨b, xs, rfl, hT, hX⟩ := h.tuple
  cases hX with
  | cons h1 r =>
    cases h1
    cases r with
    | cons h2 r =>
      cases h2
      cases r with
      | cons h3 r =>
        cases h3
        cases r
        exact ⟨b, rfl, hT⟩
theorem th_str {x : PyData} {s : Str} (h : thD x = .str s) : x = .str s := by cases x <;> cases h; rfl
theorem th_int {x : PyData} {s : Int} (h : thD x = .int s) : x = .int s := by cases x <;> cases h; rfl
theorem th_tup {x : PyData} {ts : List Th} (h : thD x = .tup ts) : ∃ es, x = .tuple es ∧ es.map thD = ts := by
  cases x with
  | tuple es =>
    rw [thD_tup] at h
    cases h
    exact ⟨es, rfl, rfl⟩
  | _ => cases h
theorem range_is {n : Nat} {x : Th} (h : rangeTh n x = true) : ∃ a : Nat, x = .int (a : Nat) ∧ a < n := by
  cases x with
  | int i =>
    have h : (decide (0 ≤ i) && decide (i < n)) = true := h
    simp only [Bool.and_eq_true, decide_eq_true_eq] at h
    exact ⟨i.toNat, by rw [Int.toNat_of_nonneg h.1], by omega⟩
  | _ => cases h
theorem press_back {e : PyData} {n : Nat} (h : pressTh n (thD e) = true) : ∃ p, e = prD p ∧ OkP p n := by
  unfold pressTh at h
  rw [Bool.and_eq_true] at h
  obtain ⟨h1, h2⟩ := h
  cases hb : begTh "pace" 3 (thD e) with
  | true =>
    rw [hb] at h1
    obtain ⟨r, er, lr⟩ := begTh_yes hb
    obtain ⟨es, rfl, ets⟩ := th_tup er
    rw [er] at h1 h2
    match r, lr with
    | [x, y], _ =>
      obtain ⟨a, rfl, ha⟩ := range_is (show rangeTh n x = true from h2)
      have h1 : oneTh [1, 2, 4] y = true := h1
      have le : es.length = 3 := by
        rw [← List.length_map (f := thD), ets]
        rfl
      match es, le, ets with
      | [e1, e2, e3], _, z =>
        simp only [List.map_cons, List.map_nil, List.cons.injEq, and_true] at z
        obtain ⟨z1, z2, z3⟩ := z
        cases y with
        | int i =>
          have hi : i ∈ [(1 : Int), 2, 4] := of_decide_eq_true h1
          rw [th_str z1, th_int z2, th_int z3]
          refine ⟨.p a i, rfl, ha, fun a n e => ?_⟩
          cases e
          simpa using hi
        | _ => cases h1
  | false =>
    rw [hb] at h1
    obtain ⟨w, hw, hb2⟩ := List.any_eq_true.mp (show (allW.any fun w => begTh w 2 (thD e)) = true from h1)
    obtain ⟨r, er, lr⟩ := begTh_yes hb2
    obtain ⟨es, rfl, ets⟩ := th_tup er
    rw [er] at h2
    match r, lr with
    | [x], _ =>
      obtain ⟨a, rfl, ha⟩ := range_is (show rangeTh n x = true from h2)
      have le : es.length = 2 := by
        rw [← List.length_map (f := thD), ets]
        rfl
      match es, le, ets with
      | [e1, e2], _, z =>
        simp only [List.map_cons, List.map_nil, List.cons.injEq, and_true] at z
        obtain ⟨z1, z2⟩ := z
        rw [th_str z1, th_int z2]
        have hd : ∃ d : Dd, w = d.s := by
          have q : allW = allD.map Dd.s := rfl
          rw [q] at hw
          obtain ⟨d, _, rfl⟩ := List.mem_map.mp hw
          exact ⟨d, rfl⟩
        obtain ⟨d, rfl⟩ := hd
        exact ⟨.d d a, rfl, ha, fun a n e => by cases e⟩
theorem back_all {α β : Type} {f : β → α} {P : β → Prop} : ∀ {xs : List α}, (∀ x ∈ xs, ∃ y, x = f y ∧ P y) → ∃ ys : List β, xs = ys.map f ∧ ∀ y ∈ ys, P y
  | [], _ => ⟨[], rfl, fun y h => by cases h⟩
  | x :: r, h => by
    obtain ⟨y, e, p⟩ := h x List.mem_cons_self
    obtain ⟨ys, e2, p2⟩ := back_all fun z hz => h z (List.mem_cons_of_mem _ hz)
    refine ⟨y :: ys, by rw [e, e2]; rfl, fun z hz => ?_⟩
    rcases List.mem_cons.mp hz with rfl | hz
    · exact p
    · exact p2 z hz
theorem row_back {d : PyData} {n : Nat} (h : rowF n (thD d) = none) : ∃ row, d = dRow row ∧ OkR n row := by
  cases d with
  | tuple ds =>
    rw [thD_tup] at h
    unfold rowF at h
    dsimp only at h
    by_cases l : 200 < (ds.map thD).length
    · rw [if_pos l] at h
      cases h
    rw [if_neg l] at h
    rw [List.length_map] at l
    cases e1 : (ds.map thD).findIdx? badStep with
    | some i =>
      rw [e1] at h
      cases h
    | none =>
      rw [e1] at h
      dsimp only at h
      cases e2 : (ds.map thD).findIdx? fun s => (firstOdd n s).isSome with
      | some i =>
        rw [e2] at h
        cases h
      | none =>
        rw [List.findIdx?_eq_none_iff] at e1 e2
        have q : ∀ s ∈ ds, ∃ st : List Pr, s = stD st ∧ (st.length ≤ 8 ∧ ∀ p ∈ st, OkP p n) := fun s hs => by
          have b := e1 _ (List.mem_map.mpr ⟨s, hs, rfl⟩)
          have o := e2 _ (List.mem_map.mpr ⟨s, hs, rfl⟩)
          cases s with
          | tuple es =>
            rw [thD_tup] at b o
            have l8 : ¬ 8 < (es.map thD).length := of_decide_eq_false b
            rw [List.length_map] at l8
            have o2 : (es.map thD).findIdx? (fun p => !pressTh n p) = none := by
              cases z : (es.map thD).findIdx? (fun p => !pressTh n p) with
              | none => rfl
              | some j =>
                have o : ((es.map thD).findIdx? (fun p => !pressTh n p)).isSome = false := o
                rw [z] at o
                cases o
            rw [List.findIdx?_eq_none_iff] at o2
            obtain ⟨st, est, hst⟩ := back_all (f := prD) (P := fun p => OkP p n) (xs := es) fun x hx => by
              have z := o2 _ (List.mem_map.mpr ⟨x, hx, rfl⟩)
              rw [Bool.not_eq_false'] at z
              exact press_back z
            subst est
            rw [List.length_map] at l8
            exact ⟨st, rfl, by omega, hst⟩
          | _ => cases b
        obtain ⟨row, er, hr⟩ := back_all (f := stD) (P := fun st => st.length ≤ 8 ∧ ∀ p ∈ st, OkP p n) q
        subst er
        rw [List.length_map] at l
        exact ⟨row, rfl, by omega, hr⟩
  | _ => cases h
theorem prs_put {K : PySem.W.Frag} {H : Hp} {D : Addr} {ys zs : List V} {v : V} {ds : List PyData} {d : PyData} (t : tupOnly.go (ds ++ [d]) = true) (hA : H D = some (.lst ys)) (hY : DpAll K H ys ds) (hp : Dp K H v d) : DpAll K (upd H D (.lst zs)) (ys ++ [v]) (ds ++ [d]) :=
  DpAll.keepT (tk_upd hA) _ _ t (DpAll.app hY (.cons hp .nil))
theorem TabP.same {K : PySem.W.Frag} {H H' : Hp} {kvs : List (Key × V)} (t : TabP K H kvs) (s : Same H H') : TabP K H' kvs := fun p hp => by
  obtain ⟨v, e, d⟩ := t p hp
  exact ⟨v, e, d.same_at s⟩
theorem tab_put {K : PySem.W.Frag} {H : Hp} {D : Addr} {ys zs : List V} {kvs : List (Key × V)} (t : TabP K H kvs) (hA : H D = some (.lst ys)) : TabP K (upd H D (.lst zs)) kvs := fun p hp => by
  obtain ⟨v, e, d⟩ := t p hp
  exact ⟨v, e, Dp.keepT (tk_upd hA) _ _ (by have z := to_prs [p]; exact (Bool.and_eq_true_iff.mp z).1) d⟩
theorem to_pr (p : Pr) : tupOnly (prD p) = true := by
  cases p <;> rfl
theorem joinL_mem {S : List Nat} {c : Nat} : ∀ {ps : List (List Nat)}, c ∈ TL.joinL S ps → c ∈ S ∨ ∃ p ∈ ps, c ∈ p
  | [], h => by cases h
  | [p], h => .inr ⟨p, List.mem_cons_self, h⟩
  | p :: q :: r, h => by
    unfold TL.joinL at h
    simp only [List.mem_append] at h
    rcases h with z | z | z
    · exact .inr ⟨p, List.mem_cons_self, z⟩
    · exact .inl z
    · rcases joinL_mem z with y | ⟨x, hx, hc⟩
      · exact .inl y
      · exact .inr ⟨x, List.mem_cons_of_mem _ hx, hc⟩
theorem pr_small : ∀ p ∈ allPr 4, ∀ c ∈ TL.tl (prT p), c < 256 := by
  have h : ((allPr 4).all fun p => (TL.tl (prT p)).all fun c => decide (c < 256)) = true := by decide +kernel
  intro p hp c hc
  exact of_decide_eq_true (List.all_eq_true.mp (List.all_eq_true.mp h p hp) c hc)
theorem st_small {st : List Pr} (ok : ∀ p ∈ st, p ∈ allPr 4) : ∀ c ∈ TL.tl (stT st), c < 256 := fun c hc => by
  by_cases he : st = []
  · subst he
    have e : TL.tl (stT []) = [45] := by decide +kernel
    rw [e] at hc
    rw [List.mem_singleton.mp hc]
    decide
  · rw [tl_st he] at hc
    rcases joinL_mem hc with z | ⟨x, hx, z⟩
    · simp only [List.mem_cons, List.not_mem_nil, or_false] at z
      rcases z with rfl | rfl <;> decide
    · obtain ⟨y, hy, rfl⟩ := List.mem_map.mp hx
      obtain ⟨p, hp, rfl⟩ := List.mem_map.mp hy
      exact pr_small p (ok p hp) c z
theorem row_small {row : List (List Pr)} (ok : OkR 4 row) : ∀ c ∈ TL.tl (rowT row), c < 256 := fun c hc => by
  have e : TL.tl (rowT row) = TL.joinL [10] ((row.map stT).map TL.tl) := by
    unfold rowT
    rw [TL.join_eq, TL.tl_join, feed]
  rw [e] at hc
  rcases joinL_mem hc with z | ⟨x, hx, z⟩
  · rw [List.mem_singleton.mp z]
    decide
  · obtain ⟨y, hy, rfl⟩ := List.mem_map.mp hx
    obtain ⟨st, hst, rfl⟩ := List.mem_map.mp hy
    exact st_small (row_pr ok (by decide) st hst) c z
theorem tells_text {row : List (List Pr)} (ok : OkR 4 row) : (PyData.str (rowT row)).showable = true ∧ (PyData.str (rowT row)).hasDict = false ∧ (PyData.str (rowT row)).depth ≤ 8 ∧ (PyData.str (rowT row)).shown.length ≤ sizeLine := by
  refine ⟨rfl, rfl, Nat.zero_le _, ?_⟩
  have a := PySem.StrLaws.reprText_len (rowT row) fun c hc => Nat.lt_trans (row_small ok c hc) (by decide)
  have b := (row_len ok (by decide)).1
  rw [← TL.len_tl] at b
  show (reprText (rowT row)).length ≤ sizeLine
  rw [sizeLine_eq]
  omega
theorem lay_text {row : List (List Pr)} (ok : OkR 4 row) : (PyData.str (rowT row)).canLay0 = true := by
  show (rowT row).cps.all (fun c => decide (c < 0x110000)) = true
  rw [← Array.all_toList]
  exact List.all_eq_true.mpr fun c hc => decide_eq_true (Nat.lt_trans (row_small ok c hc) (by decide))
theorem shaped_text {row : List (List Pr)} (ok : OkR 4 row) : SeqAt.shaped (.list [.str (rowT row)]) = true := by
  unfold SeqAt.shaped
  rw [Bool.and_eq_true]
  refine ⟨?_, decide_eq_true (by show max 0 0 + 1 ≤ 64; decide)⟩
  show ((PyData.str (rowT row)).canLay0 && true) = true
  rw [lay_text ok]
  rfl
theorem shaped_one {k : Nat} {d : PyData} (h : roB k d = true) : SeqAt.shaped (.list [d]) = true := by
  obtain ⟨a, b, c, e, _⟩ := ro_at h
  unfold SeqAt.shaped
  rw [Bool.and_eq_true]
  refine ⟨?_, decide_eq_true (by show max d.depth 0 + 1 ≤ 64; omega)⟩
  show (d.canLay0 && true) = true
  rw [a]
  rfl
theorem eqv_l1 {d : PyData} (t : tupOnly d = true) : PyData.eqv (.list [d]) (.list [d]) = true := by
  rw [PyData.eqv, PyData.eqvAll, eqv_self d t, PyData.eqvAll]
  rfl
theorem eqv_mix (xs ys : List PyData) : PyData.eqv (.tuple xs) (.list ys) = false := by rw [PyData.eqv]
theorem okr_up {i : Nat} {row : List (List Pr)} (h : OkR i row) (hi : i ≤ 4) : OkR 4 row := ⟨h.l, fun st hs => ⟨(h.s st hs).1, fun p hp => ⟨Nat.lt_of_lt_of_le ((h.s st hs).2 p hp).at_ hi, ((h.s st hs).2 p hp).pc⟩⟩⟩
abbrev manyR (N : Nat) : List (List Pr) := List.replicate N [.p 3 4, .d .tap 0]
theorem many_row (N : Nat) : (PyData.tuple (List.replicate N (stD [.p 3 4, .d .tap 0]))) = dRow (manyR N) := by
  show _ = PyData.tuple ((List.replicate N [Pr.p 3 4, Pr.d .tap 0]).map stD)
  rw [List.map_replicate]
theorem okr_many {N : Nat} (h : N ≤ 200) : OkR 4 (manyR N) := ⟨by rw [List.length_replicate]; exact h, fun st hs => by
  rw [(List.mem_replicate.mp hs).2]
  refine ⟨by decide, fun p hp => ?_⟩
  simp only [List.mem_cons, List.not_mem_nil, or_false] at hp
  rcases hp with rfl | rfl
  · exact ⟨by decide, fun a n e => by cases e; exact .inr (.inr rfl)⟩
  · exact ⟨by decide, fun a n e => by cases e⟩⟩
theorem rowT_0 : rowT [] = "" := by decide +kernel
theorem rowT_1 : rowT [[]] = "-" := by decide +kernel
theorem rowT_2 : rowT [[], []] = "-\n-" := by decide +kernel
theorem okr_e (n : Nat) (h : n ≤ 200) : OkR 4 (List.replicate n []) := ⟨by rw [List.length_replicate]; exact h, fun st hs => by
  rw [(List.mem_replicate.mp hs).2]
  exact ⟨Nat.zero_le _, fun p hp => by cases hp⟩⟩
theorem bl_true {x y : V} (h : x = y) : V.bl (decide (x = y)) = V.bl true := by rw [decide_eq_true h]
/-! ### any texts -/
def TabQ (K : PySem.W.Frag) (H : Hp) (kvs : List (Key × V)) : Prop := ∀ s, match findP s with
  | some p => ∃ v, valV kvs (.inr s) = some v ∧ Dp K H v (prD p)
  | none => valV kvs (.inr s) = none
def sp_read_stepX (K : PySem.W.Frag) (C : Addr) : Sp := fun vs H Q E => ∃ (n : Nat) (line : Str) (D : Addr) (kvs : List (Key × V)), vs = [.int (n : Nat), .str line, .ref D] ∧ H D = some (.dK kvs) ∧ TabQ K H kvs ∧ line.length ≤ 100000 ∧
  (∀ st, lineF line = .inr st → ∀ w H', Same H H' → Dp K H' w (stD st) → Q w H') ∧ ∀ e, lineF line = .inl e → RaiseT C H E n e
def shortTh : Th → Prop
  | .str s => s.length ≤ 100000
  | _ => True
def sp_read_rowX (K : PySem.W.Frag) (C : Addr) : Sp := fun vs H Q E => ∃ (v : V) (d : Th), vs = [v] ∧ Rt K H v d ∧ shortTh d ∧
  (∀ row, thF d = .inr row → ∀ w H', Same H H' → Dp K H' w (dRow row) → Q w H') ∧ ∀ e, thF d = .inl e → RaiseT C H E e.1 e.2
def pressL : Option Pr → PyData
  | none => .list []
  | some p => .list [prD p]
def sp__law_press_in (K : PySem.W.Frag) : Sp := fun vs H Q _ => ∃ s : Str, vs = [.str s] ∧ ∀ (p : Addr) (xs : List V) H', Same H H' → H' p = some (.lst xs) → (match findP s with
  | none => xs = []
  | some q => ∃ v, xs = [v] ∧ Dp K H' v (prD q)) → Q (.ref p) H'
def sp__law_text_due (K : PySem.W.Frag) : Sp := fun vs H Q _ => ∃ (v : V) (d : Th), vs = [v] ∧ Rt K H v d ∧ shortTh d ∧ ∀ w H', Same H H' → Dp K H' w (outT (thF d)) → Q w H'
def sp__law_bent_text (K : PySem.W.Frag) : Sp := fun vs H Q _ => ∃ (m : Addr) (s : Str) (n : Nat), vs = [.ref m, .str s] ∧ MS H m n ∧ s.length ≤ 40000 ∧ n + 20 ≤ 2 ^ 40 ∧
  ∀ (s2 : Str) (n' : Nat) H', s2.length ≤ 2 * s.length + 300 → n' ≤ n + 10 → MS H' m n' → Ef m H H' → Q (.str s2) H'
theorem TabQ.same {K : PySem.W.Frag} {H H' : Hp} {kvs : List (Key × V)} (t : TabQ K H kvs) (s : Same H H') : TabQ K H' kvs := fun x => by
  have q := t x
  cases e : findP x with
  | none =>
    rw [e] at q
    exact q
  | some p =>
    rw [e] at q
    obtain ⟨v, a, d⟩ := q
    exact ⟨v, a, d.same_at s⟩
theorem tabq_put {K : PySem.W.Frag} {H : Hp} {D : Addr} {ys zs : List V} {kvs : List (Key × V)} (t : TabQ K H kvs) (hA : H D = some (.lst ys)) : TabQ K (upd H D (.lst zs)) kvs := fun x => by
  have q := t x
  cases e : findP x with
  | none =>
    rw [e] at q
    exact q
  | some p =>
    rw [e] at q
    obtain ⟨v, a, d⟩ := q
    exact ⟨v, a, Dp.keepT (tk_upd hA) _ _ (to_pr p) d⟩
theorem len_mem {ps : List Str} {t : Str} (h : t ∈ ps) : t.length ≤ (ps.map (·.length)).sum := by
  induction ps with
  | nil => cases h
  | cons p r ih =>
    rw [List.map_cons, List.sum_cons]
    rcases List.mem_cons.mp h with rfl | h
    · omega
    · have := ih h
      omega
abbrev dgs : List Str := ["0", "1", "2", "3"]
abbrev sps : List Str := ["1", "2", "4"]
theorem dg_at {j : Nat} {t : Str} (h : dgs[j]? = some t) : j < 4 ∧ t.length = 1 ∧ intText? t = some ((j : Nat) : Int) ∧ (∀ d : Dd, d.s.length ≤ 5 ∧ d.s ++ " " ++ t = prT (.d d j)) ∧ ∀ (i : Nat) (u : Str), sps[i]? = some u → ∃ n : Int, [(1 : Int), 2, 4][i]? = some n ∧ u.length = 1 ∧ intText? u = some n ∧ "pace " ++ t ++ " " ++ u = prT (.p j n) := by
  have fin : ∀ j < 4, (∀ d : Dd, d.s.length ≤ 5 ∧ d.s ++ " " ++ dgs.getD j "" = prT (.d d j)) ∧ (dgs.getD j "").length = 1 ∧ intText? (dgs.getD j "") = some ((j : Nat) : Int) ∧ ("pace " ++ dgs.getD j "" ++ " " ++ "1" = prT (.p j 1) ∧ "pace " ++ dgs.getD j "" ++ " " ++ "2" = prT (.p j 2) ∧ "pace " ++ dgs.getD j "" ++ " " ++ "4" = prT (.p j 4)) := by
    intro j hj
    refine ⟨fun d => ?_, ?_⟩
    · match j, hj with
      | 0, _ => cases d <;> exact ⟨by decide +kernel, by decide +kernel⟩
      | 1, _ => cases d <;> exact ⟨by decide +kernel, by decide +kernel⟩
      | 2, _ => cases d <;> exact ⟨by decide +kernel, by decide +kernel⟩
      | 3, _ => cases d <;> exact ⟨by decide +kernel, by decide +kernel⟩
    · match j, hj with
      | 0, _ => exact ⟨by decide +kernel, by decide +kernel, by decide +kernel, by decide +kernel, by decide +kernel⟩
      | 1, _ => exact ⟨by decide +kernel, by decide +kernel, by decide +kernel, by decide +kernel, by decide +kernel⟩
      | 2, _ => exact ⟨by decide +kernel, by decide +kernel, by decide +kernel, by decide +kernel, by decide +kernel⟩
      | 3, _ => exact ⟨by decide +kernel, by decide +kernel, by decide +kernel, by decide +kernel, by decide +kernel⟩
  have hj : j < 4 := by
    obtain ⟨l, _⟩ := List.getElem?_eq_some_iff.mp h
    exact l
  have et : t = dgs.getD j "" := by
    rw [List.getD_eq_getElem?_getD, h]
    rfl
  obtain ⟨a, b, c, d1, d2, d4⟩ := fin j hj
  rw [← et] at a b c d1 d2 d4
  refine ⟨hj, b, c, a, fun i u hu => ?_⟩
  match i, hu with
  | 0, hu => cases hu; exact ⟨1, rfl, by decide +kernel, by decide +kernel, d1⟩
  | 1, hu => cases hu; exact ⟨2, rfl, by decide +kernel, by decide +kernel, d2⟩
  | 2, hu => cases hu; exact ⟨4, rfl, by decide +kernel, by decide +kernel, d4⟩
theorem shaped_pr {q : Pr} (h : q ∈ allPr 4) : SeqAt.shaped (.list [prD q]) = true := by
  obtain ⟨_, a, _, c, _⟩ := eo_at (eo_pr (all_ok h) (by decide))
  unfold SeqAt.shaped
  rw [Bool.and_eq_true]
  refine ⟨?_, decide_eq_true (by show max (prD q).depth 0 + 1 ≤ 64; omega)⟩
  show ((prD q).canLay0 && true) = true
  rw [a]
  rfl
theorem eqv_e1 (d : PyData) : PyData.eqv (.list [d]) (.list []) = false := by rw [PyData.eqv, PyData.eqvAll]
theorem eqv_e0 : PyData.eqv (.list []) (.list []) = true := by rw [PyData.eqv, PyData.eqvAll]
/-! ### lists of texts, cut -/
theorem cutL_to (ls : List Str) {r : Int} (h : 0 ≤ r) : cutV (ls.map V.str) none (some r) = (ls.take r.toNat).map V.str := by
  have e : HT.sIx (ls.map V.str).length (ls.map V.str).length (some r) = min r.toNat (ls.map V.str).length := if_neg (by omega)
  unfold cutV
  rw [e]
  show ((ls.map V.str).drop 0).take (min r.toNat (ls.map V.str).length - 0) = _
  rw [List.drop_zero, Nat.sub_zero, List.length_map, List.map_take]
  by_cases z : r.toNat ≤ ls.length
  · rw [Nat.min_eq_left z]
  · rw [Nat.min_eq_right (by omega), List.take_of_length_le (by rw [List.length_map]; omega), List.take_of_length_le (by rw [List.length_map]; omega)]
theorem cutL_from (ls : List Str) {r : Int} (h : 0 ≤ r) : cutV (ls.map V.str) (some r) none = (ls.drop r.toNat).map V.str := by
  have e : HT.sIx (ls.map V.str).length 0 (some r) = min r.toNat (ls.map V.str).length := if_neg (by omega)
  unfold cutV
  rw [e]
  show ((ls.map V.str).drop (min r.toNat (ls.map V.str).length)).take ((ls.map V.str).length - min r.toNat (ls.map V.str).length) = _
  rw [List.take_of_length_le (by rw [List.length_drop]; omega), List.length_map, List.map_drop]
  by_cases z : r.toNat ≤ ls.length
  · rw [Nat.min_eq_left z]
  · rw [Nat.min_eq_right (by omega), List.drop_of_length_le (by rw [List.length_map]; omega), List.drop_of_length_le (by rw [List.length_map]; omega)]
abbrev lsum (ls : List Str) : Nat := (ls.map (·.length)).sum
theorem lsum_app (xs ys : List Str) : lsum (xs ++ ys) = lsum xs + lsum ys := by
  show ((xs ++ ys).map (·.length)).sum = _
  rw [List.map_append, List.sum_append]
theorem lsum_take (ls : List Str) (a : Nat) : lsum (ls.take a) + lsum (ls.drop a) = lsum ls := by
  rw [← lsum_app, List.take_append_drop]
theorem lsum_drop (ls : List Str) {a b : Nat} (h : a ≤ b) : lsum (ls.drop b) ≤ lsum (ls.drop a) := by
  have e : ls.drop b = (ls.drop a).drop (b - a) := by
    rw [List.drop_drop]
    congr 1
    omega
  rw [e]
  have q := lsum_take (ls.drop a) (b - a)
  omega
theorem len_cutS (z : Str) (lo hi : Option Int) : (L2.cutS z lo hi).length ≤ z.length := by
  show (((z.cps.toList.drop (HT.sIx z.length 0 lo)).take (HT.sIx z.length z.length hi - HT.sIx z.length 0 lo)).toArray).size ≤ z.cps.size
  rw [List.size_toArray, List.length_take, List.length_drop, Array.length_toList]
  omega
theorem str_len_app (a b : Str) : (a ++ b).length = a.length + b.length := by
  show (a.cps ++ b.cps).size = _
  rw [Array.size_append]
  rfl
theorem pickS {ss : List Str} {r : Int} (h0 : 0 ≤ r) (h1 : r < ((ss.length : Nat) : Int)) : ∃ t, atI (ss.map V.str) r = some (.str t) ∧ t ∈ ss := by
  obtain ⟨z, a, b⟩ := pickV (xs := ss.map V.str) h0 (by rw [List.length_map]; exact h1)
  obtain ⟨t, ht, rfl⟩ := List.mem_map.mp b
  exact ⟨t, a, ht⟩
theorem atI_some {α : Type} {xs : List α} {r : Int} (h0 : 0 ≤ r) (h1 : r < ((xs.length : Nat) : Int)) : ∃ z, atI xs r = some z := by
  have e : xs[r.toNat]? = some (xs[r.toNat]'(by omega)) := List.getElem?_eq_getElem (by omega)
  have q := atI_nat e
  rw [Int.toNat_of_nonneg h0] at q
  exact ⟨_, q⟩
def LK (H : Hp) (m p : Addr) (ss : List Str) : Prop := H p = some (.lst (ss.map V.str)) ∧ offM H m p
theorem LK.ef {H H' : Hp} {m p : Addr} {n : Nat} {ss : List Str} (h : LK H m p ss) (M : MS H m n) (e : Ef m H H') : LK H' m p ss := lst_ef h.1 M h.2 e
theorem LK.same {H H' : Hp} {m p : Addr} {n : Nat} {ss : List Str} (h : LK H m p ss) (M : MS H m n) (e : Same H H') : LK H' m p ss := h.ef M (Ef.ofSame M e)
theorem LK.new {H : Hp} {m p : Addr} {n : Nat} {ss : List Str} (M : MS H m n) (hp : H p = none) : LK (upd H p (.lst (ss.map V.str))) m p ss := ⟨upd_same, off_free M (same_upd hp _) hp⟩
theorem take_len_le (ls : List Str) (a : Nat) : (ls.take a).length ≤ ls.length := by
  rw [List.length_take]
  omega
theorem drop_len_le (ls : List Str) (a : Nat) : (ls.drop a).length ≤ ls.length := by
  rw [List.length_drop]
  omega
/-! ### the law on any texts -/
theorem tells_outT (d : Th) : (outT (thF d)).showable = true ∧ (outT (thF d)).hasDict = false ∧ (outT (thF d)).depth ≤ 8 ∧ (outT (thF d)).shown.length ≤ sizeLine := by
  cases eo : thF d with
  | inl e =>
    obtain ⟨b1, b2⟩ := bad_small eo
    refine tells_fits ?_ ?_ ?_
    · show (fits 40 (.str "text") && (decide (((e.1 : Nat) : Int).natAbs < 10 ^ 40) && (decide (((e.2 : Nat) : Int).natAbs < 10 ^ 40) && true))) = true
      rw [show fits 40 (.str "text") = true by decide +kernel, decide_eq_true (show ((e.1 : Nat) : Int).natAbs < 10 ^ 40 by omega), decide_eq_true (show ((e.2 : Nat) : Int).natAbs < 10 ^ 40 by omega)]
      rfl
    · show max 0 (max 0 (max 0 0)) + 1 ≤ 8
      decide
    · show (1000 + 2 + (41 + 2 + (41 + 2 + 0))) + 4 ≤ 16000000
      decide
  | inr row =>
    have ok := th_ok eo
    obtain ⟨a, b, c⟩ := row_all (i := 4) (by decide) ok.s
    have hl := ok.l
    refine tells_fits ?_ ?_ ?_
    · show (fits.go 40 (row.map stD) && true) = true
      rw [a]
      rfl
    · show max (PyData.depthAll (row.map stD) + 1) 0 + 1 ≤ 8
      omega
    · show (room.go 40 (row.map stD) + 4) + 2 + 0 + 4 ≤ 16000000
      omega
theorem rowT_len {row : List (List Pr)} (ok : OkR 4 row) : (rowT row).length ≤ 98 * row.length := by
  have q := sum_le (xs := row.map stT) (c := 97) fun x hx => by
    obtain ⟨st, hs, rfl⟩ := List.mem_map.mp hx
    have a := st_len (row_pr ok (by decide) st hs)
    have b := (ok.s st hs).1
    rw [TL.len_tl]
    omega
  have j := join_len "\n" (row.map stT)
  rw [show ("\n" : Str).length = 1 by decide +kernel, List.length_map] at j
  rw [List.length_map] at q
  show (Txt.join "\n" (row.map stT)).length ≤ _
  omega
theorem sq_ext {K : PySem.W.Frag} {H H' : Hp} {a : Addr} {xs : List V} (h : SqL K H a xs) (e : LamX.ExtN H H') : SqL K H' a xs := by
  rcases h with (h | ⟨o, h⟩) | h
  · exact .inl (.inl (e _ _ h fun ps z => by cases z))
  · exact .inl (.inr ⟨o, e _ _ h fun ps z => by cases z⟩)
  · exact .inr h
theorem out_ext {K : PySem.W.Frag} {H H' : Hp} {v : V} {o : (Nat × Nat) ⊕ List (List Pr)} (h : Dp K H v (outT o)) (e : LamX.ExtN H H') : Dp K H' v (outT o) := by
  cases o with
  | inl x => exact Dp.keepT (ExtN.tk e) _ _ rfl h
  | inr row =>
    cases h with
    | lst hs ha =>
      refine .lst (sq_ext hs e) (DpAll.keepT (ExtN.tk e) _ _ ?_ ha)
      show (tupOnly (dRow row) && true) = true
      rw [show tupOnly (dRow row) = true from to_row row]
      rfl
abbrev tapR (N : Nat) : List (List Pr) := List.replicate N [.d .tap 0]
theorem pre_bad {α ε : Type} {r : ε ⊕ List α} {x : ε} {qs : List α} (h : preS qs r = .inl x) : r = .inl x := by
  cases r with
  | inl y => exact h
  | inr y => cases h
theorem pre_nil {α ε : Type} {r : ε ⊕ List α} {x : List α} (h : preS [] r = .inr x) : r = .inr x := by
  cases r with
  | inl y => cases h
  | inr y => exact h
theorem find_tap : findP "tap 0" = some (.d .tap 0) := by
  have e : prT (.d .tap 0) = "tap 0" := by decide +kernel
  rw [← e]
  exact findP_of (all_pr ⟨by decide, fun a n z => by cases z⟩)
theorem find_t1 : findP "tap" = none := by
  have h : ((allPr 4).all fun p => decide (prT p ≠ "tap")) = true := by decide +kernel
  exact findP_none fun p hp => of_decide_eq_true (List.all_eq_true.mp h p hp)
theorem line_tap : lineF "tap 0" = .inr [.d .tap 0] := by
  unfold lineF
  rw [if_neg (by decide +kernel), show Txt.split "tap 0" ", " = [("tap 0" : Str)] by decide +kernel]
  exact pre_nil (part_step (r := []) (j := 0) (by decide) find_tap [])
theorem line_t2 : lineF "tap 0, tap" = .inl 2 := by
  unfold lineF
  rw [if_neg (by decide +kernel), show Txt.split "tap 0, tap" ", " = [("tap 0" : Str), ("tap" : Str)] by decide +kernel]
  have q := part_step (r := [("tap" : Str)]) (j := 0) (by decide) find_tap []
  rw [part_bad (.inr find_t1)] at q
  exact pre_bad q
theorem rep_step (t : List Str) : ∀ (k j : Nat) (qs : List (List Pr)), j + k ≤ 200 → preS qs (linesF j (List.replicate k ("tap 0" : Str) ++ t)) = preS (qs ++ tapR k) (linesF (j + k) t)
  | 0, j, qs, _ => by
    show preS qs (linesF j t) = preS (qs ++ []) (linesF j t)
    rw [List.append_nil]
  | k + 1, j, qs, h => by
    have e : List.replicate (k + 1) ("tap 0" : Str) ++ t = ("tap 0" : Str) :: (List.replicate k ("tap 0" : Str) ++ t) := rfl
    rw [e, line_step (by omega) line_tap, rep_step t k (j + 1) _ (by omega), List.append_assoc]
    congr 1
    congr 1
    omega
theorem free_tap : (10 : Nat) ∉ TL.tl ("tap 0" : Str) := by decide +kernel
theorem free_t2 : (10 : Nat) ∉ TL.tl ("tap 0, tap" : Str) := by decide +kernel
theorem free_t1 : (10 : Nat) ∉ TL.tl ("tap" : Str) := by decide +kernel
theorem text_of {ps : List Str} (h : ps ≠ []) (f : ∀ p ∈ ps, 10 ∉ TL.tl p) (ne : Txt.join "\n" ps ≠ "") : textF (Txt.join "\n" ps) = linesF 0 ps := by
  unfold textF
  rw [if_neg ne, TL.split_join feed (by decide +kernel) h f]
theorem join_ne {p : Str} {r : List Str} (h : 1 ≤ p.length) : Txt.join "\n" (p :: r) ≠ "" := fun z => by
  have e := congrArg TL.tl z
  rw [TL.join_eq, TL.tl_join] at e
  have l := congrArg List.length e
  rw [TL.len_tl] at h
  cases r with
  | nil =>
    have l : (TL.tl p).length = 0 := l
    omega
  | cons q r =>
    have l : (TL.tl p ++ (TL.tl "\n" ++ TL.joinL (TL.tl "\n") ((q :: r).map TL.tl))).length = 0 := l
    rw [List.length_append] at l
    omega
theorem rep_cons {N : Nat} (h : 1 ≤ N) : ∃ r, List.replicate N ("tap 0" : Str) = ("tap 0" : Str) :: r := by
  obtain ⟨k, rfl⟩ : ∃ k, N = k + 1 := ⟨N - 1, by omega⟩
  exact ⟨_, rfl⟩
theorem text_many {N : Nat} (h1 : 1 ≤ N) (h : N ≤ 200) : textF (Txt.join "\n" (List.replicate N ("tap 0" : Str))) = .inr (tapR N) := by
  obtain ⟨r, er⟩ := rep_cons h1
  rw [text_of (by rw [er]; simp) (fun p hp => by rw [(List.mem_replicate.mp hp).2]; exact free_tap) (by rw [er]; exact join_ne (by decide +kernel))]
  have q := rep_step [] N 0 [] (by omega)
  rw [List.append_nil, List.nil_append] at q
  have q2 : preS (tapR N) (linesF (0 + N) []) = .inr (tapR N) := by
    show (Sum.inr (tapR N ++ []) : (Nat × Nat) ⊕ List (List Pr)) = _
    rw [List.append_nil]
  rw [q2] at q
  cases e : linesF 0 (List.replicate N ("tap 0" : Str)) with
  | inl x =>
    rw [e] at q
    cases q
  | inr x =>
    rw [e] at q
    exact q
theorem text_late {t : Str} (ht : 10 ∉ TL.tl t) : textF (Txt.join "\n" (List.replicate 200 ("tap 0" : Str) ++ [t])) = .inl (201, 0) := by
  obtain ⟨r, er⟩ := rep_cons (N := 200) (by decide)
  rw [text_of (by rw [er]; simp) (fun p hp => by
    rcases List.mem_append.mp hp with hp | hp
    · rw [(List.mem_replicate.mp hp).2]
      exact free_tap
    · rw [List.mem_singleton.mp hp]
      exact ht) (by rw [er]; exact join_ne (by decide +kernel))]
  have q := rep_step [t] 200 0 [] (by decide)
  rw [line_late] at q
  exact pre_bad q
theorem glue_two {a b p : Str} {ps : List Str} : a ++ "\n" ++ b ++ "\n" ++ Txt.join "\n" (p :: ps) = Txt.join "\n" (a :: b :: p :: ps) := by
  have inj : ∀ {x y : Str}, TL.tl x = TL.tl y → x = y := fun {x y} h => by
    have z : [x] = [y] := TL.map_tl_inj (by show [TL.tl x] = [TL.tl y]; rw [h])
    exact (List.cons.inj z).1
  refine inj ?_
  rw [TL.tl_append, TL.tl_append, TL.tl_append, TL.tl_append, TL.join_eq, TL.join_eq, TL.tl_join, TL.tl_join]
  show _ = TL.tl a ++ (TL.tl "\n" ++ (TL.tl b ++ (TL.tl "\n" ++ TL.joinL (TL.tl "\n") ((p :: ps).map TL.tl))))
  simp only [List.append_assoc]
theorem text_third : textF ("tap 0\ntap 0, tap\n" ++ Txt.join "\n" (List.replicate 200 ("tap 0" : Str) ++ [("tap" : Str)])) = .inl (2, 2) := by
  obtain ⟨r, er⟩ := rep_cons (N := 200) (by decide)
  have e : ("tap 0\ntap 0, tap\n" : Str) = "tap 0" ++ "\n" ++ "tap 0, tap" ++ "\n" := by decide +kernel
  have fr : ∀ p ∈ ("tap 0" : Str) :: (r ++ [("tap" : Str)]), 10 ∉ TL.tl p := fun p hp => by
    rw [← List.cons_append, ← er] at hp
    rcases List.mem_append.mp hp with hp | hp
    · rw [(List.mem_replicate.mp hp).2]
      exact free_tap
    · rw [List.mem_singleton.mp hp]
      exact free_t1
  rw [e, er, List.cons_append, glue_two, text_of (by simp) (fun p hp => by
    rcases List.mem_cons.mp hp with rfl | hp
    · exact free_tap
    rcases List.mem_cons.mp hp with rfl | hp
    · exact free_t2
    · exact fr p hp) (join_ne (by decide +kernel))]
  have q := line_step (r := ("tap 0, tap" : Str) :: ("tap 0" : Str) :: (r ++ [("tap" : Str)])) (j := 0) (by decide) line_tap []
  rw [line_bad (by decide) line_t2] at q
  exact pre_bad q
abbrev badT (a b : Int) : PyData := .tuple [.str "text", .int a, .int b]
theorem fin_199 : SeqAt.shaped (.list [.list [dRow (tapR 199)], badT 201 0, badT 2 2]) = true ∧ PyData.eqv (.list [.list [dRow (tapR 199)], badT 201 0, badT 2 2]) (.list [.list [dRow (tapR 199)], badT 201 0, badT 2 2]) = true := ⟨by decide +kernel, by decide +kernel⟩
theorem fin_200 : SeqAt.shaped (.list [.list [dRow (tapR 200)], badT 201 0, badT 2 2]) = true ∧ PyData.eqv (.list [.list [dRow (tapR 200)], badT 201 0, badT 2 2]) (.list [.list [dRow (tapR 200)], badT 201 0, badT 2 2]) = true := ⟨by decide +kernel, by decide +kernel⟩
theorem fin_201 : SeqAt.shaped (.list [badT 201 0, badT 201 0, badT 2 2]) = true ∧ PyData.eqv (.list [badT 201 0, badT 201 0, badT 2 2]) (.list [badT 201 0, badT 201 0, badT 2 2]) = true := ⟨by decide +kernel, by decide +kernel⟩
theorem flat_str (N : Nat) (t : Str) : (List.replicate N [V.str t]).flatten = (List.replicate N t).map V.str := by
  induction N with
  | zero => rfl
  | succ n ih =>
    rw [List.replicate_succ, List.flatten_cons, ih, List.replicate_succ]
    rfl
theorem ext_upd {H0 H : Hp} {p : Addr} {o : HO} (e : LamX.ExtN H0 H) (hp : H0 p = none) : LamX.ExtN H0 (upd H p o) := fun b u h n => by
  rw [upd_ne (ne_of_none h hp)]
  exact e b u h n
theorem sum_rep (N : Nat) (t : Str) : ((List.replicate N t).map (·.length)).sum = N * t.length := by
  induction N with
  | zero => exact (Nat.zero_mul _).symm
  | succ n ih =>
    rw [List.replicate_succ, List.map_cons, List.sum_cons, ih, Nat.succ_mul, Nat.add_comm]

end My

namespace My
open PySem PySem.Spec PyProof.Rows L2
def topS (i : Nat) : Stmt := PySem.Challenge.pw_pedalrounds_k56_whole_any_text.main.body.getD i (.Pass ⟨0, 0, 0, 0⟩)
abbrev s_put : Stmt := topS 22
abbrev s_tap : Stmt := topS 23
abbrev s_stop : Stmt := topS 24
abbrev s_clear : Stmt := topS 25
abbrev s_undo : Stmt := topS 26
abbrev s_redo : Stmt := topS 27
abbrev s_join : Stmt := topS 28
abbrev s_turn : Stmt := topS 29
abbrev s_flip : Stmt := topS 30
abbrev s_mute : Stmt := topS 31
abbrev s_every_press : Stmt := topS 33
abbrev s_read_row : Stmt := topS 39
abbrev s_press_text : Stmt := topS 40
abbrev s_read_step : Stmt := topS 41
abbrev s__law_begun : Stmt := topS 43
abbrev s__law_next : Stmt := topS 44
abbrev s__law_fault : Stmt := topS 45
abbrev s__law_outcome : Stmt := topS 46
abbrev s__law_press : Stmt := topS 47
abbrev s__law_steps : Stmt := topS 48
abbrev s__law_text_of : Stmt := topS 49
abbrev s__law_press_in : Stmt := topS 50
abbrev s__law_text_due : Stmt := topS 51
abbrev s__law_bent_text : Stmt := topS 52
abbrev s_law : Stmt := topS 53
theorem sc_put : FnScope ["track", "part", "thing"] ["track", "part", "thing"] (defScope s_put) := ⟨rfl, rfl, rfl, by decide +kernel, rfl, by decide +kernel, by decide +kernel⟩
theorem sc_tap : FnScope ["track", "mode", "layers", "fresh"] ["track"] (defScope s_tap) := ⟨rfl, rfl, rfl, by decide +kernel, rfl, by decide +kernel, by decide +kernel⟩
theorem sc_stop : FnScope ["track", "mode", "layers"] ["track"] (defScope s_stop) := ⟨rfl, rfl, rfl, by decide +kernel, rfl, by decide +kernel, by decide +kernel⟩
theorem sc_clear : FnScope ["track"] ["track"] (defScope s_clear) := ⟨rfl, rfl, rfl, by decide +kernel, rfl, by decide +kernel, by decide +kernel⟩
theorem sc_undo : FnScope ["track", "mode", "layers", "undone"] ["track"] (defScope s_undo) := ⟨rfl, rfl, rfl, by decide +kernel, rfl, by decide +kernel, by decide +kernel⟩
theorem sc_redo : FnScope ["track", "mode", "layers", "undone"] ["track"] (defScope s_redo) := ⟨rfl, rfl, rfl, by decide +kernel, rfl, by decide +kernel, by decide +kernel⟩
theorem sc_join : FnScope ["track", "mode", "layers", "joined", "cells"] ["track"] (defScope s_join) := ⟨rfl, rfl, rfl, by decide +kernel, rfl, by decide +kernel, by decide +kernel⟩
theorem sc_turn : FnScope ["track"] ["track"] (defScope s_turn) := ⟨rfl, rfl, rfl, by decide +kernel, rfl, by decide +kernel, by decide +kernel⟩
theorem sc_flip : FnScope ["track"] ["track"] (defScope s_flip) := ⟨rfl, rfl, rfl, by decide +kernel, rfl, by decide +kernel, by decide +kernel⟩
theorem sc_mute : FnScope ["track"] ["track"] (defScope s_mute) := ⟨rfl, rfl, rfl, by decide +kernel, rfl, by decide +kernel, by decide +kernel⟩
theorem sc_every_press : FnScope ["tracks", "words", "word", "number", "pace"] ["tracks"] (defScope s_every_press) := ⟨rfl, rfl, rfl, by decide +kernel, rfl, by decide +kernel, by decide +kernel⟩
theorem sc_read_row : FnScope ["text", "presses", "steps", "at", "line", "press"] ["text"] (defScope s_read_row) := ⟨rfl, rfl, rfl, by decide +kernel, rfl, by decide +kernel, by decide +kernel⟩
theorem sc_press_text : FnScope ["press", "part"] ["press"] (defScope s_press_text) := ⟨rfl, rfl, rfl, by decide +kernel, rfl, by decide +kernel, by decide +kernel⟩
theorem sc_read_step : FnScope ["number", "line", "presses", "parts", "at", "part"] ["number", "line", "presses"] (defScope s_read_step) := ⟨rfl, rfl, rfl, by decide +kernel, rfl, by decide +kernel, by decide +kernel⟩
theorem sc__law_begun : FnScope ["script", "cell"] ["script"] (defScope s__law_begun) := ⟨rfl, rfl, rfl, by decide +kernel, rfl, by decide +kernel, by decide +kernel⟩
theorem sc__law_next : FnScope ["m", "total", "rest", "k", "cell", "mixed"] ["m", "total"] (defScope s__law_next) := ⟨rfl, rfl, rfl, by decide +kernel, rfl, by decide +kernel, by decide +kernel⟩
theorem sc__law_fault : FnScope ["e", "told"] ["e"] (defScope s__law_fault) := ⟨rfl, rfl, rfl, by decide +kernel, rfl, by decide +kernel, by decide +kernel⟩
theorem sc__law_outcome : FnScope ["deed", "caught", "found", "e"] ["deed"] (defScope s__law_outcome) := ⟨rfl, rfl, rfl, by decide +kernel, rfl, by decide +kernel, by decide +kernel⟩
theorem sc__law_press : FnScope ["m", "tracks", "words", "word", "at"] ["m", "tracks"] (defScope s__law_press) := ⟨rfl, rfl, rfl, by decide +kernel, rfl, by decide +kernel, by decide +kernel⟩
theorem sc__law_steps : FnScope ["m", "tracks", "total", "most", "found", "k", "j"] ["m", "tracks", "total", "most"] (defScope s__law_steps) := ⟨rfl, rfl, rfl, by decide +kernel, rfl, by decide +kernel, by decide +kernel⟩
theorem sc__law_text_of : FnScope ["row", "lines", "step", "parts", "press", "thing"] ["row"] (defScope s__law_text_of) := ⟨rfl, rfl, rfl, by decide +kernel, rfl, by decide +kernel, by decide +kernel⟩
theorem sc__law_press_in : FnScope ["part", "at", "word", "speed"] ["part"] (defScope s__law_press_in) := ⟨rfl, rfl, rfl, by decide +kernel, rfl, by decide +kernel, by decide +kernel⟩
theorem sc__law_text_due : FnScope ["text", "row", "number", "line", "step", "at", "part", "found"] ["text"] (defScope s__law_text_due) := ⟨rfl, rfl, rfl, by decide +kernel, rfl, by decide +kernel, by decide +kernel⟩
theorem sc__law_bent_text : FnScope ["m", "text", "at", "way", "sign", "lines", "spot", "there", "some", "parts"] ["m", "text"] (defScope s__law_bent_text) := ⟨rfl, rfl, rfl, by decide +kernel, rfl, by decide +kernel, by decide +kernel⟩
theorem sc_law : FnScope ["script", "m", "turn_v", "text", "again", "odd", "many", "late", "told", "due"] ["script"] (defScope s_law) := ⟨rfl, rfl, rfl, by decide +kernel, rfl, by decide +kernel, by decide +kernel⟩
abbrev s_BadText_init : Stmt := inClass (topS 6) 0
theorem sc_BadText_init : FnScope ["self", "line", "word"] ["self", "line", "word"] (defScope s_BadText_init) := ⟨rfl, rfl, rfl, by decide +kernel, rfl, by decide +kernel, by decide +kernel⟩
structure Top (w : World) (K : PySem.W.Frag) (mg : Str → Option Value) where
  a_put : Addr
  d_put : FuncData
  F_put : Fun K "put" "put" s_put a_put d_put
  m_put : mg "put" = some (.ref a_put)
  b_put : Binds K d_put ["track", "part", "thing"] []
  a_tap : Addr
  d_tap : FuncData
  F_tap : Fun K "tap" "tap" s_tap a_tap d_tap
  m_tap : mg "tap" = some (.ref a_tap)
  b_tap : Binds K d_tap ["track"] []
  a_stop : Addr
  d_stop : FuncData
  F_stop : Fun K "stop" "stop" s_stop a_stop d_stop
  m_stop : mg "stop" = some (.ref a_stop)
  b_stop : Binds K d_stop ["track"] []
  a_clear : Addr
  d_clear : FuncData
  F_clear : Fun K "clear" "clear" s_clear a_clear d_clear
  m_clear : mg "clear" = some (.ref a_clear)
  b_clear : Binds K d_clear ["track"] []
  a_undo : Addr
  d_undo : FuncData
  F_undo : Fun K "undo" "undo" s_undo a_undo d_undo
  m_undo : mg "undo" = some (.ref a_undo)
  b_undo : Binds K d_undo ["track"] []
  a_redo : Addr
  d_redo : FuncData
  F_redo : Fun K "redo" "redo" s_redo a_redo d_redo
  m_redo : mg "redo" = some (.ref a_redo)
  b_redo : Binds K d_redo ["track"] []
  a_join : Addr
  d_join : FuncData
  F_join : Fun K "join" "join" s_join a_join d_join
  m_join : mg "join" = some (.ref a_join)
  b_join : Binds K d_join ["track"] []
  a_turn : Addr
  d_turn : FuncData
  F_turn : Fun K "turn" "turn" s_turn a_turn d_turn
  m_turn : mg "turn" = some (.ref a_turn)
  b_turn : Binds K d_turn ["track"] []
  a_flip : Addr
  d_flip : FuncData
  F_flip : Fun K "flip" "flip" s_flip a_flip d_flip
  m_flip : mg "flip" = some (.ref a_flip)
  b_flip : Binds K d_flip ["track"] []
  a_mute : Addr
  d_mute : FuncData
  F_mute : Fun K "mute" "mute" s_mute a_mute d_mute
  m_mute : mg "mute" = some (.ref a_mute)
  b_mute : Binds K d_mute ["track"] []
  a_every_press : Addr
  d_every_press : FuncData
  F_every_press : Fun K "every_press" "every_press" s_every_press a_every_press d_every_press
  m_every_press : mg "every_press" = some (.ref a_every_press)
  b_every_press : Binds K d_every_press ["tracks"] []
  a_read_row : Addr
  d_read_row : FuncData
  F_read_row : Fun K "read_row" "read_row" s_read_row a_read_row d_read_row
  m_read_row : mg "read_row" = some (.ref a_read_row)
  b_read_row : Binds K d_read_row ["text"] []
  a_press_text : Addr
  d_press_text : FuncData
  F_press_text : Fun K "press_text" "press_text" s_press_text a_press_text d_press_text
  m_press_text : mg "press_text" = some (.ref a_press_text)
  b_press_text : Binds K d_press_text ["press"] []
  a_read_step : Addr
  d_read_step : FuncData
  F_read_step : Fun K "read_step" "read_step" s_read_step a_read_step d_read_step
  m_read_step : mg "read_step" = some (.ref a_read_step)
  b_read_step : Binds K d_read_step ["number", "line", "presses"] []
  a__law_begun : Addr
  d__law_begun : FuncData
  F__law_begun : Fun K "_law_begun" "_law_begun" s__law_begun a__law_begun d__law_begun
  m__law_begun : mg "_law_begun" = some (.ref a__law_begun)
  b__law_begun : Binds K d__law_begun ["script"] []
  a__law_next : Addr
  d__law_next : FuncData
  F__law_next : Fun K "_law_next" "_law_next" s__law_next a__law_next d__law_next
  m__law_next : mg "_law_next" = some (.ref a__law_next)
  b__law_next : Binds K d__law_next ["m", "total"] []
  a__law_fault : Addr
  d__law_fault : FuncData
  F__law_fault : Fun K "_law_fault" "_law_fault" s__law_fault a__law_fault d__law_fault
  m__law_fault : mg "_law_fault" = some (.ref a__law_fault)
  b__law_fault : Binds K d__law_fault ["e"] []
  a__law_outcome : Addr
  d__law_outcome : FuncData
  F__law_outcome : Fun K "_law_outcome" "_law_outcome" s__law_outcome a__law_outcome d__law_outcome
  m__law_outcome : mg "_law_outcome" = some (.ref a__law_outcome)
  b__law_outcome : Binds K d__law_outcome ["deed"] []
  a__law_press : Addr
  d__law_press : FuncData
  F__law_press : Fun K "_law_press" "_law_press" s__law_press a__law_press d__law_press
  m__law_press : mg "_law_press" = some (.ref a__law_press)
  b__law_press : Binds K d__law_press ["m", "tracks"] []
  a__law_steps : Addr
  d__law_steps : FuncData
  F__law_steps : Fun K "_law_steps" "_law_steps" s__law_steps a__law_steps d__law_steps
  m__law_steps : mg "_law_steps" = some (.ref a__law_steps)
  b__law_steps : Binds K d__law_steps ["m", "tracks", "total", "most"] []
  a__law_text_of : Addr
  d__law_text_of : FuncData
  F__law_text_of : Fun K "_law_text_of" "_law_text_of" s__law_text_of a__law_text_of d__law_text_of
  m__law_text_of : mg "_law_text_of" = some (.ref a__law_text_of)
  b__law_text_of : Binds K d__law_text_of ["row"] []
  a__law_press_in : Addr
  d__law_press_in : FuncData
  F__law_press_in : Fun K "_law_press_in" "_law_press_in" s__law_press_in a__law_press_in d__law_press_in
  m__law_press_in : mg "_law_press_in" = some (.ref a__law_press_in)
  b__law_press_in : Binds K d__law_press_in ["part"] []
  a__law_text_due : Addr
  d__law_text_due : FuncData
  F__law_text_due : Fun K "_law_text_due" "_law_text_due" s__law_text_due a__law_text_due d__law_text_due
  m__law_text_due : mg "_law_text_due" = some (.ref a__law_text_due)
  b__law_text_due : Binds K d__law_text_due ["text"] []
  a__law_bent_text : Addr
  d__law_bent_text : FuncData
  F__law_bent_text : Fun K "_law_bent_text" "_law_bent_text" s__law_bent_text a__law_bent_text d__law_bent_text
  m__law_bent_text : mg "_law_bent_text" = some (.ref a__law_bent_text)
  b__law_bent_text : Binds K d__law_bent_text ["m", "text"] []
  a_law : Addr
  d_law : FuncData
  F_law : Fun K "law" "law" s_law a_law d_law
  m_law : mg "law" = some (.ref a_law)
  b_law : Binds K d_law ["script"] []
  x_BadText : ExcT2 K mg "BadText" "BadText.__init__" "line" "word" s_BadText_init
  k_BadLoops : Addr
  n_BadLoops : mg "BadLoops" = some (.ref k_BadLoops)
  k_BadLengths : Addr
  n_BadLengths : mg "BadLengths" = some (.ref k_BadLengths)
  k_BadPedal : Addr
  n_BadPedal : mg "BadPedal" = some (.ref k_BadPedal)
  k_BadRow : Addr
  n_BadRow : mg "BadRow" = some (.ref k_BadRow)
  k_BadPaper : Addr
  n_BadPaper : mg "BadPaper" = some (.ref k_BadPaper)
  k_OutOfPlace : Addr
  n_OutOfPlace : mg "OutOfPlace" = some (.ref k_OutOfPlace)
  k_TooGreat : Addr
  n_TooGreat : mg "TooGreat" = some (.ref k_TooGreat)
  k_Nothing : Addr
  n_Nothing : mg "Nothing" = some (.ref k_Nothing)
  e_BadText : ExcC K x_BadText.C
  y_BadText_BadLoops : PySem.W.exmOne K (.ref x_BadText.C) (.ref k_BadLoops) = some false
  y_BadText_BadLengths : PySem.W.exmOne K (.ref x_BadText.C) (.ref k_BadLengths) = some false
  y_BadText_BadPedal : PySem.W.exmOne K (.ref x_BadText.C) (.ref k_BadPedal) = some false
  y_BadText_BadRow : PySem.W.exmOne K (.ref x_BadText.C) (.ref k_BadRow) = some false
  y_BadText_BadPaper : PySem.W.exmOne K (.ref x_BadText.C) (.ref k_BadPaper) = some false
  y_BadText_OutOfPlace : PySem.W.exmOne K (.ref x_BadText.C) (.ref k_OutOfPlace) = some false
  y_BadText_TooGreat : PySem.W.exmOne K (.ref x_BadText.C) (.ref k_TooGreat) = some false
  y_BadText_Nothing : PySem.W.exmOne K (.ref x_BadText.C) (.ref k_Nothing) = some false
  lc : Addr
  lT : Addr
  FL : FunL K "law" "law" s_law a_law d_law lc
  z_ValueError : mg "ValueError" = none
  v_ValueError : PySem.W.findCls K (.type "ValueError") (.type "type") "__init__" = some (.val (.builtin "ValueError.__init__"))
  z_len : mg "len" = none
  z_tuple : mg "tuple" = none
  z_sum : mg "sum" = none
  z_zip : mg "zip" = none
  z_range : mg "range" = none
  z_enumerate : mg "enumerate" = none
  z_isinstance : mg "isinstance" = none
  z_str : mg "str" = none
  z_list : mg "list" = none
  z_int : mg "int" = none
  z_min : mg "min" = none
  z_repr : mg "repr" = none
  t_MOST_TRACKS : Tok
  c_MOST_TRACKS : mg "MOST_TRACKS" = some (.int 4 t_MOST_TRACKS)
  t_MOST_LAYERS : Tok
  c_MOST_LAYERS : mg "MOST_LAYERS" = some (.int 4 t_MOST_LAYERS)
  t_MODE : Tok
  c_MODE : mg "MODE" = some (.int 0 t_MODE)
  t_UNDONE : Tok
  c_UNDONE : mg "UNDONE" = some (.int 2 t_UNDONE)
  t_POINT : Tok
  c_POINT : mg "POINT" = some (.int 3 t_POINT)
  t_WAY : Tok
  c_WAY : mg "WAY" = some (.int 4 t_WAY)
  t_SIGN : Tok
  c_SIGN : mg "SIGN" = some (.int 6 t_SIGN)
  t_MUTED : Tok
  c_MUTED : mg "MUTED" = some (.int 7 t_MUTED)
  t_MOST_STEPS : Tok
  c_MOST_STEPS : mg "MOST_STEPS" = some (.int 200 t_MOST_STEPS)
  t_MOST_PRESSES : Tok
  c_MOST_PRESSES : mg "MOST_PRESSES" = some (.int 8 t_MOST_PRESSES)
  t_NO_PRESS : Tok
  c_NO_PRESS : mg "NO_PRESS" = some (.str "-" t_NO_PRESS)
  t_BETWEEN : Tok
  c_BETWEEN : mg "BETWEEN" = some (.str ", " t_BETWEEN)
  g_EMPTY : Addr
  c_EMPTY : mg "EMPTY" = some (.ref g_EMPTY)
  w_EMPTY : ∀ H : Hp, Dp K H (.ref g_EMPTY) (.tuple [.str "empty", .tuple [], .tuple [], .int (0), .int (1), .int (2), .int (1), .bool false])
  g_PACES : Addr
  c_PACES : mg "PACES" = some (.ref g_PACES)
  w_PACES : ∀ H : Hp, Dp K H (.ref g_PACES) (.tuple [.int (1), .int (2), .int (4)])
  g_HOLDING : Addr
  c_HOLDING : mg "HOLDING" = some (.ref g_HOLDING)
  w_HOLDING : ∀ H : Hp, Dp K H (.ref g_HOLDING) (.tuple [.str "play", .str "dub", .str "stop"])
  g_DEEDS : Addr
  c_DEEDS : mg "DEEDS" = some (.ref g_DEEDS)
  w_DEEDS : RD.Words K g_DEEDS ["tap", "stop", "clear", "undo", "redo", "join", "turn", "flip", "mute"]
  i_DEEDS_tap : KDct K w g_DEEDS "tap" (.ref a_tap)
  i_DEEDS_stop : KDct K w g_DEEDS "stop" (.ref a_stop)
  i_DEEDS_clear : KDct K w g_DEEDS "clear" (.ref a_clear)
  i_DEEDS_undo : KDct K w g_DEEDS "undo" (.ref a_undo)
  i_DEEDS_redo : KDct K w g_DEEDS "redo" (.ref a_redo)
  i_DEEDS_join : KDct K w g_DEEDS "join" (.ref a_join)
  i_DEEDS_turn : KDct K w g_DEEDS "turn" (.ref a_turn)
  i_DEEDS_flip : KDct K w g_DEEDS "flip" (.ref a_flip)
  i_DEEDS_mute : KDct K w g_DEEDS "mute" (.ref a_mute)
end My

namespace My
open PySem PySem.Spec PyProof.Rows L2
section
variable {P : Program} {w : World} {K : PySem.W.Frag} {mg : Str → Option Value} {base : Heap}
theorem ok_BadText_init (T : Top w K mg) : FnOk P w K mg base CX0 1 T.x_BadText.f T.x_BadText.d ["self", "line", "word"] (sp_exc2 T.x_BadText.C "line" "word") := by
  refine T.x_BadText.F.ok sc_BadText_init (fun vs H Q E h => ?_) (fun cdv A outer s H vs Q E hr h => ?_)
  · obtain ⟨a, w1, w2, rfl, _⟩ := h
    rfl
  obtain ⟨a, w1, w2, rfl, ha, k⟩ := h
  refine ⟨_, pss_cons (ps_expr (pe_veinit (by rfl) T.z_ValueError T.v_ValueError (pa_cons (pv 0) (pa_cons (pv 1) (pa_cons (pv 2) pa_nil))))) (pss_cons (ps_ost (pv 0) (pv 1)) (pss_one (ps_ost (pv 0) (pv 2)))), ?_⟩
  refine ⟨_, rfl, _, rfl, _, rfl, a, T.x_BadText.C, [w1, w2], rfl, (by show 2 ≤ 1000; decide), T.x_BadText.ox, ha, ?_⟩
  refine ⟨_, rfl, _, rfl, a, T.x_BadText.C, rfl, T.x_BadText.ox, T.x_BadText.nf, .inl ⟨ha, fun dx h1 h2 => ?_⟩⟩
  exact ⟨_, rfl, _, rfl, a, T.x_BadText.C, rfl, T.x_BadText.ox, T.x_BadText.nf2, .inr ⟨dx, [("line", w1)], upd_same, (by rw [upd_ne h2, upd_same]), (by show 1 ≤ 900; decide), k dx h1 h2⟩⟩
end
section
variable {P : Program} {w : World} {K : PySem.W.Frag} {mg : Str → Option Value} {base : Heap}
theorem ok_put (T : Top w K mg) : FnOk P w K mg base CX0 1 T.a_put T.d_put ["track", "part", "thing"] (sp_noneB) := T.F_put.ok sc_put (fun _ _ _ _ h => h.elim) (fun _ _ _ _ _ _ _ _ _ h => h.elim)
end
section
variable {P : Program} {w : World} {K : PySem.W.Frag} {mg : Str → Option Value} {base : Heap}
theorem ok_clear (T : Top w K mg) : FnOk P w K mg base CX0 1 T.a_clear T.d_clear ["track"] (sp_noneB) := T.F_clear.ok sc_clear (fun _ _ _ _ h => h.elim) (fun _ _ _ _ _ _ _ _ _ h => h.elim)
end
section
variable {P : Program} {w : World} {K : PySem.W.Frag} {mg : Str → Option Value} {base : Heap}
theorem ok_undo (T : Top w K mg) : FnOk P w K mg base CX0 1 T.a_undo T.d_undo ["track"] (sp_noneB) := T.F_undo.ok sc_undo (fun _ _ _ _ h => h.elim) (fun _ _ _ _ _ _ _ _ _ h => h.elim)
end
section
variable {P : Program} {w : World} {K : PySem.W.Frag} {mg : Str → Option Value} {base : Heap}
theorem ok_redo (T : Top w K mg) : FnOk P w K mg base CX0 1 T.a_redo T.d_redo ["track"] (sp_noneB) := T.F_redo.ok sc_redo (fun _ _ _ _ h => h.elim) (fun _ _ _ _ _ _ _ _ _ h => h.elim)
end
section
variable {P : Program} {w : World} {K : PySem.W.Frag} {mg : Str → Option Value} {base : Heap}
theorem ok_join (T : Top w K mg) : FnOk P w K mg base CX0 1 T.a_join T.d_join ["track"] (sp_noneB) := T.F_join.ok sc_join (fun _ _ _ _ h => h.elim) (fun _ _ _ _ _ _ _ _ _ h => h.elim)
end
section
variable {P : Program} {w : World} {K : PySem.W.Frag} {mg : Str → Option Value} {base : Heap}
theorem ok_every_press (T : Top w K mg) : FnOk P w K mg base CX0 1 T.a_every_press T.d_every_press ["tracks"] (sp_every_press K) := by
  refine T.F_every_press.ok sc_every_press (fun vs H Q E h => ?_) (fun cdv A outer s H vs Q E hr h => ?_)
  · obtain ⟨i, rfl, h4, k⟩ := h
    rfl
  obtain ⟨i, rfl, h4, k⟩ := h
  refine ⟨_, (pss_cons (ps_setLc2 (i := 1) (own := [("word", 2), ("number", 3)]) (vs1 := [3]) rfl sc_every_press.nd rfl rfl (sw_true rfl rfl rfl (by decide +kernel)) (k_piW (K := K) (pe_glob (v := .ref T.g_DEEDS) rfl T.c_DEEDS rfl)) (blkOk_by (own := [("word", 2), ("number", 3)]) (N := ["tracks", "words", "word", "number", "pace"]) (sc := defScope s_every_press) (by decide +kernel)) (by decide) (fun _ _ _ _ _ => (pg_name (i := 2) sc_every_press.nd rfl (Or.inl rfl))) (fun _ _ _ _ _ => pts_nil) (fun _ _ _ _ _ => (pi_range1 (by rfl) T.z_range (pa_cons (pv 0) pa_nil))) (fun _ _ _ _ _ => (pg_name (i := 3) sc_every_press.nd rfl (Or.inl rfl))) (fun _ _ _ _ _ => pts_nil) (fun _ _ _ _ _ => (pe_tup (pa_cons (pv 2) (pa_cons (pv 3) pa_nil)))))
      (pss_one (ps_ret (pe_op op_cat (pv 1) (pe_lc2 (own := [("number", 3), ("pace", 4)]) (vs1 := [4]) rfl sc_every_press.nd (pi_range1 (by rfl) T.z_range (pa_cons (pv 0) pa_nil)) (blkOk_by (own := [("number", 3), ("pace", 4)]) (N := ["tracks", "words", "word", "number", "pace"]) (sc := defScope s_every_press) (by decide +kernel)) (by decide) (fun _ _ _ _ _ => (pg_name (i := 3) sc_every_press.nd rfl (Or.inl rfl))) (fun _ _ _ _ _ => pts_nil) (fun _ _ _ _ _ => (k_piT (K := K) (pe_glob (v := .ref T.g_PACES) rfl T.c_PACES rfl))) (fun _ _ _ _ _ => (pg_name (i := 4) sc_every_press.nd rfl (Or.inl rfl))) (fun _ _ _ _ _ => pts_nil) (fun _ _ _ _ _ => (pe_tup (pa_cons pe_str (pa_cons (pv 3) (pa_cons (pv 4) pa_nil)))))))))), ?_⟩
  refine ⟨_, _, rfl, T.w_DEEDS, fun D hD => ?_⟩
  refine lc3_out RD.walk_word (fun l H' => ∃ ys : List V, H' D = some (.lst ys) ∧ DpAll K H' ys ((((allD.take l).map fun d => (List.range i).map fun j => Pr.d d j).flatten).map prD) ∧ Same H H') ⟨[], upd_same, .nil, same_upd hD _⟩ (fun _ _ _ _ => trivial) ?_ ?_
  · rintro l x H1 H2 hl ⟨ys, hA, hY, s1⟩ ⟨rfl, z, hz, rfl⟩
    change (allD.map Dd.s)[l]? = some z at hz
    rw [List.getElem?_map] at hz
    obtain ⟨d, hd, rfl⟩ := Option.map_eq_some_iff.mp hz
    refine ⟨rfl, ?_⟩
    refine ⟨_, rfl, _, rfl, by omega, by omega, ?_⟩
    refine lc3_in walk_range (fun j H' => ∃ ys : List V, H' D = some (.lst ys) ∧ DpAll K H' ys ((((allD.take l).map fun d => (List.range i).map fun j => Pr.d d j).flatten ++ (List.range j).map fun j => Pr.d d j).map prD) ∧ Same H H') ⟨ys, hA, by simpa using hY, s1⟩ (fun _ _ _ _ => trivial) ?_ ?_
    · rintro j x H5 H6 hj ⟨ys, hA5, hY5, s5⟩ ⟨rfl, rfl⟩
      have hly := hY5.len
      rw [List.length_map, List.length_append, flat_len, List.length_map, List.length_range, List.length_take] at hly
      have l9 : allD.length = 9 := rfl
      have hb : min l allD.length * i ≤ 9 * 4 := Nat.mul_le_mul (by omega) h4
      refine ⟨rfl, ?_⟩
      refine ⟨_, rfl, _, rfl, (by show 2 ≤ sizeLine; decide), fun q hq => ?_⟩
      have n2 := same_upd hq (.tup [.str d.s, .int (0 + (j : Int))])
      refine ⟨_, n2 _ _ hA5, small1000 (by omega), ys ++ [.ref q], upd_same, ?_, fun b' o z => ?_⟩
      · have hn : Dp K (upd H6 q (.tup [.str d.s, .int (0 + (j : Int))])) (.ref q) (prD (.d d j)) := .tup (xs := [.str d.s, .int (0 + (j : Int))]) (SqT.of upd_same) (.cons (.str _) (.cons (by rw [Int.zero_add]; exact .int _) .nil))
        have z := prs_more (zs := ys ++ [.ref q]) hA5 hq hY5 hn
        rw [List.append_assoc] at z
        have e : (List.range (j + 1)).map (fun j => Pr.d d j) = (List.range j).map (fun j => Pr.d d j) ++ [Pr.d d j] := by
          rw [List.range_succ, List.map_append]
          rfl
        rw [e]
        exact z
      · rw [upd_ne (ne_of_none z hD)]
        exact n2 _ _ (s5 _ _ z)
    rintro H5 ⟨ys, hA5, hY5, s5⟩
    refine ⟨ys, hA5, ?_, s5⟩
    rw [take_more hd, List.map_append, List.flatten_append, List.map_cons, List.map_nil, List.flatten_cons, List.flatten_nil, List.append_nil]
    exact hY5
  rintro H1 ⟨ys, hA, hY, s1⟩
  have hY : DpAll K H1 ys (((allD.map fun d => (List.range i).map fun j => Pr.d d j).flatten).map prD) := hY
  have hly := hY.len
  rw [List.length_map, flat_len] at hly
  have l9 : allD.length = 9 := rfl
  refine ⟨_, rfl, _, rfl, _, rfl, by omega, by omega, fun D2 hD2 => ?_⟩
  refine lc3_out walk_range (fun l H' => ∃ zs : List V, H' D2 = some (.lst zs) ∧ DpAll K H' zs ((((List.range l).map fun j => [(1 : Int), 2, 4].map fun n => Pr.p j n).flatten).map prD) ∧ Same H1 H') ⟨[], upd_same, .nil, same_upd hD2 _⟩ (fun _ _ _ _ => trivial) ?_ ?_
  · rintro l x H2 H3 hl ⟨zs, hB, hZ, s2⟩ ⟨rfl, rfl⟩
    obtain ⟨gp, eg, hG⟩ := ints3 (T.w_PACES H3)
    cases eg
    refine ⟨rfl, _, rfl, ⟨_, hG⟩, ?_⟩
    refine lc3_in (walk_tup (xs := [(1 : Int), 2, 4].map V.int)) (fun j H' => ∃ zs : List V, H' D2 = some (.lst zs) ∧ DpAll K H' zs ((((List.range l).map fun j => [(1 : Int), 2, 4].map fun n => Pr.p j n).flatten ++ ([(1 : Int), 2, 4].take j).map fun n => Pr.p l n).map prD) ∧ Same H1 H') ⟨zs, hB, by simpa using hZ, s2⟩ (fun j H' _ ⟨_, _, _, s⟩ => ?_) ?_ ?_
    · obtain ⟨gp, eg, hG⟩ := ints3 (T.w_PACES H')
      cases eg
      exact hG
    · rintro j x H5 H6 hj ⟨zs, hB5, hZ5, s5⟩ ⟨rfl, hx⟩
      obtain ⟨n, hn, rfl⟩ := map_int_get hx
      have hlz := hZ5.len
      rw [List.length_map, List.length_append, flat_len3, List.length_map, List.length_range, List.length_take] at hlz
      have l3 : [(1 : Int), 2, 4].length = 3 := rfl
      refine ⟨rfl, ?_⟩
      refine ⟨_, rfl, _, rfl, (by show 3 ≤ sizeLine; decide), fun q hq => ?_⟩
      have n2 := same_upd hq (.tup [.str "pace", .int (0 + (l : Int)), .int n])
      refine ⟨_, n2 _ _ hB5, small1000 (by omega), zs ++ [.ref q], upd_same, ?_, fun b' o z => ?_⟩
      · have hn2 : Dp K (upd H6 q (.tup [.str "pace", .int (0 + (l : Int)), .int n])) (.ref q) (prD (.p l n)) := .tup (xs := [.str "pace", .int (0 + (l : Int)), .int n]) (SqT.of upd_same) (.cons (.str _) (.cons (by rw [Int.zero_add]; exact .int _) (.cons (.int _) .nil)))
        have z := prs_more (zs := zs ++ [.ref q]) hB5 hq hZ5 hn2
        rw [List.append_assoc] at z
        have e : ([(1 : Int), 2, 4].take (j + 1)).map (fun n => Pr.p l n) = ([(1 : Int), 2, 4].take j).map (fun n => Pr.p l n) ++ [Pr.p l n] := by
          rw [take_more hn, List.map_append]
          rfl
        rw [e]
        exact z
      · rw [upd_ne (ne_of_none z hD2)]
        exact n2 _ _ (s5 _ _ z)
    rintro H5 ⟨zs, hB5, hZ5, s5⟩
    refine ⟨zs, hB5, ?_, s5⟩
    rw [List.range_succ, List.map_append, List.flatten_append, List.map_cons, List.map_nil, List.flatten_cons, List.flatten_nil, List.append_nil]
    exact hZ5
  rintro H2 ⟨zs, hB, hZ, s2⟩
  rw [Int.toNat_natCast] at hZ
  have hlz := hZ.len
  rw [List.length_map, flat_len3, List.length_range] at hlz
  have hbb : allD.length * i ≤ 9 * 4 := Nat.mul_le_mul (by omega) h4
  refine ⟨D, D2, ys, zs, rfl, rfl, s2 _ _ hA, hB, Nat.le_of_lt (small1000 (by omega)), fun G hG => ?_⟩
  have s3 := same_upd hG (.lst (ys ++ zs))
  refine k G (ys ++ zs) _ (s1.trans (s2.trans s3)) upd_same ?_
  unfold allPr
  rw [List.map_append]
  exact DpAll.same s3 _ _ (DpAll.app (DpAll.same s2 _ _ hY) hZ)
end
section
variable {P : Program} {w : World} {K : PySem.W.Frag} {mg : Str → Option Value} {base : Heap}
theorem ok_press_text (T : Top w K mg) : FnOk P w K mg base CX0 1 T.a_press_text T.d_press_text ["press"] (sp_press_text K) := by
  refine T.F_press_text.ok sc_press_text (fun vs H Q E h => ?_) (fun cdv A outer s H vs Q E hr h => ?_)
  · obtain ⟨v, p, rfl, hv, ok, k⟩ := h
    rfl
  obtain ⟨v, p, rfl, hv, ok, k⟩ := h
  refine ⟨_, (pss_one (ps_ret (k_join (K := K) pe_str (pe_lc (own := [("part", 1)]) rfl sc_press_text.nd (k_piT (K := K) (pv 0)) (blkOk_by (own := [("part", 1)]) (N := ["press", "part"]) (sc := defScope s_press_text) (by decide +kernel)) (fun _ _ _ _ _ => (pg_name (i := 1) sc_press_text.nd rfl (Or.inl rfl))) (fun _ _ _ _ _ => pts_nil) (fun _ _ _ _ _ => (pe_callTy k_strA (by rfl) T.z_str bt_str (pa_cons (pv 1) pa_nil))))))), ?_⟩
  obtain ⟨b, rfl, hT⟩ := pr_xs hv
  obtain ⟨l3, lx, ls⟩ := parts_len p ok
  refine ⟨⟨_, rfl⟩, _, rfl, b, rfl, ⟨_, hT⟩, fun D hD => ?_⟩
  refine lc_it walk_tup (fun l H' => H' D = some (.lst (((prParts p).take l).map V.str)) ∧ Same H H') ⟨upd_same, same_upd hD _⟩ (fun l H' _ ⟨_, s⟩ => Same.tk s _ _ hT) ?_ ?_
  · rintro l x H1 H2 hl ⟨hA, s1⟩ ⟨rfl, hx⟩
    obtain ⟨t, ht, q⟩ := xs_parts ok hx
    have nx : ∃ acc, H2 D = some (.lst acc) ∧ acc.length < sizeLine ∧ upd H2 D (.lst (acc ++ [V.str t])) D = some (.lst (((prParts p).take (l + 1)).map V.str)) ∧ Same H (upd H2 D (.lst (acc ++ [V.str t]))) := by
      refine ⟨_, hA, small1000 (by rw [List.length_map, List.length_take]; omega), ?_, fun b' o z => ?_⟩
      · rw [upd_same, take_str ht]
      · rw [upd_ne (ne_of_none z hD)]
        exact s1 _ _ z
    refine ⟨rfl, _, rfl, x, rfl, ?_⟩
    rcases q with ⟨a, rfl, rfl⟩ | ⟨i, rfl, hi, rfl⟩
    · exact .inl ⟨_, rfl, nx⟩
    · exact .inr ⟨i, rfl, hi, nx⟩
  rintro H1 ⟨hA, s1⟩
  rw [lx, List.take_length] at hA
  exact ⟨_, D, prParts p, rfl, rfl, .inl (SqL.of hA), (by show _ + _ * 1 ≤ _; omega), k H1 s1⟩
end
section
variable {P : Program} {w : World} {K : PySem.W.Frag} {mg : Str → Option Value} {base : Heap}
theorem ok__law_begun (T : Top w K mg) : FnOk P w K mg base CX0 1 T.a__law_begun T.d__law_begun ["script"] (sp__law_begun K) := by
  refine T.F__law_begun.ok sc__law_begun (fun vs H Q E h => ?_) (fun cdv A outer s H vs Q E hr h => ?_)
  · obtain ⟨a, ns, rfl, hS, hl, k⟩ := h
    rfl
  obtain ⟨a, ns, rfl, hS, hl, k⟩ := h
  refine ⟨_, (pss_one (ps_ret (pe_disp (pps_cons pe_str (pe_callTy (k_list (K := K)) (by rfl) T.z_list bt_list (pa_cons (pv 0) pa_nil)) (pps_cons pe_str (pe_lc (own := [("cell", 1)]) rfl sc__law_begun.nd (k_piL (K := K) (pv 0)) (blkOk_by (own := [("cell", 1)]) (N := ["script", "cell"]) (sc := defScope s__law_begun) (by decide +kernel)) (fun _ _ _ _ _ => (pg_name (i := 1) sc__law_begun.nd rfl (Or.inl rfl))) (fun _ _ _ _ _ => (pts_one (pt_cmpR op_ge (pv 1) (pe_op op_pow pe_int pe_int) (nomark _)))) (fun _ _ _ _ _ => (pv 1))) (pps_cons pe_str pe_int pps_nil))) (by rfl) (by rfl) (fun z => by cases z) (by decide)))), ?_⟩
  refine fun p hp => ?_
  refine ⟨_, rfl, a, _, rfl, .inl ((same_upd hp _).seq hS), fun l hl' => ?_⟩
  have s1 : Same H (upd (upd H p (.dK [])) l (.lst (ns.map V.int))) := (same_upd hp _).trans (same_upd hl' _)
  have lp : l ≠ p := fun z => by rw [z, upd_same] at hl'; cases hl'
  refine ⟨_, rfl, a, rfl, ⟨_, s1.seq hS⟩, fun D hD => ?_⟩
  have Dp' : D ≠ p := fun z => by rw [z, upd_ne (Ne.symm lp), upd_same] at hD; cases hD
  have Dl : D ≠ l := fun z => by rw [z, upd_same] at hD; cases hD
  refine lc_list (K := K) (a := a) (xs := ns.map V.int) (fun i H' => ∃ acc : List Int, H' D = some (.lst (acc.map V.int)) ∧ acc.length ≤ i ∧ (∀ z ∈ acc, 0 ≤ z) ∧ Same (upd (upd H p (.dK [])) l (.lst (ns.map V.int))) H')
    ⟨[], upd_same, Nat.le_refl _, (by intro z hz; cases hz), same_upd hD _⟩ (fun i H' _ ⟨_, _, _, _, s⟩ => s.seq (s1.seq hS)) ?_ ?_
  · rintro i x H' hi ⟨acc, hA, hn, h0, s⟩
    obtain ⟨z, hz, rfl⟩ := map_int_get hi
    refine ⟨rfl, _, rfl, _, _, rfl, rfl, ⟨by decide, by decide, by decide⟩, _, _, rfl, rfl, _, rfl, ?_⟩
    refine ite2 (fun cc => ?_) (fun _ => ⟨acc, hA, by omega, h0, s⟩)
    have cz : (10 : Int) ^ (18 : Int).toNat ≤ z := of_decide_eq_true cc
    have cz' : 0 ≤ z := Int.le_trans (by decide) cz
    refine ⟨_, rfl, _, hA, by rw [List.length_map]; exact small1000 (by have := (List.getElem?_eq_some_iff.mp hz).1; omega), acc ++ [z], ?_, ?_, ?_, ?_⟩
    · rw [upd_same, List.map_append]
      all_goals rfl
    · rw [List.length_append, List.length_singleton]
      omega
    · intro y hy
      rcases List.mem_append.mp hy with q | q
      · exact h0 y q
      · rw [List.mem_singleton.mp q]
        exact cz'
    · intro b o q
      have bD : b ≠ D := ne_of_none q hD
      rw [upd_ne bD]
      exact s b o q
  · rintro H' ⟨acc, hA, hn, h0, s⟩
    rw [List.length_map] at hn
    have hp' : H' p = some (.dK []) := s _ _ (by rw [upd_ne (Ne.symm lp), upd_same])
    refine ⟨hp', [(kCells, .ref l), (kLeft, .ref D), (kAt, .int 0)], rfl, (by show 3 ≤ 15; decide), ?_⟩
    rw [merge3]
    have e : ∀ b, b ≠ p → upd H' p (.dK [(kCells, V.ref l), (kLeft, V.ref D), (kAt, V.int 0)]) b = H' b := fun b hb => upd_ne hb
    refine k p _ (fun b o q => ?_) ⟨l, D, upd_same, ⟨ns, ?_, hl⟩, ⟨acc, ?_, by omega, h0⟩, Ne.symm Dl⟩
    · rw [e b (ne_of_none q hp)]
      exact s _ _ (s1 _ _ q)
    · rw [e _ lp]
      exact s _ _ upd_same
    · rw [e _ Dp']
      exact hA
end
section
variable {P : Program} {w : World} {K : PySem.W.Frag} {mg : Str → Option Value} {base : Heap}
theorem ok__law_next (T : Top w K mg) : FnOk P w K mg base CX0 1 T.a__law_next T.d__law_next ["m", "total"] (sp__law_next K) := by
  refine T.F__law_next.ok sc__law_next (fun vs H Q E h => ?_) (fun cdv A outer s H vs Q E hr h => ?_)
  · obtain ⟨m, many, n, rfl, M, h0, h9, hn, k⟩ := h
    rfl
  obtain ⟨m, many, n, rfl, M, h0, h9, hn, k⟩ := h
  refine ⟨_, (Evl.pss_cut (ps_while PassesOwn.never (PW.pt (pw_and (pt_cmpR (k_neD (K := K) hr.units) (pe_dget (hu_of hr) (pv 0) pe_str (fun _ _ => rfl)) (pe_lst pa_nil) (nomark _)) (pw_and1 (pt_cmpR op_eq (pe_ix (k_ixL (K := K)) (pe_dget (hu_of hr) (pv 0) pe_str (fun _ _ => rfl)) pe_int (fun _ _ => rfl)) pe_int (nomark _))))) (pss_one (ps_dput (hu_of hr) (pv 0) pe_str (pe_slice (k_slL (K := K)) (pe_dget (hu_of hr) (pv 0) pe_str (fun _ _ => rfl)) (po_some pe_int) po_none) rfl)))
      (pss_cons (ps_if (pt_cmpR (k_neD (K := K) hr.units) (pe_dget (hu_of hr) (pv 0) pe_str (fun _ _ => rfl)) (pe_lst pa_nil) (nomark _)) (pss_cons (ps_set (i := 2) sc__law_next.nd rfl (Or.inl rfl) (pe_callTy call_int1 (by rfl) T.z_int bt_int (pa_cons (pe_ix (k_ixL (K := K)) (pe_dget (hu_of hr) (pv 0) pe_str (fun _ _ => rfl)) pe_int (fun _ _ => rfl)) pa_nil)))
      (pss_cons (ps_asg (pe_op op_fdivW (pv 2) (pv 1)) (pg_sub (pe_dget (hu_of hr) (pv 0) pe_str (fun _ _ => rfl)) pe_int set_list))
      (pss_one (ps_ret (pe_op op_modN (pv 2) (pv 1)))))) pss_nil)
      (pss_cons (ps_set (i := 3) sc__law_next.nd rfl (Or.inl rfl) (pe_op op_add (pe_dget (hu_of hr) (pv 0) pe_str (fun _ _ => rfl)) pe_int))
      (pss_cons (ps_dput (hu_of hr) (pv 0) pe_str (pv 3) rfl)
      (pss_cons (ps_set (i := 4) sc__law_next.nd rfl (Or.inl rfl) (pe_ifExp (pt_cmpR (k_neD (K := K) hr.units) (pe_dget (hu_of hr) (pv 0) pe_str (fun _ _ => rfl)) (pe_lst pa_nil) (nomark _)) (pe_ix (k_ixL (K := K)) (pe_dget (hu_of hr) (pv 0) pe_str (fun _ _ => rfl)) (pe_op op_modN (pe_callTy call_int1 (by rfl) T.z_int bt_int (pa_cons (pv 3) pa_nil)) (pe_callB (k_len (K := K)) (by rfl) T.z_len bt_len (pa_cons (pe_dget (hu_of hr) (pv 0) pe_str (fun _ _ => rfl)) pa_nil))) (fun _ _ => rfl)) pe_int))
      (pss_cons (ps_set (i := 5) sc__law_next.nd rfl (Or.inl rfl) (pe_op op_mul (pe_callTy call_int1 (by rfl) T.z_int bt_int (pa_cons (pe_op op_add (pe_op op_add (pe_op op_modN (pe_callTy call_int1 (by rfl) T.z_int bt_int (pa_cons (pv 4) pa_nil)) pe_int) (pe_op op_mul pe_int (pv 3))) (pe_op op_mul (pe_op op_mul pe_int (pv 3)) (pv 3))) pa_nil)) pe_int))
      (pss_cons (ps_set (i := 5) sc__law_next.nd rfl (Or.inl rfl) (pe_op op_mul (pe_callTy call_int1 (by rfl) T.z_int bt_int (pa_cons (pe_op op_add (pe_op op_modN (pe_callTy call_int1 (by rfl) T.z_int bt_int (pa_cons (pv 5) pa_nil)) pe_int) (pe_op op_mul pe_int (pv 3))) pa_nil)) pe_int))
      (pss_one (ps_ret (pe_op op_modN (pe_callTy call_int1 (by rfl) T.z_int bt_int (pa_cons (pe_op op_fdivN (pe_op op_modN (pe_callTy call_int1 (by rfl) T.z_int bt_int (pa_cons (pv 5) pa_nil)) pe_int) pe_int) pa_nil)) (pv 1))))))))))), ?_⟩
  refine ⟨fun σ H' => σ = [some (.ref m), some (.int many), none, none, none, none] ∧ MS H' m n ∧ Ef m H H', ?_, ?_⟩
  · refine ⟨fun j σ H' => σ = [some (.ref m), some (.int many), none, none, none, none] ∧ Ef m H H' ∧ ∃ (c l : Addr) (ls : List Int), MAt H' m c l n ∧ H' l = some (.lst (ls.map V.int)) ∧ ls.length = j, ?_, ?_⟩
    · obtain ⟨c, l, M⟩ := M
      obtain ⟨ls, hl, _⟩ := M.ls
      exact ⟨ls.length, rfl, Ef.refl, c, l, ls, M, hl, rfl⟩
    · rintro j σ H1 ⟨rfl, e1, c, l, ls, M1, hl, rfl⟩
      refine ⟨_, rfl, m, _, rfl, M1.left, rd_ne_nil hl fun p hp => ?_⟩
      have s2 := same_upd hp (.lst [])
      have lp : l ≠ p := ne_of_none hl hp
      have M2 : MS (upd H1 p (.lst [])) m n := MS.same ⟨c, l, M1⟩ s2
      have e2 : Ef m H (upd H1 p (.lst [])) := e1.trans (Ef.ofSame ⟨c, l, M1⟩ s2)
      cases ls with
      | nil => exact ⟨_, rfl, iteF (iteF ⟨rfl, M2, e2⟩)⟩
      | cons z r =>
        obtain ⟨c', l', M2'⟩ := M2
        have dk2 := s2 _ _ M1.dk
        rw [M2'.dk] at dk2
        have ecl : c' = c ∧ l' = l := by
          have q := HO.dK.inj (Option.some.inj dk2)
          simp [mKvs] at q
          exact q
        obtain ⟨rfl, rfl⟩ := ecl
        have hl2 := s2 _ _ hl
        refine ⟨_, rfl, iteT ?_⟩
        refine ⟨_, rfl, m, _, rfl, M2'.left, l', _, _, V.int z, rfl, rfl, SqL.of hl2, at_zero, rfl, _, rfl, ?_⟩
        refine ite2 (fun _ => ?_) (fun _ => ⟨rfl, ⟨c', l', M2'⟩, e2⟩)
        refine ⟨fun σ' H' => σ' = [some (.ref m), some (.int many), none, none, none, none] ∧ Ef m H H' ∧ ∃ (c l : Addr) (ls : List Int), MAt H' m c l n ∧ H' l = some (.lst (ls.map V.int)) ∧ ls.length = r.length, ?_, ?_⟩
        · rintro σ' H' ⟨a1, a2, a3⟩
          exact ⟨r.length, Nat.lt_succ_self _, a1, a2, a3⟩
        · refine ⟨_, rfl, m, _, rfl, M2'.left, 1, rfl, l', _, rfl, SqL.of hl2, fun q hq => ?_⟩
          rw [cut_tail]
          have mq : m ≠ q := ne_of_none M2'.dk hq
          have s3 := same_upd hq (.lst (r.map V.int))
          refine ⟨_, rfl, m, _, rfl, DPut.k (k := kLeft) (s3 _ _ M2'.dk) (by show 3 < sizeLine; decide), ?_⟩
          have ep : putK (mKvs c' l' n) kLeft (.ref q) = mKvs c' q n := put3_2
          rw [ep]
          obtain ⟨cs, hc, hc2⟩ := M2'.cs
          obtain ⟨ls', hl3, hl4, hl5⟩ := M2'.ls
          have els : ls' = z :: r := map_int_inj (HO.lst.inj (Option.some.inj (hl3.symm.trans hl2)))
          subst els
          have cq : c' ≠ q := ne_of_none hc hq
          have cm : c' ≠ m := ne_of hc M2'.dk (by intro w; cases w)
          refine ⟨rfl, ?_, c', q, r, ⟨upd_same, ⟨cs, ?_, hc2⟩, ⟨r, ?_, ?_, ?_⟩, cq⟩, ?_, rfl⟩
          · refine e2.trans ⟨fun b o hb h1 _ => ?_, fun b hb => ?_, fun o ho => ⟨_, upd_same⟩⟩
            · rw [upd_ne h1, upd_ne (ne_of_none hb hq)]
              exact hb
            · obtain ⟨kvs, kk, w1, w2⟩ := hb
              rw [upd_same] at w1
              cases w1
              rcases mKvs_ref w2 with q1 | q1
              · rw [q1]
                exact .inl M2'.ownC
              · rw [q1]
                exact .inr hq
          · rw [upd_ne cm, upd_ne cq]
            exact hc
          · rw [upd_ne (Ne.symm mq), upd_same]
          · simp at hl4
            omega
          · exact fun y hy => hl5 y (List.mem_cons_of_mem _ hy)
          · rw [upd_ne (Ne.symm mq), upd_same]
  · rintro σ H1 ⟨rfl, M1, e1⟩
    obtain ⟨c, l, M1⟩ := M1
    obtain ⟨ls, hl, hl4, hl5⟩ := M1.ls
    refine ⟨_, rfl, m, _, rfl, M1.left, rd_ne_nil hl fun p hp => ⟨_, rfl, ?_⟩⟩
    have s2 := same_upd hp (.lst [])
    have M2 : MAt (upd H1 p (.lst [])) m c l n := M1.same s2
    have e2 : Ef m H (upd H1 p (.lst [])) := e1.trans (Ef.ofSame ⟨c, l, M1⟩ s2)
    have hl2 := s2 _ _ hl
    have lm : l ≠ m := ne_of hl2 M2.dk (by intro w; cases w)
    cases ls with
    | cons z r =>
      refine iteT ?_
      refine ⟨_, rfl, m, _, rfl, M2.left, l, _, _, V.int z, rfl, rfl, SqL.of hl2, at_zero, .inl ⟨_, rfl, ?_⟩⟩
      refine ⟨_, rfl, _, rfl, _, _, rfl, rfl, ⟨h0, log_ok h0 h9⟩, _, rfl, m, _, rfl, M2.left, l, _, 0, 0, rfl, rfl, hl2, by simp [ixN], ?_⟩
      refine ⟨_, rfl, _, rfl, _, _, rfl, rfl, by omega, ?_⟩
      refine k _ n _ (Int.fmod_nonneg_of_pos _ h0) (Int.fmod_lt_of_pos _ h0) (Nat.le_succ n) ⟨c, l, ?_, ?_, ⟨(z / many) :: r, ?_, hl4, ?_⟩, M2.cl⟩ (e2.trans ⟨fun b o hb h1 h2 => ?_, fun b hb => ?_, fun o ho => ⟨o, ?_⟩⟩)
      · rw [upd_ne (Ne.symm lm)]
        exact M2.dk
      · obtain ⟨cs, hc, hc2⟩ := M2.cs
        exact ⟨cs, by rw [upd_ne M2.cl]; exact hc, hc2⟩
      · rw [upd_same]
        all_goals rfl
      · intro y hy
        rcases List.mem_cons.mp hy with q | q
        · rw [q]
          exact Int.ediv_nonneg (hl5 z List.mem_cons_self) (by omega)
        · exact hl5 y (List.mem_cons_of_mem _ q)
      · rw [upd_ne (fun q => h2 (by rw [q]; exact M2.ownL))]
        exact hb
      · exact .inl (hb.upd (Ne.symm lm))
      · rw [upd_ne (Ne.symm lm)]
        exact ho
    | nil =>
      refine iteF ?_
      refine ⟨_, rfl, m, _, rfl, M2.at, _, _, rfl, rfl, ?_⟩
      refine ⟨_, rfl, _, rfl, m, _, rfl, DPut.k (k := kAt) M2.dk (by show 3 < sizeLine; decide), ?_⟩
      have ep : putK (mKvs c l n) kAt (.int ((n : Int) + 1)) = mKvs c l (n + 1) := put3_3
      rw [ep]
      have M3 : MAt (upd (upd H1 p (.lst [])) m (.dK (mKvs c l (n + 1)))) m c l (n + 1) := by
        obtain ⟨cs, hc, hc2⟩ := M2.cs
        obtain ⟨ls', q1, q2, q3⟩ := M2.ls
        exact ⟨upd_same, ⟨cs, by rw [upd_ne (ne_of hc M2.dk (by intro w; cases w))]; exact hc, hc2⟩, ⟨ls', by rw [upd_ne lm]; exact q1, q2, q3⟩, M2.cl⟩
      have e3 : Ef m H (upd (upd H1 p (.lst [])) m (.dK (mKvs c l (n + 1)))) := by
        refine e2.trans ⟨fun b o hb h1 _ => by rw [upd_ne h1]; exact hb, fun b hb => ?_, fun o _ => ⟨_, upd_same⟩⟩
        obtain ⟨kvs, kk, w1, w2⟩ := hb
        rw [upd_same] at w1
        cases w1
        rcases mKvs_ref w2 with q1 | q1
        · rw [q1]
          exact .inl M2.ownC
        · rw [q1]
          exact .inl M2.ownL
      dsimp only
      refine seq_cut (fun v H' => ∃ i : Int, v = .int i ∧ MS H' m (n + 1) ∧ Ef m H H') (fun Q' k' => ?_) ?_
      · obtain ⟨cs, hc, hc2⟩ := M3.cs
        refine ⟨_, rfl, m, _, rfl, M3.cells, rd_ne_nil hc fun q hq => ⟨_, rfl, ?_⟩⟩
        have s4 := same_upd hq (.lst [])
        have M4 := M3.same s4
        have e4 := e3.trans (Ef.ofSame ⟨c, l, M3⟩ s4)
        have hc4 := s4 _ _ hc
        cases cs with
        | nil => exact iteF (k' _ _ ⟨3, rfl, ⟨c, l, M4⟩, e4⟩)
        | cons z r =>
          refine iteT ?_
          have hp0 : (0 : Int) < (((z :: r).map V.int).length : Int) := by
            rw [List.length_map, List.length_cons]
            omega
          obtain ⟨v, hv⟩ := at_mod (n + 1 : Int) (xs := z :: r) hp0
          refine ⟨_, rfl, m, _, rfl, M4.cells, _, rfl, .inl ⟨_, rfl, _, rfl, m, _, rfl, M4.cells, c, _, rfl, .inl (SqL.of hc4), _, _, rfl, rfl, by omega, c, _, _, V.int v, rfl, rfl, SqL.of hc4, hv, ?_⟩⟩
          exact k' _ _ ⟨v, rfl, ⟨c, l, M4⟩, e4⟩
      · rintro v H4 ⟨i, rfl, M4, e4⟩
        have z0 : (0 : Int) ≤ (n : Int) + 1 := by omega
        have z1 : ((n : Int) + 1) < 2 ^ 41 := by
          have hn' : ((n : Nat) : Int) < ((2 ^ 40 : Nat) : Int) := Int.ofNat_lt.mpr hn
          have : ((2 ^ 40 : Nat) : Int) = 1099511627776 := by decide
          omega
        refine ⟨_, rfl, .inl ⟨_, rfl, _, _, rfl, rfl, by omega, _, rfl, _, _, rfl, rfl, .inl (by decide), _, _, rfl, rfl, ?_⟩⟩
        refine ⟨_, rfl, _, _, rfl, rfl, .inl (by decide), _, rfl, _, _, rfl, rfl, .inl (by constructor <;> omega), _, _, rfl, rfl, .inl ⟨_, rfl, _, _, rfl, rfl, .inr (by decide), ?_⟩⟩
        refine ⟨_, rfl, .inl ⟨_, rfl, _, _, rfl, rfl, by omega, _, rfl, _, _, rfl, rfl, .inl (by decide), _, _, rfl, rfl, .inl ⟨_, rfl, _, _, rfl, rfl, .inr (by decide), ?_⟩⟩⟩
        refine ⟨_, rfl, .inl ⟨_, rfl, _, _, rfl, rfl, by omega, _, _, rfl, rfl, ⟨by decide, by decide⟩, .inl ⟨_, rfl, _, rfl, _, _, rfl, rfl, by omega, ?_⟩⟩⟩
        exact k _ (n + 1) _ (Int.fmod_nonneg_of_pos _ h0) (Int.fmod_lt_of_pos _ h0) (Nat.le_refl _) M4 e4
end
section
variable {P : Program} {w : World} {K : PySem.W.Frag} {mg : Str → Option Value} {base : Heap}
theorem ok__law_fault (T : Top w K mg) : FnOk P w K mg base CX0 1 T.a__law_fault T.d__law_fault ["e"] (sp_fault2 K T.x_BadText.C) := by
  refine T.F__law_fault.ok sc__law_fault (fun vs H Q E h => ?_) (fun cdv A outer s H vs Q E hr h => ?_)
  · obtain ⟨a, cls, d, rfl, ha, hf⟩ := h
    rfl
  obtain ⟨a, cls, d, rfl, ha, hf⟩ := h
  refine ⟨_, (pss_cons (ps_set (i := 1) sc__law_fault.nd rfl (Or.inl rfl) (pe_lst pa_nil))
      (Evl.pss_cut (ps_if (pt_val (pe_callB (k_isX (K := K)) (by rfl) T.z_isinstance bt_isinstance (pa_cons (pv 0) (pa_cons (pe_glob (v := .ref T.k_BadLoops) (by rfl) T.n_BadLoops rfl) pa_nil)))) (pss_one (ps_expr (pe_bm PySem.F.plainAttrs_list PySem.F.slot_list_append PySem.F.type_list_append mt_append (pv 1) (pa_cons (pe_tup (pa_cons pe_str (pa_cons (pe_xh (K := K) (pv 0)) pa_nil))) pa_nil)))) pss_nil)
      (Evl.pss_cut (ps_if (pt_val (pe_callB (k_isX (K := K)) (by rfl) T.z_isinstance bt_isinstance (pa_cons (pv 0) (pa_cons (pe_glob (v := .ref T.k_BadLengths) (by rfl) T.n_BadLengths rfl) pa_nil)))) (pss_one (ps_expr (pe_bm PySem.F.plainAttrs_list PySem.F.slot_list_append PySem.F.type_list_append mt_append (pv 1) (pa_cons (pe_tup (pa_cons pe_str (pa_cons (pe_xh (K := K) (pv 0)) pa_nil))) pa_nil)))) pss_nil)
      (Evl.pss_cut (ps_if (pt_val (pe_callB (k_isX (K := K)) (by rfl) T.z_isinstance bt_isinstance (pa_cons (pv 0) (pa_cons (pe_glob (v := .ref T.k_BadPedal) (by rfl) T.n_BadPedal rfl) pa_nil)))) (pss_one (ps_expr (pe_bm PySem.F.plainAttrs_list PySem.F.slot_list_append PySem.F.type_list_append mt_append (pv 1) (pa_cons (pe_tup (pa_cons pe_str (pa_cons (pe_xh (K := K) (pv 0)) pa_nil))) pa_nil)))) pss_nil)
      (Evl.pss_cut (ps_if (pt_val (pe_callB (k_isX (K := K)) (by rfl) T.z_isinstance bt_isinstance (pa_cons (pv 0) (pa_cons (pe_glob (v := .ref T.k_BadRow) (by rfl) T.n_BadRow rfl) pa_nil)))) (pss_one (ps_expr (pe_bm PySem.F.plainAttrs_list PySem.F.slot_list_append PySem.F.type_list_append mt_append (pv 1) (pa_cons (pe_tup (pa_cons pe_str (pa_cons (pe_xh (K := K) (pv 0)) pa_nil))) pa_nil)))) pss_nil)
      (Evl.pss_cut (ps_if (pt_val (pe_callB (k_isX (K := K)) (by rfl) T.z_isinstance bt_isinstance (pa_cons (pv 0) (pa_cons (pe_glob (v := .ref T.k_BadPaper) (by rfl) T.n_BadPaper rfl) pa_nil)))) (pss_one (ps_expr (pe_bm PySem.F.plainAttrs_list PySem.F.slot_list_append PySem.F.type_list_append mt_append (pv 1) (pa_cons (pe_tup (pa_cons pe_str (pa_cons (pe_xh (K := K) (pv 0)) pa_nil))) pa_nil)))) pss_nil)
      (Evl.pss_cut (ps_if (pt_val (pe_callB (k_isX (K := K)) (by rfl) T.z_isinstance bt_isinstance (pa_cons (pv 0) (pa_cons (pe_glob (v := .ref T.x_BadText.C) (by rfl) T.x_BadText.m rfl) pa_nil)))) (pss_one (ps_expr (pe_bm PySem.F.plainAttrs_list PySem.F.slot_list_append PySem.F.type_list_append mt_append (pv 1) (pa_cons (pe_tup (pa_cons pe_str (pa_cons (pe_xh (K := K) (pv 0)) (pa_cons (pe_xh (K := K) (pv 0)) pa_nil)))) pa_nil)))) pss_nil)
      (Evl.pss_cut (ps_if (pt_val (pe_callB (k_isX (K := K)) (by rfl) T.z_isinstance bt_isinstance (pa_cons (pv 0) (pa_cons (pe_glob (v := .ref T.k_OutOfPlace) (by rfl) T.n_OutOfPlace rfl) pa_nil)))) (pss_one (ps_expr (pe_bm PySem.F.plainAttrs_list PySem.F.slot_list_append PySem.F.type_list_append mt_append (pv 1) (pa_cons (pe_tup (pa_cons pe_str (pa_cons pe_non pa_nil))) pa_nil)))) pss_nil)
      (Evl.pss_cut (ps_if (pt_val (pe_callB (k_isX (K := K)) (by rfl) T.z_isinstance bt_isinstance (pa_cons (pv 0) (pa_cons (pe_glob (v := .ref T.k_TooGreat) (by rfl) T.n_TooGreat rfl) pa_nil)))) (pss_one (ps_expr (pe_bm PySem.F.plainAttrs_list PySem.F.slot_list_append PySem.F.type_list_append mt_append (pv 1) (pa_cons (pe_tup (pa_cons pe_str (pa_cons (pe_xh (K := K) (pv 0)) pa_nil))) pa_nil)))) pss_nil)
      (Evl.pss_cut (ps_if (pt_val (pe_callB (k_isX (K := K)) (by rfl) T.z_isinstance bt_isinstance (pa_cons (pv 0) (pa_cons (pe_glob (v := .ref T.k_Nothing) (by rfl) T.n_Nothing rfl) pa_nil)))) (pss_one (ps_expr (pe_bm PySem.F.plainAttrs_list PySem.F.slot_list_append PySem.F.type_list_append mt_append (pv 1) (pa_cons (pe_tup (pa_cons pe_str (pa_cons pe_non pa_nil))) pa_nil)))) pss_nil)
      (pss_one (ps_ret (pe_ifExp (pt_cmpR op_eq (pe_callB (k_len (K := K)) (by rfl) T.z_len bt_len (pa_cons (pv 1) pa_nil)) pe_int (nomark _)) (pe_ix (k_ixL (K := K)) (pv 1) pe_int (fun _ _ => rfl)) (pe_tup (pa_cons pe_str (pa_cons pe_non pa_nil)))))))))))))))), ?_⟩
  obtain ⟨rfl, dd, w1, w2, rfl, hx, kk⟩ := hf
  refine ⟨(by show 0 ≤ sizeLine; decide), fun p hp => ?_⟩
  have s1 := same_upd hp (.lst [])
  have hp1 : upd H p (.lst []) p = some (.lst []) := upd_same
  have ha1 := s1 _ _ ha
  have ap : a ≠ p := ne_of_none ha hp
  have hx1 := s1 _ _ hx
  have dp : dd ≠ p := ne_of_none hx hp
  generalize upd H p (.lst []) = G at s1 hp1 ha1 hx1 ⊢
  refine ⟨fun σ' H' => σ' = [some (.ref a), some (.ref p)] ∧ H' p = some (.lst []) ∧ H' a = some (exI a (.ref T.x_BadText.C) (some dd)) ∧ H' dd = some (.xd [("word", w2), ("line", w1)]) ∧ Same H H', ⟨_, rfl, a, T.x_BadText.C, _, T.k_BadLoops, false, rfl, ha1, (.inr ⟨dd, _, rfl, hx1⟩), T.e_BadText, kit_apart T.x_BadText.te T.y_BadText_BadLoops, false, rfl, iteF ⟨rfl, hp1, ha1, hx1, s1⟩⟩, ?_⟩
  rintro σ' G ⟨rfl, hp1, ha1, hx1, s1⟩
  refine ⟨fun σ' H' => σ' = [some (.ref a), some (.ref p)] ∧ H' p = some (.lst []) ∧ H' a = some (exI a (.ref T.x_BadText.C) (some dd)) ∧ H' dd = some (.xd [("word", w2), ("line", w1)]) ∧ Same H H', ⟨_, rfl, a, T.x_BadText.C, _, T.k_BadLengths, false, rfl, ha1, (.inr ⟨dd, _, rfl, hx1⟩), T.e_BadText, kit_apart T.x_BadText.te T.y_BadText_BadLengths, false, rfl, iteF ⟨rfl, hp1, ha1, hx1, s1⟩⟩, ?_⟩
  rintro σ' G ⟨rfl, hp1, ha1, hx1, s1⟩
  refine ⟨fun σ' H' => σ' = [some (.ref a), some (.ref p)] ∧ H' p = some (.lst []) ∧ H' a = some (exI a (.ref T.x_BadText.C) (some dd)) ∧ H' dd = some (.xd [("word", w2), ("line", w1)]) ∧ Same H H', ⟨_, rfl, a, T.x_BadText.C, _, T.k_BadPedal, false, rfl, ha1, (.inr ⟨dd, _, rfl, hx1⟩), T.e_BadText, kit_apart T.x_BadText.te T.y_BadText_BadPedal, false, rfl, iteF ⟨rfl, hp1, ha1, hx1, s1⟩⟩, ?_⟩
  rintro σ' G ⟨rfl, hp1, ha1, hx1, s1⟩
  refine ⟨fun σ' H' => σ' = [some (.ref a), some (.ref p)] ∧ H' p = some (.lst []) ∧ H' a = some (exI a (.ref T.x_BadText.C) (some dd)) ∧ H' dd = some (.xd [("word", w2), ("line", w1)]) ∧ Same H H', ⟨_, rfl, a, T.x_BadText.C, _, T.k_BadRow, false, rfl, ha1, (.inr ⟨dd, _, rfl, hx1⟩), T.e_BadText, kit_apart T.x_BadText.te T.y_BadText_BadRow, false, rfl, iteF ⟨rfl, hp1, ha1, hx1, s1⟩⟩, ?_⟩
  rintro σ' G ⟨rfl, hp1, ha1, hx1, s1⟩
  refine ⟨fun σ' H' => σ' = [some (.ref a), some (.ref p)] ∧ H' p = some (.lst []) ∧ H' a = some (exI a (.ref T.x_BadText.C) (some dd)) ∧ H' dd = some (.xd [("word", w2), ("line", w1)]) ∧ Same H H', ⟨_, rfl, a, T.x_BadText.C, _, T.k_BadPaper, false, rfl, ha1, (.inr ⟨dd, _, rfl, hx1⟩), T.e_BadText, kit_apart T.x_BadText.te T.y_BadText_BadPaper, false, rfl, iteF ⟨rfl, hp1, ha1, hx1, s1⟩⟩, ?_⟩
  rintro σ' G ⟨rfl, hp1, ha1, hx1, s1⟩
  refine ⟨fun σ' H' => σ' = [some (.ref a), some (.ref p)] ∧ (∃ p2, H' p = some (.lst [.ref p2]) ∧ SqT K H' p2 [.str "text", w1, w2]) ∧ H' a = some (exI a (.ref T.x_BadText.C) (some dd)) ∧ H' dd = some (.xd [("word", w2), ("line", w1)]) ∧ Same H H', ⟨_, rfl, a, T.x_BadText.C, _, T.x_BadText.C, true, rfl, ha1, (.inr ⟨dd, _, rfl, hx1⟩), T.e_BadText, kit_me, true, rfl, iteT ?_⟩, ?_⟩
  · refine ⟨_, rfl, .inl ⟨rfl, _, SqL.of hp1⟩, _, rfl, a, T.x_BadText.C, dd, _, w1, rfl, ha1, T.x_BadText.xf, T.x_BadText.nf, hx1, rfl, _, rfl, a, T.x_BadText.C, dd, _, w2, rfl, ha1, T.x_BadText.xf, T.x_BadText.nf2, hx1, rfl, (by show 3 ≤ sizeLine; decide), fun p2 hp2 => ?_⟩
    have s2 := same_upd hp2 (.tup [.str "text", w1, w2])
    have hq2 : SqT K (upd G p2 (.tup [.str "text", w1, w2])) p2 [.str "text", w1, w2] := SqT.of upd_same
    refine ⟨p, _, _, rfl, rfl, s2 _ _ hp1, small1000 (by show 0 ≤ 1000; decide), rfl, ⟨p2, upd_same, tk_upd (s2 _ _ hp1) _ _ hq2⟩, ?_, ?_, fun b o e => ?_⟩
    · rw [upd_ne ap]
      exact s2 _ _ ha1
    · rw [upd_ne dp]
      exact s2 _ _ hx1
    · rw [upd_ne (ne_of_none e hp)]
      exact s2 _ _ (s1 _ _ e)
  rintro σ' G ⟨rfl, ⟨p2, hp1, hq1⟩, ha1, hx1, s1⟩
  refine ⟨fun σ' H' => σ' = [some (.ref a), some (.ref p)] ∧ (∃ p2, H' p = some (.lst [.ref p2]) ∧ SqT K H' p2 [.str "text", w1, w2]) ∧ H' a = some (exI a (.ref T.x_BadText.C) (some dd)) ∧ H' dd = some (.xd [("word", w2), ("line", w1)]) ∧ Same H H', ⟨_, rfl, a, T.x_BadText.C, _, T.k_OutOfPlace, false, rfl, ha1, (.inr ⟨dd, _, rfl, hx1⟩), T.e_BadText, kit_apart T.x_BadText.te T.y_BadText_OutOfPlace, false, rfl, iteF ⟨rfl, ⟨p2, hp1, hq1⟩, ha1, hx1, s1⟩⟩, ?_⟩
  rintro σ' G ⟨rfl, ⟨p2, hp1, hq1⟩, ha1, hx1, s1⟩
  refine ⟨fun σ' H' => σ' = [some (.ref a), some (.ref p)] ∧ (∃ p2, H' p = some (.lst [.ref p2]) ∧ SqT K H' p2 [.str "text", w1, w2]) ∧ H' a = some (exI a (.ref T.x_BadText.C) (some dd)) ∧ H' dd = some (.xd [("word", w2), ("line", w1)]) ∧ Same H H', ⟨_, rfl, a, T.x_BadText.C, _, T.k_TooGreat, false, rfl, ha1, (.inr ⟨dd, _, rfl, hx1⟩), T.e_BadText, kit_apart T.x_BadText.te T.y_BadText_TooGreat, false, rfl, iteF ⟨rfl, ⟨p2, hp1, hq1⟩, ha1, hx1, s1⟩⟩, ?_⟩
  rintro σ' G ⟨rfl, ⟨p2, hp1, hq1⟩, ha1, hx1, s1⟩
  refine ⟨fun σ' H' => σ' = [some (.ref a), some (.ref p)] ∧ (∃ p2, H' p = some (.lst [.ref p2]) ∧ SqT K H' p2 [.str "text", w1, w2]) ∧ H' a = some (exI a (.ref T.x_BadText.C) (some dd)) ∧ H' dd = some (.xd [("word", w2), ("line", w1)]) ∧ Same H H', ⟨_, rfl, a, T.x_BadText.C, _, T.k_Nothing, false, rfl, ha1, (.inr ⟨dd, _, rfl, hx1⟩), T.e_BadText, kit_apart T.x_BadText.te T.y_BadText_Nothing, false, rfl, iteF ⟨rfl, ⟨p2, hp1, hq1⟩, ha1, hx1, s1⟩⟩, ?_⟩
  rintro σ' G ⟨rfl, ⟨p2, hp1, hq1⟩, ha1, hx1, s1⟩
  exact ⟨_, rfl, p, _, rfl, .inl (SqL.of hp1), rfl, _, rfl, iteP rfl ⟨_, rfl, p, _, _, _, rfl, rfl, SqL.of hp1, at_zero, kk _ _ s1 hq1⟩⟩
end
section
variable {P : Program} {w : World} {K : PySem.W.Frag} {mg : Str → Option Value} {base : Heap}
theorem ok__law_text_of (T : Top w K mg) : FnOk P w K mg base CX0 1 T.a__law_text_of T.d__law_text_of ["row"] (sp__law_text_of K) := by
  refine T.F__law_text_of.ok sc__law_text_of (fun vs H Q E h => ?_) (fun cdv A outer s H vs Q E hr h => ?_)
  · obtain ⟨v, row, rfl, hv, ok, k⟩ := h
    rfl
  obtain ⟨v, row, rfl, hv, ok, k⟩ := h
  refine ⟨_, (pss_cons (ps_set (i := 1) sc__law_text_of.nd rfl (Or.inl rfl) (pe_lst pa_nil))
      (pss_cons (ps_for PassesOwn.never rfl (k_piT (K := K) (pv 0)) (pg_name (i := 2) sc__law_text_of.nd rfl (Or.inl rfl)) (pss_cons (ps_setLc (i := 3) (own := [("press", 4)]) rfl sc__law_text_of.nd rfl rfl (sw_true rfl rfl rfl (by decide +kernel)) (k_piT (K := K) (pv 2)) (blkOk_by (own := [("press", 4)]) (N := ["row", "lines", "step", "parts", "press", "thing"]) (sc := defScope s__law_text_of) (by decide +kernel)) (fun _ _ _ _ _ => (pg_name (i := 4) sc__law_text_of.nd rfl (Or.inl rfl))) (fun _ _ _ _ _ => pts_nil) (fun _ _ _ _ _ => (k_join (K := K) pe_str (pe_lc (own := [("thing", 5)]) rfl sc__law_text_of.nd (k_piT (K := K) (pv 4)) (by exact blkOk_by (by rfl)) (fun _ _ _ _ _ => (pg_name (i := 5) sc__law_text_of.nd rfl (Or.inl rfl))) (fun _ _ _ _ _ => pts_nil) (fun _ _ _ _ _ => (pe_callTy k_strA (by rfl) T.z_str bt_str (pa_cons (pv 5) pa_nil)))))))
      (pss_one (ps_expr (pe_bm PySem.F.plainAttrs_list PySem.F.slot_list_append PySem.F.type_list_append mt_append (pv 1) (pa_cons (pe_ifExp (pt_cmpR (op_neL0 (K := K) hr.units) (pv 3) (pe_lst pa_nil) (nomark _)) (k_join (K := K) pe_str (pv 3)) pe_str) pa_nil))))))
      (pss_one (ps_ret (k_join (K := K) pe_str (pv 1)))))), ?_⟩
  obtain ⟨a, xs, rfl, hT, hX⟩ := id hv.tuple
  have hlx := hX.len
  rw [List.length_map] at hlx
  have l200 := ok.l
  refine ⟨(by show 0 ≤ sizeLine; decide), fun L hL => ?_⟩
  have sL := same_upd hL (.lst [])
  refine ⟨_, rfl, a, rfl, ⟨_, Same.tk sL _ _ hT⟩, ?_⟩
  refine for_it walk_tup (fun l σ H' => ∃ w2 w3 w4 w5, σ = [some (.ref a), some (.ref L), w2, w3, w4, w5] ∧ H' L = some (.lst (((row.map stT).take l).map V.str)) ∧ Same H H') ⟨none, none, none, none, rfl, upd_same, sL⟩ (fun l σ H' _ ⟨_, _, _, _, _, _, s⟩ => Same.tk s _ _ hT) ?_ ?_
  · rintro l x σ H1 H2 hl ⟨w2, w3, w4, w5, rfl, hA, s1⟩ ⟨rfl, hx⟩
    obtain ⟨st, hst, hS⟩ := hX.map_get hx
    have mst := List.mem_of_getElem? hst
    have all := row_pr ok (by decide) st mst
    have l8 := (ok.s st mst).1
    obtain ⟨b, ys, rfl, hB, hY⟩ := id (hS.same_at s1).tuple
    have hly := hY.len
    rw [List.length_map] at hly
    refine ⟨_, rfl, b, rfl, ⟨_, hB⟩, fun D hD => ?_⟩
    refine lc_it walk_tup (fun j H' => H' D = some (.lst (((st.map prT).take j).map V.str)) ∧ Same H2 H') ⟨upd_same, same_upd hD _⟩ (fun j H' _ ⟨_, s⟩ => Same.tk s _ _ hB) ?_ ?_
    · rintro j x H3 H4 hj ⟨hC, s3⟩ ⟨rfl, hx⟩
      obtain ⟨p, hp, hP⟩ := hY.map_get hx
      have okp := all p (List.mem_of_getElem? hp)
      obtain ⟨c, rfl, hE⟩ := pr_xs (hP.same_at s3)
      obtain ⟨l3, lx, ls⟩ := parts_len p okp
      refine ⟨rfl, ⟨_, rfl⟩, _, rfl, c, rfl, ⟨_, hE⟩, fun D2 hD2 => ?_⟩
      refine lc_it walk_tup (fun o H' => H' D2 = some (.lst (((prParts p).take o).map V.str)) ∧ Same H4 H') ⟨upd_same, same_upd hD2 _⟩ (fun o H' _ ⟨_, s⟩ => Same.tk s _ _ hE) ?_ ?_
      · rintro o x H5 H6 ho ⟨hF, s5⟩ ⟨rfl, hx⟩
        obtain ⟨t, ht, q⟩ := xs_parts okp hx
        have nx : ∃ acc, H6 D2 = some (.lst acc) ∧ acc.length < sizeLine ∧ upd H6 D2 (.lst (acc ++ [V.str t])) D2 = some (.lst (((prParts p).take (o + 1)).map V.str)) ∧ Same H4 (upd H6 D2 (.lst (acc ++ [V.str t]))) := by
          refine ⟨_, hF, small1000 (by rw [List.length_map, List.length_take]; omega), ?_, fun b' o z => ?_⟩
          · rw [upd_same, take_str ht]
          · rw [upd_ne (ne_of_none z hD2)]
            exact s5 _ _ z
        refine ⟨rfl, _, rfl, x, rfl, ?_⟩
        rcases q with ⟨a, rfl, rfl⟩ | ⟨i, rfl, hi, rfl⟩
        · exact .inl ⟨_, rfl, nx⟩
        · exact .inr ⟨i, rfl, hi, nx⟩
      rintro H5 ⟨hF, s5⟩
      rw [lx, List.take_length] at hF
      refine ⟨_, D2, prParts p, rfl, rfl, .inl (SqL.of hF), (by show _ + _ * 1 ≤ _; omega), ?_⟩
      refine ⟨_, s5 _ _ hC, small1000 (by rw [List.length_map, List.length_take, List.length_map]; omega), ?_, fun b' o z => ?_⟩
      · rw [upd_same]
        exact congrArg (fun z => some (HO.lst z)) (take_str (t := prT p) (by rw [List.getElem?_map, hp]; rfl)).symm
      · rw [upd_ne (ne_of_none z hD)]
        exact s5 _ _ (s3 _ _ z)
    rintro H3 ⟨hC, s3⟩
    rw [show ys.length = (st.map prT).length by rw [List.length_map]; exact hly, List.take_length] at hC
    have hle : (((row.map stT).take l).map V.str).length ≤ 200 := by
      rw [List.length_map, List.length_take, List.length_map]
      omega
    have hst2 : (row.map stT)[l]? = some (stT st) := by
      rw [List.getElem?_map, hst]
      rfl
    refine ⟨_, rfl, .inl ⟨rfl, _, SqL.of (s3 _ _ hA)⟩, _, rfl, (by show 0 ≤ sizeLine; decide), fun p hp => ⟨D, p, _, rfl, rfl, SqL.of ((same_upd hp _) _ _ hC), SqL.of upd_same, _, rfl, ?_⟩⟩
    have s4 := same_upd hp (.lst [])
    by_cases he : st = []
    · subst he
      refine iteF ⟨L, _, _, rfl, rfl, s4 _ _ (s3 _ _ hA), small1000 (by omega), _, _, _, _, rfl, ?_, fun b' o z => ?_⟩
      · rw [upd_same]
        exact congrArg (fun z => some (HO.lst z)) (take_str hst2).symm
      · rw [upd_ne (ne_of_none z hL)]
        exact s4 _ _ (s3 _ _ (s1 _ _ z))
    have hne : (!((st.map prT).map V.str).isEmpty) = true := by
      cases st with
      | nil => exact absurd rfl he
      | cons z r => rfl
    rw [hne]
    have est : stT st = Txt.join ", " (st.map prT) := if_neg he
    refine iteT ⟨⟨_, rfl⟩, _, rfl, _, D, st.map prT, rfl, rfl, .inl (SqL.of (s4 _ _ hC)), ?_, L, _, _, rfl, rfl, s4 _ _ (s3 _ _ hA), small1000 (by omega), _, _, _, _, rfl, ?_, fun b' o z => ?_⟩
    · have z := st_sum l8 all
      rw [List.length_map]
      show _ + st.length * 2 ≤ 16777216
      omega
    · rw [upd_same, ← est]
      exact congrArg (fun z => some (HO.lst z)) (take_str hst2).symm
    · rw [upd_ne (ne_of_none z hL)]
      exact s4 _ _ (s3 _ _ (s1 _ _ z))
  rintro σ H1 ⟨w2, w3, w4, w5, rfl, hA, s1⟩
  rw [show xs.length = (row.map stT).length by rw [List.length_map]; exact hlx, List.take_length] at hA
  refine ⟨⟨_, rfl⟩, _, rfl, _, L, row.map stT, rfl, rfl, .inl (SqL.of hA), ?_, k H1 s1⟩
  have z := row_sum ok
  rw [List.length_map]
  show _ + row.length * 1 ≤ 16777216
  omega
end
section
variable {P : Program} {w : World} {K : PySem.W.Frag} {mg : Str → Option Value} {base : Heap}
theorem ok__law_press_in (T : Top w K mg) : FnOk P w K mg base CX0 1 T.a__law_press_in T.d__law_press_in ["part"] (sp__law_press_in K) := by
  refine T.F__law_press_in.ok sc__law_press_in (fun vs H Q E h => ?_) (fun cdv A outer s H vs Q E hr h => ?_)
  · obtain ⟨s, rfl, k⟩ := h
    rfl
  obtain ⟨s, rfl, k⟩ := h
  refine ⟨_, (pss_cons (ps_for PassesOwn.never rfl (k_piT (K := K) (pe_tup (pa_cons pe_str (pa_cons pe_str (pa_cons pe_str (pa_cons pe_str pa_nil)))))) (pg_name (i := 1) sc__law_press_in.nd rfl (Or.inl rfl)) (pss_cons (ps_for PassesOwn.never rfl (k_piT (K := K) (pe_tup (pa_cons pe_str (pa_cons pe_str (pa_cons pe_str (pa_cons pe_str (pa_cons pe_str (pa_cons pe_str (pa_cons pe_str (pa_cons pe_str (pa_cons pe_str pa_nil))))))))))) (pg_name (i := 2) sc__law_press_in.nd rfl (Or.inl rfl)) (pss_one (ps_if (pt_cmpR op_eq (pv 0) (pe_op op_add_str (pe_op op_add_str (pv 2) pe_str) (pv 1)) (nomark _)) (pss_one (ps_ret (pe_lst (pa_cons (pe_tup (pa_cons (pv 2) (pa_cons (pe_callTy call_int_str (by rfl) T.z_int bt_int (pa_cons (pv 1) pa_nil)) pa_nil))) pa_nil)))) pss_nil)))
      (pss_one (ps_for PassesOwn.never rfl (k_piT (K := K) (pe_tup (pa_cons pe_str (pa_cons pe_str (pa_cons pe_str pa_nil))))) (pg_name (i := 3) sc__law_press_in.nd rfl (Or.inl rfl)) (pss_one (ps_if (pt_cmpR op_eq (pv 0) (pe_op op_add_str (pe_op op_add_str (pe_op op_add_str pe_str (pv 1)) pe_str) (pv 3)) (nomark _)) (pss_one (ps_ret (pe_lst (pa_cons (pe_tup (pa_cons pe_str (pa_cons (pe_callTy call_int_str (by rfl) T.z_int bt_int (pa_cons (pv 1) pa_nil)) (pa_cons (pe_callTy call_int_str (by rfl) T.z_int bt_int (pa_cons (pv 3) pa_nil)) pa_nil)))) pa_nil)))) pss_nil))))))
      (pss_one (ps_ret (pe_lst pa_nil)))), ?_⟩
  refine ⟨(by show 4 ≤ sizeLine; decide), fun A hA => ⟨A, rfl, ⟨_, SqT.of upd_same⟩, ?_⟩⟩
  have sA := same_upd hA (.tup [.str "0", .str "1", .str "2", .str "3"])
  have hA0 : SqT K (upd H A (.tup [.str "0", .str "1", .str "2", .str "3"])) A (dgs.map V.str) := SqT.of upd_same
  generalize upd H A (.tup [.str "0", .str "1", .str "2", .str "3"]) = H0 at sA hA0 ⊢
  refine for_it (walk_tup (xs := dgs.map V.str)) (fun j σ H' => ∃ w1 w2 w3, σ = [some (.str s), w1, w2, w3] ∧ Same H0 H' ∧ ∀ p ∈ allPr 4, p.at < j → prT p ≠ s) ⟨none, none, none, rfl, Same.refl _, fun p _ h => absurd h (Nat.not_lt_zero _)⟩ (fun j σ H' _ ⟨_, _, _, _, s, _⟩ => Same.tk s _ _ hA0) ?_ ?_
  · rintro j x σ H1 H2 hj ⟨w1, w2, w3, rfl, s1, hno⟩ ⟨rfl, hx⟩
    rw [List.getElem?_map] at hx
    obtain ⟨t, ht, rfl⟩ := Option.map_eq_some_iff.mp hx
    obtain ⟨j4, tl, ti, tw, tp⟩ := dg_at ht
    refine ⟨(by show 9 ≤ sizeLine; decide), fun B hB => ⟨B, rfl, ⟨_, SqT.of upd_same⟩, ?_⟩⟩
    have sB := same_upd hB (.tup [.str "tap", .str "stop", .str "clear", .str "undo", .str "redo", .str "join", .str "turn", .str "flip", .str "mute"])
    have hB0 : SqT K (upd H2 B (.tup [.str "tap", .str "stop", .str "clear", .str "undo", .str "redo", .str "join", .str "turn", .str "flip", .str "mute"])) B (allD.map fun d => V.str d.s) := SqT.of upd_same
    generalize upd H2 B (.tup [.str "tap", .str "stop", .str "clear", .str "undo", .str "redo", .str "join", .str "turn", .str "flip", .str "mute"]) = HB at sB hB0 ⊢
    have s2 := s1.trans sB
    refine for_it (walk_tup (xs := allD.map fun d => V.str d.s)) (fun i σ H' => ∃ w2, σ = [some (.str s), some (.str t), w2, w3] ∧ Same HB H' ∧ ∀ d ∈ allD.take i, prT (.d d j) ≠ s) ⟨w2, rfl, Same.refl _, fun d h => by cases h⟩ (fun i σ H' _ ⟨_, _, s, _⟩ => Same.tk s _ _ hB0) ?_ ?_
    · rintro i x σ H3 H4 hi ⟨w2, rfl, s3, hnw⟩ ⟨rfl, hx⟩
      rw [List.getElem?_map] at hx
      obtain ⟨d, hd, rfl⟩ := Option.map_eq_some_iff.mp hx
      obtain ⟨dl, de⟩ := tw d
      refine ⟨_, rfl, _, rfl, _, _, rfl, rfl, ?_, _, rfl, _, _, rfl, rfl, ?_, rfl, _, rfl, ?_⟩
      · rw [sizeLine_eq, show (" " : Str).length = 1 by decide +kernel]
        omega
      · rw [sizeLine_eq, TL.len_tl, TL.tl_append, List.length_append, ← TL.len_tl, ← TL.len_tl, show (" " : Str).length = 1 by decide +kernel]
        omega
      rw [de]
      by_cases e : s = prT (.d d j)
      · refine iteP (by rw [e]) ?_
        have mp : Pr.d d j ∈ allPr 4 := all_pr ⟨j4, fun a n e => by cases e⟩
        refine ⟨_, rfl, _, rfl, t, _, rfl, ti, by omega, (by show 2 ≤ sizeLine; decide), fun q hq => ⟨(by show 1 ≤ sizeLine; decide), fun p hp => k p [.ref q] _ (sA.trans (s2.trans (s3.trans ((same_upd hq _).trans (same_upd hp _))))) upd_same ?_⟩⟩
        rw [e, findP_of mp]
        exact ⟨_, rfl, .tup (SqT.of ((same_upd hp _) _ _ upd_same)) (.cons (.str _) (.cons (.int _) .nil))⟩
      · refine iteN (fun z => e (V.str.inj z)) ⟨_, rfl, s3, fun d' hd' => ?_⟩
        rw [take_more hd] at hd'
        rcases List.mem_append.mp hd' with z | z
        · exact hnw d' z
        · rw [List.mem_singleton.mp z]
          exact fun z => e z.symm
    rintro σ H3 ⟨w2, rfl, s3, hnw⟩
    rw [List.length_map, List.take_length] at hnw
    refine ⟨(by show 3 ≤ sizeLine; decide), fun B3 hB3 => ⟨B3, rfl, ⟨_, SqT.of upd_same⟩, ?_⟩⟩
    have sC := same_upd hB3 (.tup [.str "1", .str "2", .str "4"])
    have hC0 : SqT K (upd H3 B3 (.tup [.str "1", .str "2", .str "4"])) B3 (sps.map V.str) := SqT.of upd_same
    generalize upd H3 B3 (.tup [.str "1", .str "2", .str "4"]) = HC at sC hC0 ⊢
    have s4 := s2.trans (s3.trans sC)
    refine for_it (walk_tup (xs := sps.map V.str)) (fun i σ H' => ∃ w3, σ = [some (.str s), some (.str t), w2, w3] ∧ Same HC H' ∧ ∀ n ∈ [(1 : Int), 2, 4].take i, prT (.p j n) ≠ s) ⟨w3, rfl, Same.refl _, fun d h => by cases h⟩ (fun i σ H' _ ⟨_, _, s, _⟩ => Same.tk s _ _ hC0) ?_ ?_
    · rintro i x σ H5 H6 hi ⟨w3, rfl, s5, hnp⟩ ⟨rfl, hx⟩
      rw [List.getElem?_map] at hx
      obtain ⟨u, hu, rfl⟩ := Option.map_eq_some_iff.mp hx
      obtain ⟨n, hn, ul, ui, ue⟩ := tp i u hu
      refine ⟨_, rfl, _, rfl, _, _, rfl, rfl, ?_, _, _, rfl, rfl, ?_, _, rfl, _, _, rfl, rfl, ?_, rfl, _, rfl, ?_⟩
      · rw [sizeLine_eq, show ("pace " : Str).length = 5 by decide +kernel]
        omega
      · rw [sizeLine_eq, TL.len_tl, TL.tl_append, List.length_append, ← TL.len_tl, ← TL.len_tl, show ("pace " : Str).length = 5 by decide +kernel, show (" " : Str).length = 1 by decide +kernel]
        omega
      · rw [sizeLine_eq, TL.len_tl, TL.tl_append, TL.tl_append, List.length_append, List.length_append, ← TL.len_tl, ← TL.len_tl, ← TL.len_tl, show ("pace " : Str).length = 5 by decide +kernel, show (" " : Str).length = 1 by decide +kernel]
        omega
      rw [ue]
      by_cases e : s = prT (.p j n)
      · refine iteP (by rw [e]) ?_
        have mp : Pr.p j n ∈ allPr 4 := all_pr ⟨j4, fun a n' e => by
          cases e
          have q := List.mem_of_getElem? hn
          simpa using q⟩
        refine ⟨_, rfl, t, _, rfl, ti, by omega, _, rfl, u, _, rfl, ui, by omega, (by show 3 ≤ sizeLine; decide), fun q hq => ⟨(by show 1 ≤ sizeLine; decide), fun p hp => k p [.ref q] _ (sA.trans (s4.trans (s5.trans ((same_upd hq _).trans (same_upd hp _))))) upd_same ?_⟩⟩
        rw [e, findP_of mp]
        exact ⟨_, rfl, .tup (SqT.of ((same_upd hp _) _ _ upd_same)) (.cons (.str _) (.cons (.int _) (.cons (.int _) .nil)))⟩
      · refine iteN (fun z => e (V.str.inj z)) ⟨_, rfl, s5, fun n' hn' => ?_⟩
        rw [take_more hn] at hn'
        rcases List.mem_append.mp hn' with z | z
        · exact hnp n' z
        · rw [List.mem_singleton.mp z]
          exact fun z => e z.symm
    rintro σ H5 ⟨w3, rfl, s5, hnp⟩
    refine ⟨_, _, _, rfl, s4.trans s5, fun p hp hat => ?_⟩
    by_cases h : p.at < j
    · exact hno p hp h
    · have o := all_ok hp
      cases p with
      | d w a =>
        have e : a = j := by
          have h1 : a < j + 1 := hat
          have h2 : ¬ a < j := h
          omega
        subst e
        exact hnw w (Dd.mem w)
      | p a n =>
        have e : a = j := by
          have h1 : a < j + 1 := hat
          have h2 : ¬ a < j := h
          omega
        subst e
        refine hnp n ?_
        have q := o.pc a n rfl
        show n ∈ [(1 : Int), 2, 4]
        simpa using q
  rintro σ H1 ⟨w1, w2, w3, rfl, s1, hno⟩
  refine ⟨(by show 0 ≤ sizeLine; decide), fun p hp => k p [] _ (sA.trans (s1.trans (same_upd hp _))) upd_same ?_⟩
  rw [findP_none fun q hq => hno q hq (all_ok hq).at_]
end
section
variable {P : Program} {w : World} {K : PySem.W.Frag} {mg : Str → Option Value} {base : Heap}
theorem ok_tap (T : Top w K mg) : FnOk P w K mg base CX0 2 T.a_tap T.d_tap ["track"] (sp_noneB) := T.F_tap.ok sc_tap (fun _ _ _ _ h => h.elim) (fun _ _ _ _ _ _ _ _ _ h => h.elim)
end
section
variable {P : Program} {w : World} {K : PySem.W.Frag} {mg : Str → Option Value} {base : Heap}
theorem ok_stop (T : Top w K mg) : FnOk P w K mg base CX0 2 T.a_stop T.d_stop ["track"] (sp_noneB) := T.F_stop.ok sc_stop (fun _ _ _ _ h => h.elim) (fun _ _ _ _ _ _ _ _ _ h => h.elim)
end
section
variable {P : Program} {w : World} {K : PySem.W.Frag} {mg : Str → Option Value} {base : Heap}
theorem ok_turn (T : Top w K mg) : FnOk P w K mg base CX0 2 T.a_turn T.d_turn ["track"] (sp_noneB) := T.F_turn.ok sc_turn (fun _ _ _ _ h => h.elim) (fun _ _ _ _ _ _ _ _ _ h => h.elim)
end
section
variable {P : Program} {w : World} {K : PySem.W.Frag} {mg : Str → Option Value} {base : Heap}
theorem ok_flip (T : Top w K mg) : FnOk P w K mg base CX0 2 T.a_flip T.d_flip ["track"] (sp_noneB) := T.F_flip.ok sc_flip (fun _ _ _ _ h => h.elim) (fun _ _ _ _ _ _ _ _ _ h => h.elim)
end
section
variable {P : Program} {w : World} {K : PySem.W.Frag} {mg : Str → Option Value} {base : Heap}
theorem ok_mute (T : Top w K mg) : FnOk P w K mg base CX0 2 T.a_mute T.d_mute ["track"] (sp_noneB) := T.F_mute.ok sc_mute (fun _ _ _ _ h => h.elim) (fun _ _ _ _ _ _ _ _ _ h => h.elim)
end
section
theorem gives__law_outcome {w : World} {K : PySem.W.Frag} {mg : Str → Option Value} (T : Top w K mg) {X : Cx} (ew : X.w = w) (eK : X.K = K) (em : X.mg = mg) {q : Str} {cdg : Value} : Gives X ["deed", "caught", "found", "e"] "_law_outcome" (defScope s__law_outcome) T.a__law_outcome cdg (defBody s__law_outcome) "deed" q 5 (TTo2 K T.x_BadText.C) := by
  subst ew eK em
  intro f c' s H Q tl hr act hc h
  refine ⟨_, pss_cons (ps_asg (pe_tup (pa_cons pe_non (pa_cons pe_non pa_nil))) (pg_tup rfl (pgs_cons (pg_name (i := 1) sc__law_outcome.nd rfl (Or.inl rfl)) (pgs_cons (pg_name (i := 2) sc__law_outcome.nd rfl (Or.inl rfl)) pgs_nil)))) (pss_cons (ps_try_asT (i := 3) (tb := fun W D σ H => ∃ Ech : XK, (∀ cls d σ' H', Ech cls d H' → W cls d σ' H') ∧ σ[0]? = some (some (.ref f)) ∧ H c' = some (LamX.CodeO c' q) ∧ tl Ech H (fun v H1 => D.nx (σ.set 2 (some v)) H1)) (cs := [.ref T.k_BadLoops, .ref T.k_BadLengths, .ref T.k_BadPedal, .ref T.k_BadRow, .ref T.k_BadPaper, .ref T.x_BadText.C, .ref T.k_OutOfPlace, .ref T.k_TooGreat, .ref T.k_Nothing]) rfl rfl sc__law_outcome.nd rfl rfl (NamesL.cons (c := .ref T.k_BadLoops) ⟨(by rfl), by decide, Or.inl T.n_BadLoops⟩ (NamesL.cons (c := .ref T.k_BadLengths) ⟨(by rfl), by decide, Or.inl T.n_BadLengths⟩ (NamesL.cons (c := .ref T.k_BadPedal) ⟨(by rfl), by decide, Or.inl T.n_BadPedal⟩ (NamesL.cons (c := .ref T.k_BadRow) ⟨(by rfl), by decide, Or.inl T.n_BadRow⟩ (NamesL.cons (c := .ref T.k_BadPaper) ⟨(by rfl), by decide, Or.inl T.n_BadPaper⟩ (NamesL.cons (c := .ref T.x_BadText.C) ⟨(by rfl), by decide, Or.inl T.x_BadText.m⟩ (NamesL.cons (c := .ref T.k_OutOfPlace) ⟨(by rfl), by decide, Or.inl T.n_OutOfPlace⟩ (NamesL.cons (c := .ref T.k_TooGreat) ⟨(by rfl), by decide, Or.inl T.n_TooGreat⟩ (NamesL.cons (c := .ref T.k_Nothing) ⟨(by rfl), by decide, Or.inl T.n_Nothing⟩ NamesL.nil))))))))) (by show 9 ≤ sizeLine; decide) L2.takes0 (fun W pn xe tk _ => ?body) (fun a oe cls d pn hz hf => pss_one (ps_set (i := 1) sc__law_outcome.nd rfl (Or.inl rfl) (pv 3)))) (pss_one (ps_ret (pe_ifExp (pt_cmpR op_isN (pv 1) pe_non (nomark _)) (pe_lst (pa_cons (pv 2) pa_nil)) (pe_call (ok__law_fault T) (hr.mono (by decide)) (by rfl) T.m__law_fault T.F__law_fault.kp T.b__law_fault .nil pass0 (pa_cons (pv 1) pa_nil)))))), ?_⟩
  case body =>
    refine pss_one ⟨fun pins s' σ H' D I h' => ?_⟩
    obtain ⟨Ech, hW, h1, h2, h3⟩ := h'
    exact (show PS _ _ _ from (ps_set (i := 2) sc__law_outcome.nd rfl (Or.inl rfl) (act W pn xe Ech _ _ tk hW))).run pins s' σ H' D I ⟨h1, h2, h3⟩
  refine ⟨(by show 2 ≤ sizeLine; decide), fun p hp => ⟨p, _, rfl, SqT.of upd_same, rfl, _, _, rfl, _, _, rfl, rfl, ?_⟩⟩
  have s0 := same_upd hp (.tup [.non, .non])
  refine ⟨_, fun cls d σ' H' hf => ⟨true, ?_, fun _ a na hl => ?_, fun z => by cases z⟩, rfl, s0 _ _ hc, h _ s0 _ fun v H1 hv => ⟨_, rfl, rfl, _, rfl, iteP rfl ⟨_, rfl, (by show 1 ≤ sizeLine; decide), fun p2 hp2 => hv p2 hp2⟩⟩⟩
  · obtain ⟨rfl, _⟩ := hf
    show PySem.W.exmAny X.K (.ref T.x_BadText.C) [.ref T.k_BadLoops, .ref T.k_BadLengths, .ref T.k_BadPedal, .ref T.k_BadRow, .ref T.k_BadPaper, .ref T.x_BadText.C, .ref T.k_OutOfPlace, .ref T.k_TooGreat, .ref T.k_Nothing] = some true
    simp only [PySem.W.exmAny, T.y_BadText_BadLoops, T.y_BadText_BadLengths, T.y_BadText_BadPedal, T.y_BadText_BadRow, T.y_BadText_BadPaper, T.x_BadText.te, T.y_BadText_OutOfPlace, T.y_BadText_TooGreat, T.y_BadText_Nothing]
    try rfl
  · match σ', hl with
    | [x0, x1, x2, x3], _ =>
      exact ⟨_, rfl, fun na2 => ⟨_, rfl, rfl, _, rfl, iteN (by intro z; cases z) ⟨_, rfl, a, cls, d, rfl, upd_same, hf.up (same_upd na2 _)⟩⟩⟩
end
section
variable {P : Program} {w : World} {K : PySem.W.Frag} {mg : Str → Option Value} {base : Heap}
theorem ok__law_press (T : Top w K mg) : FnOk P w K mg base CX0 2 T.a__law_press T.d__law_press ["m", "tracks"] (sp__law_press K) := by
  refine T.F__law_press.ok sc__law_press (fun vs H Q E h => ?_) (fun cdv A outer s H vs Q E hr h => ?_)
  · obtain ⟨m, i, n, rfl, M, h0, h1, hn, k⟩ := h
    rfl
  obtain ⟨m, i, n, rfl, M, h0, h1, hn, k⟩ := h
  refine ⟨_, (pss_cons (ps_set (i := 2) sc__law_press.nd rfl (Or.inl rfl) (pe_lst (pa_cons pe_str (pa_cons pe_str (pa_cons pe_str (pa_cons pe_str (pa_cons pe_str (pa_cons pe_str (pa_cons pe_str (pa_cons pe_str (pa_cons pe_str (pa_cons pe_str (pa_cons pe_str pa_nil)))))))))))))
      (pss_cons (ps_set (i := 2) sc__law_press.nd rfl (Or.inl rfl) (pe_op op_cat (pv 2) (pe_lst (pa_cons pe_str (pa_cons pe_str (pa_cons pe_str pa_nil))))))
      (pss_cons (ps_par (i := 3) (j := 4) (by rfl) sc__law_press.nd rfl rfl (by decide) rfl rfl (pa_cons (pe_ix (k_ixL (K := K)) (pv 2) (pe_call (ok__law_next T) (hr.mono (by decide)) (by rfl) T.m__law_next T.F__law_next.kp T.b__law_next .nil pass0 (pa_cons (pv 0) (pa_cons pe_int pa_nil))) (fun _ _ => rfl)) (pa_cons (pe_call (ok__law_next T) (hr.mono (by decide)) (by rfl) T.m__law_next T.F__law_next.kp T.b__law_next .nil pass0 (pa_cons (pv 0) (pa_cons (pv 1) pa_nil))) pa_nil)) (by rfl))
      (pss_one (ps_ret (pe_ifExp (pt_cmpR op_eq (pv 3) pe_str (nomark _)) (pe_tup (pa_cons pe_str (pa_cons (pv 4) (pa_cons (pe_ix (k_ixL (K := K)) (pe_lst (pa_cons pe_int (pa_cons pe_int (pa_cons pe_int pa_nil)))) (pe_call (ok__law_next T) (hr.mono (by decide)) (by rfl) T.m__law_next T.F__law_next.kp T.b__law_next .nil pass0 (pa_cons (pv 0) (pa_cons pe_int pa_nil))) (fun _ _ => rfl)) pa_nil)))) (pe_tup (pa_cons (pv 3) (pa_cons (pv 4) pa_nil))))))))), ?_⟩
  refine ⟨(by show 11 ≤ sizeLine; decide), fun W1 h1' => ?_⟩
  have s1 := same_upd h1' (.lst wA)
  refine ⟨_, rfl, (by show 3 ≤ sizeLine; decide), fun W2 h2' => ?_⟩
  have s2 := same_upd h2' (.lst wB)
  refine ⟨W1, W2, wA, wB, rfl, rfl, s2 _ _ upd_same, upd_same, (by show 14 ≤ sizeLine; decide), fun W3 h3' => ?_⟩
  have s3 := same_upd h3' (.lst (wA ++ wB))
  have M2 := M.same (s1.trans s2)
  refine ⟨_, rfl, _, rfl, m, 14, n, rfl, M2.same s3, by decide, by decide, by omega, fun r n4 H4 a4 b4 hn4 M4 e4 => ?_⟩
  obtain ⟨z, hp4, hz, hzm⟩ := drawV M2 h3' e4 a4 b4
  refine ⟨W3, _, r, _, rfl, rfl, SqL.of hp4, hz, ?_⟩
  have f4 : Ef m H H4 := (Ef.ofSame M (s1.trans (s2.trans s3))).trans e4
  refine ⟨_, rfl, _, rfl, m, (i : Int), n4, rfl, M4, by omega, by omega, by omega, fun r5 n5 H5 a5 b5 hn5 M5 e5 => ⟨_, _, rfl, ?_⟩⟩
  obtain ⟨j, rfl⟩ : ∃ j : Nat, r5 = j := ⟨r5.toNat, by omega⟩
  rcases wAB hzm with rfl | ⟨d, rfl⟩
  · refine ⟨_, rfl, rfl, _, rfl, iteP rfl ?_⟩
    refine ⟨_, rfl, (by show 3 ≤ sizeLine; decide), fun p6 hp6 => ?_⟩
    have s6 := same_upd hp6 (.lst [.int 1, .int 2, .int 4])
    refine ⟨_, rfl, m, 3, n5, rfl, M5.same s6, by decide, by decide, by omega, fun r7 n7 H7 a7 b7 hn7 M7 e7 => ?_⟩
    obtain ⟨z7, hp7, hz7, hm7⟩ := drawV M5 hp6 e7 a7 b7
    obtain ⟨pc, rfl, hpc⟩ := pace3 hm7
    refine ⟨p6, _, r7, _, rfl, rfl, SqL.of hp7, hz7, (by show 3 ≤ sizeLine; decide), fun q8 hq8 => ?_⟩
    have s8 := same_upd hq8 (.tup [.str "pace", .int (j : Nat), .int pc])
    refine k (.ref q8) (.p j pc) n7 _ (.tup (SqT.of upd_same) (.cons (.str _) (.cons (.int _) (.cons (.int _) .nil)))) ⟨(by show j < i; omega), fun a n e => by cases e; exact hpc⟩ (by omega) (M7.same s8) (f4.trans (e5.trans ((Ef.ofSame M5 s6).trans (e7.trans (Ef.ofSame M7 s8)))))
  · refine ⟨_, rfl, rfl, _, rfl, iteN (sne d.ne_pace) ?_⟩
    refine ⟨_, rfl, _, rfl, (by show 2 ≤ sizeLine; decide), fun q8 hq8 => ?_⟩
    have s8 := same_upd hq8 (.tup [.str d.s, .int (j : Nat)])
    exact k (.ref q8) (.d d j) n5 _ (.tup (SqT.of upd_same) (.cons (.str _) (.cons (.int _) .nil))) ⟨(by show j < i; omega), fun a n e => by cases e⟩ (by omega) (M5.same s8) (f4.trans (e5.trans (Ef.ofSame M5 s8)))
end
section
variable {P : Program} {w : World} {K : PySem.W.Frag} {mg : Str → Option Value} {base : Heap}
theorem ok__law_text_due (T : Top w K mg) : FnOk P w K mg base CX0 2 T.a__law_text_due T.d__law_text_due ["text"] (sp__law_text_due K) := by
  refine T.F__law_text_due.ok sc__law_text_due (fun vs H Q E h => ?_) (fun cdv A outer s H vs Q E hr h => ?_)
  · obtain ⟨v, d, rfl, hv, hl, k⟩ := h
    rfl
  obtain ⟨v, d, rfl, hv, hl, k⟩ := h
  refine ⟨_, (pss_cons (ps_if (pt_not (pt_val (pe_callB (k_isi (K := K)) (by rfl) T.z_isinstance bt_isinstance (pa_cons (pv 0) (pa_cons (pe_bltn (v := .ty "str") (by rfl) T.z_str bt_str rfl) pa_nil))))) (pss_one (ps_ret (pe_tup (pa_cons pe_str (pa_cons pe_int (pa_cons pe_int pa_nil)))))) pss_nil)
      (pss_cons (ps_if (pt_cmpR op_eq (pv 0) pe_str (nomark _)) (pss_one (ps_ret (pe_lst (pa_cons (pe_tup pa_nil) pa_nil)))) pss_nil)
      (pss_cons (ps_set (i := 1) sc__law_text_due.nd rfl (Or.inl rfl) (pe_lst pa_nil))
      (pss_cons (ps_for PassesOwn.never rfl (k_piEL (K := K) (by rfl) T.z_enumerate (pa_cons (pe_split (pv 0) pe_str) pa_nil)) (pg_tup rfl (pgs_cons (pg_name (i := 2) sc__law_text_due.nd rfl (Or.inl rfl)) (pgs_cons (pg_name (i := 3) sc__law_text_due.nd rfl (Or.inl rfl)) pgs_nil))) (pss_cons (ps_if (pt_cmpR op_eq (pv 2) pe_int (nomark _)) (pss_one (ps_ret (pe_tup (pa_cons pe_str (pa_cons pe_int (pa_cons pe_int pa_nil)))))) pss_nil)
      (pss_cons (ps_set (i := 4) sc__law_text_due.nd rfl (Or.inl rfl) (pe_tup pa_nil))
      (pss_cons (ps_for PassesOwn.never rfl (k_piEL (K := K) (by rfl) T.z_enumerate (pa_cons (pe_ifExp (pt_cmpR op_eq (pv 3) pe_str (nomark _)) (pe_lst pa_nil) (pe_split (pv 3) pe_str)) pa_nil)) (pg_tup rfl (pgs_cons (pg_name (i := 5) sc__law_text_due.nd rfl (Or.inl rfl)) (pgs_cons (pg_name (i := 6) sc__law_text_due.nd rfl (Or.inl rfl)) pgs_nil))) (pss_cons (ps_set (i := 7) sc__law_text_due.nd rfl (Or.inl rfl) (pe_call (ok__law_press_in T) (hr.mono (by decide)) (by rfl) T.m__law_press_in T.F__law_press_in.kp T.b__law_press_in .nil pass0 (pa_cons (pv 6) pa_nil)))
      (pss_cons (ps_if (PW.pt (pw_or (pt_cmpR (k_eqD (K := K) hr.units) (pv 7) (pe_lst pa_nil) (nomark _)) (pw_or1 (pt_cmpR op_eq (pv 5) pe_int (nomark _))))) (pss_one (ps_ret (pe_tup (pa_cons pe_str (pa_cons (pe_op op_add (pv 2) pe_int) (pa_cons (pe_op op_add (pv 5) pe_int) pa_nil)))))) pss_nil)
      (pss_one (ps_set (i := 4) sc__law_text_due.nd rfl (Or.inl rfl) (pe_op (k_catT (K := K)) (pv 4) (pe_tup (pa_cons (pe_ix (k_ixL (K := K)) (pv 7) pe_int (fun _ _ => rfl)) pa_nil))))))))
      (pss_one (ps_expr (pe_bm PySem.F.plainAttrs_list PySem.F.slot_list_append PySem.F.type_list_append mt_append (pv 1) (pa_cons (pv 4) pa_nil))))))))
      (pss_one (ps_ret (pe_lst (pa_cons (pe_callTy (k_tuple (K := K)) (by rfl) T.z_tuple bt_tuple (pa_cons (pv 1) pa_nil)) pa_nil)))))))), ?_⟩
  have bad0 : thF d = .inl (0, 0) → ∀ w H', Same H H' → Dp K H' w (.tuple [.str "text", .int 0, .int 0]) → Q w H' := fun e w H' s hw => k w H' s (by rw [e]; exact hw)
  cases d with
  | int i => exact ⟨_, rfl, v, _, _, _, false, rfl, ClsV.ty _, hv.ty, kit_str _, false, rfl, iteT ⟨(by show 3 ≤ sizeLine; decide), fun p hp => bad0 rfl _ _ (same_upd hp _) (.tup (SqT.of upd_same) (.cons (.str _) (.cons (.int _) (.cons (.int _) .nil))))⟩⟩
  | bl i => exact ⟨_, rfl, v, _, _, _, false, rfl, ClsV.ty _, hv.ty, kit_str _, false, rfl, iteT ⟨(by show 3 ≤ sizeLine; decide), fun p hp => bad0 rfl _ _ (same_upd hp _) (.tup (SqT.of upd_same) (.cons (.str _) (.cons (.int _) (.cons (.int _) .nil))))⟩⟩
  | non => exact ⟨_, rfl, v, _, _, _, false, rfl, ClsV.ty _, hv.ty, kit_str _, false, rfl, iteT ⟨(by show 3 ≤ sizeLine; decide), fun p hp => bad0 rfl _ _ (same_upd hp _) (.tup (SqT.of upd_same) (.cons (.str _) (.cons (.int _) (.cons (.int _) .nil))))⟩⟩
  | lst => exact ⟨_, rfl, v, _, _, _, false, rfl, ClsV.ty _, hv.ty, kit_str _, false, rfl, iteT ⟨(by show 3 ≤ sizeLine; decide), fun p hp => bad0 rfl _ _ (same_upd hp _) (.tup (SqT.of upd_same) (.cons (.str _) (.cons (.int _) (.cons (.int _) .nil))))⟩⟩
  | dct => exact ⟨_, rfl, v, _, _, _, false, rfl, ClsV.ty _, hv.ty, kit_str _, false, rfl, iteT ⟨(by show 3 ≤ sizeLine; decide), fun p hp => bad0 rfl _ _ (same_upd hp _) (.tup (SqT.of upd_same) (.cons (.str _) (.cons (.int _) (.cons (.int _) .nil))))⟩⟩
  | tup ds => exact ⟨_, rfl, v, _, _, _, false, rfl, ClsV.ty _, hv.ty, kit_str _, false, rfl, iteT ⟨(by show 3 ≤ sizeLine; decide), fun p hp => bad0 rfl _ _ (same_upd hp _) (.tup (SqT.of upd_same) (.cons (.str _) (.cons (.int _) (.cons (.int _) .nil))))⟩⟩
  | str tx =>
    cases hv
    have hl : tx.length ≤ 100000 := hl
    have kg : ∀ row, textF tx = .inr row → ∀ w H', Same H H' → Dp K H' w (.list [dRow row]) → Q w H' := fun row e w H' s hw => k w H' s (by show Dp K H' w (outT (textF tx)); rw [e]; exact hw)
    have kr : ∀ e : Nat × Nat, textF tx = .inl e → ∀ w H', Same H H' → Dp K H' w (.tuple [.str "text", .int (e.1 : Nat), .int (e.2 : Nat)]) → Q w H' := fun e ee w H' s hw => k w H' s (by show Dp K H' w (outT (textF tx)); rw [ee]; exact hw)
    refine ⟨_, rfl, .str tx, _, _, _, true, rfl, ClsV.ty _, (Rt.str _).ty, kit_str (.str tx), true, rfl, iteF ?_⟩
    dsimp only [tNext]
    by_cases he : tx = ""
    · subst he
      have el : textF "" = .inr [] := if_pos rfl
      exact ⟨_, rfl, rfl, _, rfl, iteP rfl ⟨(by show 0 ≤ sizeLine; decide), fun p hp => ⟨(by show 1 ≤ sizeLine; decide), fun q hq => kg [] el _ _ ((same_upd hp _).trans (same_upd hq _)) (.lst (SqL.of upd_same) (.cons (.tup (SqT.of ((same_upd hq _) _ _ upd_same)) .nil) .nil))⟩⟩⟩
    have el : textF tx = linesF 0 (Txt.split tx "\n") := if_neg he
    simp only [el] at kg kr
    have ss := split_sum (x := tx) (y := "\n") (by decide +kernel) (by decide +kernel)
    rw [show ("\n" : Str).length = 1 by decide +kernel, Nat.mul_one] at ss
    refine ⟨_, rfl, rfl, _, rfl, iteN (fun z => he (V.str.inj z)) ?_⟩
    dsimp only [tNext]
    refine ⟨(by show 0 ≤ sizeLine; decide), fun L hL => ?_⟩
    have sL := same_upd hL (.lst [])
    have hL0 : upd H L (.lst []) L = some (.lst []) := upd_same
    generalize upd H L (.lst []) = H3 at sL hL0 ⊢
    refine ⟨_, rfl, ⟨_, rfl⟩, tx, "\n", rfl, rfl, (by decide +kernel), (by rw [sizeLine_eq]; omega), fun P hP => ?_⟩
    generalize Txt.split tx "\n" = ls at kg kr ss ⊢
    have s4 := same_upd hP (.lst (ls.map V.str))
    have hP1 : upd H3 P (.lst (ls.map V.str)) P = some (.lst (ls.map V.str)) := upd_same
    have hL1 := s4 _ _ hL0
    have hPL : P ≠ L := fun z => by
      rw [z] at hP
      rw [hP] at hL0
      cases hL0
    generalize upd H3 P (.lst (ls.map V.str)) = H4 at s4 hP1 hL1 ⊢
    refine ⟨P, _, rfl, SqL.of hP1, ?_⟩
    refine for_it walk_enum (fun j σ H' => ∃ (vs : List V) (w2 w3 w4 w5 w6 w7 : Option V) (row : List (List Pr)), σ = [some (.str tx), some (.ref L), w2, w3, w4, w5, w6, w7] ∧ H' L = some (.lst vs) ∧ DpAll K H' vs (row.map stD) ∧ H' P = some (.lst (ls.map V.str)) ∧ Same H H' ∧ linesF 0 ls = preS row (linesF j (ls.drop j)) ∧ row.length = j ∧ j ≤ 200) ⟨[], none, none, none, none, none, none, [], rfl, hL1, .nil, hP1, sL.trans s4, (by rw [List.drop_zero]; cases linesF 0 ls <;> rfl), rfl, Nat.zero_le _⟩ (fun j σ H' _ ⟨_, _, _, _, _, _, _, _, _, _, _, h, _⟩ => SqL.of h) ?_ ?_
    · rintro j x σ H5 H6 hj ⟨vs, w2, w3, w4, w5, w6, w7, row, rfl, hA5, hV5, hP5, s5, epre, elen, j200⟩ ⟨p, y, z, rfl, hp, rfl, hy, hz⟩
      cases hy
      rw [List.length_map] at hj
      have hz : (ls.map V.str)[j]? = some z := hz
      rw [List.getElem?_map] at hz
      obtain ⟨t, ht, rfl⟩ := Option.map_eq_some_iff.mp hz
      have edrop : ls.drop j = t :: ls.drop (j + 1) := by
        rw [List.drop_eq_getElem_cons hj]
        rw [List.getElem?_eq_getElem hj] at ht
        cases ht
        rfl
      rw [edrop] at epre
      have s6 := same_upd hp (.tup [.int (j : Nat), .str t])
      have hlv := hV5.len
      rw [List.length_map, elen] at hlv
      refine ⟨p, _, rfl, SqT.of upd_same, rfl, _, _, rfl, _, _, rfl, rfl, ?_⟩
      by_cases h2 : j = 200
      · refine ⟨_, rfl, rfl, _, rfl, iteP (by rw [h2]; rfl) ?_⟩
        subst h2
        exact ⟨(by show 3 ≤ sizeLine; decide), fun q hq => kr (201, 0) (by rw [epre]; rfl) _ _ (s5.trans (s6.trans (same_upd hq _))) (.tup (SqT.of upd_same) (.cons (.str _) (.cons (.int _) (.cons (.int _) .nil))))⟩
      refine ⟨_, rfl, rfl, _, rfl, iteN (fun z => h2 (by have := V.int.inj z; omega)) ?_⟩
      dsimp only [tNext]
      have tl : t.length ≤ 100000 := by
        have q := len_mem (ps := ls) (List.mem_of_getElem? ht)
        omega
      refine ⟨(by show 0 ≤ sizeLine; decide), fun S hS => ?_⟩
      have s7 := same_upd hS (.tup [])
      have hS0 : Dp K (upd (upd H5 p (.tup [.int (j : Nat), .str t])) S (.tup [])) (.ref S) (stD []) := .tup (SqT.of upd_same) .nil
      have s67 := s6.trans s7
      generalize upd (upd H5 p (.tup [.int (j : Nat), .str t])) S (.tup []) = H7 at s7 hS0 s67 ⊢
      dsimp only [gName]
      refine for_cut (fun u H' => ∃ (B : Addr) (ps : List Str), u = .ref B ∧ H' B = some (.lst (ps.map V.str)) ∧ Same H7 H' ∧ lineF t = partF 0 ps) (fun Q' k' => ?_) ?_
      · by_cases et : t = "-"
        · refine ⟨_, rfl, rfl, _, rfl, iteP (by rw [et]) ⟨(by show 0 ≤ sizeLine; decide), fun B hB => k' _ _ ⟨B, [], rfl, upd_same, same_upd hB _, ?_⟩⟩⟩
          rw [et]
          exact if_pos rfl
        · refine ⟨_, rfl, rfl, _, rfl, iteN (fun z => et (V.str.inj z)) ⟨_, rfl, ⟨_, rfl⟩, t, ", ", rfl, rfl, (by decide +kernel), (by rw [sizeLine_eq]; omega), fun B hB => k' _ _ ⟨B, _, rfl, upd_same, same_upd hB _, if_neg et⟩⟩⟩
      rintro u H8 ⟨B, ps, rfl, hB8, s8, el2⟩
      have s68 := s67.trans s8
      refine ⟨B, _, rfl, SqL.of hB8, ?_⟩
      refine for_it walk_enum (fun i σ H' => ∃ (q : V) (w5 w6 w7 : Option V) (qs : List Pr), σ = [some (.str tx), some (.ref L), some (.int (j : Nat)), some (.str t), some q, w5, w6, w7] ∧ Dp K H' q (stD qs) ∧ Same H8 H' ∧ partF 0 ps = preS qs (partF i (ps.drop i)) ∧ qs.length = i ∧ i ≤ 8) ⟨.ref S, w5, w6, w7, [], rfl, hS0.same_at s8, Same.refl _, (by rw [List.drop_zero]; cases partF 0 ps <;> rfl), rfl, Nat.zero_le _⟩ (fun i σ H' _ ⟨_, _, _, _, _, _, _, s, _⟩ => SqL.of (s _ _ hB8)) ?_ ?_
      · rintro i x σ H9 H10 hi ⟨q, w5, w6, w7, qs, rfl, hq9, s9, ep, eq, i8⟩ ⟨p9, y, z, rfl, hp9, rfl, hy, hz⟩
        cases hy
        rw [List.length_map] at hi
        have hz : (ps.map V.str)[i]? = some z := hz
        rw [List.getElem?_map] at hz
        obtain ⟨c, hc, rfl⟩ := Option.map_eq_some_iff.mp hz
        have ed2 : ps.drop i = c :: ps.drop (i + 1) := by
          rw [List.drop_eq_getElem_cons hi]
          rw [List.getElem?_eq_getElem hi] at hc
          cases hc
          rfl
        rw [ed2] at ep
        have s10 := same_upd hp9 (.tup [.int (i : Nat), .str c])
        refine ⟨p9, _, rfl, SqT.of upd_same, rfl, _, _, rfl, _, _, rfl, rfl, ?_⟩
        refine ⟨_, rfl, c, rfl, fun pf xf H11 s11 hpf hxf => ?_⟩
        have bad : (i = 8 ∨ findP c = none) → ∀ w H', Same H11 H' → Dp K H' w (.tuple [.str "text", .int ((j + 1 : Nat) : Int), .int ((i + 1 : Nat) : Int)]) → Q w H' := fun b w H' s hw => by
          have e1 : lineF t = .inl (i + 1) := by rw [el2, ep, part_bad b]; rfl
          exact kr (j + 1, i + 1) (by rw [epre, line_bad h2 e1]; rfl) w H' (s5.trans (s68.trans (s9.trans (s10.trans (s11.trans s))))) hw
        have ret : (i = 8 ∨ findP c = none) → ∀ G, Same H11 G → ∀ q3, G q3 = none → Q (.ref q3) (upd G q3 (.tup [.str "text", .int ((j : Int) + 1), .int ((i : Int) + 1)])) := fun b G sG q3 hq3 => bad b _ _ (sG.trans (same_upd hq3 _)) (.tup (SqT.of upd_same) (.cons (.str _) (.cons (.int _) (.cons (.int _) .nil))))
        refine ⟨_, rfl, (by show 0 ≤ sizeLine; decide), fun pe hpe => ?_⟩
        have s12 := same_upd hpe (.lst [])
        cases ef : findP c with
        | none =>
          rw [ef] at hxf
          have hxf : xf = [] := hxf
          subst hxf
          refine ⟨.list [], .list [], .lst (SqL.of (s12 _ _ hpf)) .nil, .lst (SqL.of upd_same) .nil, (by decide +kernel), (by decide +kernel), _, rfl, ?_⟩
          show (if PyData.eqv (.list []) (.list []) = true then _ else _)
          rw [eqv_e0]
          exact iteT ⟨_, rfl, _, _, rfl, rfl, _, rfl, _, _, rfl, rfl, (by show 3 ≤ sizeLine; decide), fun q3 hq3 => ret (.inr ef) _ s12 q3 hq3⟩
        | some pr =>
          rw [ef] at hxf
          obtain ⟨vv, exf, hvv⟩ := hxf
          subst exf
          have mpr := (findP_some ef).1
          refine ⟨.list [prD pr], .list [], .lst (SqL.of (s12 _ _ hpf)) (.cons (hvv.same_at s12) .nil), .lst (SqL.of upd_same) .nil, shaped_pr mpr, (by decide +kernel), _, rfl, ?_⟩
          show (if PyData.eqv (.list [prD pr]) (.list []) = true then _ else _)
          rw [eqv_e1]
          refine iteF ?_
          by_cases h8 : i = 8
          · refine ⟨_, rfl, rfl, _, rfl, iteP (by rw [h8]; rfl) ?_⟩
            exact ⟨_, rfl, _, _, rfl, rfl, _, rfl, _, _, rfl, rfl, (by show 3 ≤ sizeLine; decide), fun q3 hq3 => ret (.inl h8) _ s12 q3 hq3⟩
          refine ⟨_, rfl, rfl, _, rfl, iteN (fun z => h8 (by have := V.int.inj z; omega)) ?_⟩
          dsimp only [tNext]
          refine ⟨_, rfl, _, rfl, pf, _, _, _, rfl, rfl, SqL.of (s12 _ _ hpf), at_zero, (by show 1 ≤ sizeLine; decide), fun p1 hp1 => ?_⟩
          have s13 := same_upd hp1 (.tup [vv])
          have t13 := s10.trans (s11.trans (s12.trans s13))
          refine rd_cat (hq9.same_at t13) (.tup (SqT.of upd_same) (.cons (hvv.same_at (s12.trans s13)) .nil)) (by rw [List.length_map, eq, sizeLine_eq]; show i + 1 ≤ _; omega) fun w2 H14 s14 hw2 => ?_
          refine ⟨w2, _, _, _, qs ++ [pr], rfl, ?_, s9.trans (t13.trans s14), ?_, ?_, by omega⟩
          · have e : (qs ++ [pr]).map prD = qs.map prD ++ [prD pr] := by rw [List.map_append]; rfl
            show Dp K H14 w2 (.tuple ((qs ++ [pr]).map prD))
            rw [e]
            exact hw2
          · rw [ep, part_step h8 ef]
          · rw [List.length_append, eq]
            rfl
      rintro σ H9 ⟨q, w5, w6, w7, qs, rfl, hq9, s9, ep, eq, i8⟩
      rw [List.length_map, List.drop_length] at ep
      have est : lineF t = .inr qs := by
        rw [el2, ep]
        show (Sum.inr (qs ++ []) : Nat ⊕ List Pr) = .inr qs
        rw [List.append_nil]
      have s69 := s68.trans s9
      have hLn : H L = none ∨ True := .inr trivial
      have tt := to_row (row ++ [qs])
      have e : (row ++ [qs]).map stD = row.map stD ++ [stD qs] := by rw [List.map_append]; rfl
      rw [e] at tt
      refine ⟨_, rfl, .inl ⟨rfl, _, SqL.of (s69 _ _ hA5)⟩, _, rfl, L, _, _, rfl, rfl, s69 _ _ hA5, small1000 (by omega), vs ++ [q], _, _, _, _, _, _, row ++ [qs], rfl, upd_same, ?_, ?_, ?_, ?_, ?_, ?_⟩
      · rw [e]
        exact prs_put tt (s69 _ _ hA5) (DpAll.same s69 _ _ hV5) hq9
      · rw [upd_ne hPL]
        exact s69 _ _ hP5
      · intro b o z
        have lb : b ≠ L := fun y => by
          rw [y] at z
          rw [hL] at z
          cases z
        rw [upd_ne lb]
        exact s69 _ _ (s5 _ _ z)
      · rw [epre, line_step h2 est]
      · rw [List.length_append, elen]
        rfl
      · omega
    rintro σ H5 ⟨vs, w2, w3, w4, w5, w6, w7, row, rfl, hA5, hV5, hP5, s5, epre, elen, j200⟩
    rw [List.length_map, List.drop_length] at epre
    refine ⟨_, rfl, L, vs, rfl, .inl ⟨SqL.of hA5, fun q hq => ⟨(by show 1 ≤ sizeLine; decide), fun p hp => ?_⟩⟩⟩
    have s6 := same_upd hq (.tup vs)
    have s7 := same_upd hp (.lst [.ref q])
    exact kg row (by rw [epre]; show (Sum.inr (row ++ []) : (Nat × Nat) ⊕ List (List Pr)) = .inr row; rw [List.append_nil]) _ _ (s5.trans (s6.trans s7)) (.lst (SqL.of upd_same) (.cons (.tup (SqT.of (s7 _ _ upd_same)) (DpAll.same (s6.trans s7) _ _ hV5)) .nil))
end
section
variable {P : Program} {w : World} {K : PySem.W.Frag} {mg : Str → Option Value} {base : Heap}
theorem ok__law_bent_text (T : Top w K mg) : FnOk P w K mg base CX0 2 T.a__law_bent_text T.d__law_bent_text ["m", "text"] (sp__law_bent_text K) := by
  refine T.F__law_bent_text.ok sc__law_bent_text (fun vs H Q E h => ?_) (fun cdv A outer s H vs Q E hr h => ?_)
  · obtain ⟨m, s, n, rfl, M, hl, hn, k⟩ := h
    rfl
  obtain ⟨m, s, n, rfl, M, hl, hn, k⟩ := h
  refine ⟨_, (pss_cons (ps_par (i := 2) (j := 3) (by rfl) sc__law_bent_text.nd rfl rfl (by decide) rfl rfl (pa_cons (pe_call (ok__law_next T) (hr.mono (by decide)) (by rfl) T.m__law_next T.F__law_next.kp T.b__law_next .nil pass0 (pa_cons (pv 0) (pa_cons (pe_op op_add (pe_callB call_len_str (by rfl) T.z_len bt_len (pa_cons (pv 1) pa_nil)) pe_int) pa_nil))) (pa_cons (pe_call (ok__law_next T) (hr.mono (by decide)) (by rfl) T.m__law_next T.F__law_next.kp T.b__law_next .nil pass0 (pa_cons (pv 0) (pa_cons pe_int pa_nil))) pa_nil)) (by rfl))
      (pss_cons (ps_set (i := 4) sc__law_bent_text.nd rfl (Or.inl rfl) (pe_ix ix_str pe_str (pe_call (ok__law_next T) (hr.mono (by decide)) (by rfl) T.m__law_next T.F__law_next.kp T.b__law_next .nil pass0 (pa_cons (pv 0) (pa_cons pe_int pa_nil))) (fun _ _ => rfl)))
      (pss_cons (ps_if (pt_cmpR op_lt (pv 3) pe_int (nomark _)) (pss_one (ps_ret (pe_op op_add_str (pe_op op_add_str (pe_slice sl_str (pv 1) po_none (po_some (pv 2))) (pe_ix (k_ixL (K := K)) (pe_lst (pa_cons (pv 4) (pa_cons (pv 4) (pa_cons pe_str pa_nil)))) (pv 3) (fun _ _ => rfl))) (pe_slice sl_str (pv 1) (po_some (pe_op op_add (pv 2) (pe_callTy call_int1 (by rfl) T.z_int bt_int (pa_cons (pe_cmpR op_gt (pv 3) pe_int (nomark _)) pa_nil)))) po_none)))) pss_nil)
      (pss_cons (ps_set (i := 5) sc__law_bent_text.nd rfl (Or.inl rfl) (pe_split (pv 1) pe_str))
      (pss_cons (ps_par (i := 6) (j := 7) (by rfl) sc__law_bent_text.nd rfl rfl (by decide) rfl rfl (pa_cons (pe_call (ok__law_next T) (hr.mono (by decide)) (by rfl) T.m__law_next T.F__law_next.kp T.b__law_next .nil pass0 (pa_cons (pv 0) (pa_cons (pe_callB (k_len (K := K)) (by rfl) T.z_len bt_len (pa_cons (pv 5) pa_nil)) pa_nil))) (pa_cons (pe_call (ok__law_next T) (hr.mono (by decide)) (by rfl) T.m__law_next T.F__law_next.kp T.b__law_next .nil pass0 (pa_cons (pv 0) (pa_cons (pe_callB (k_len (K := K)) (by rfl) T.z_len bt_len (pa_cons (pv 5) pa_nil)) pa_nil))) pa_nil)) (by rfl))
      (pss_cons (ps_set (i := 8) sc__law_bent_text.nd rfl (Or.inl rfl) (pe_lst (pa_cons pe_str (pa_cons pe_str (pa_cons pe_str (pa_cons pe_str (pa_cons pe_str (pa_cons pe_str (pa_cons pe_str (pa_cons pe_str (pa_cons pe_str (pa_cons pe_str (pa_cons pe_str pa_nil)))))))))))))
      (pss_cons (ps_set (i := 8) sc__law_bent_text.nd rfl (Or.inl rfl) (pe_op op_cat (pv 8) (pe_lst (pa_cons pe_str (pa_cons pe_str (pa_cons pe_str (pa_cons pe_str (pa_cons (pe_op op_add_str pe_str (pe_op op_rep_str pe_str pe_int)) pa_nil))))))))
      (pss_cons (ps_set (i := 8) sc__law_bent_text.nd rfl (Or.inl rfl) (pe_op op_cat (pv 8) (pe_lst (pa_cons (pe_op op_add_str pe_str (pe_op op_rep_str pe_str pe_int)) (pa_cons pe_str pa_nil)))))
      (pss_cons (ps_if (pt_cmpR op_eq (pv 3) pe_int (nomark _)) (pss_one (ps_ret (k_join (K := K) pe_str (pe_op op_cat (pe_op op_cat (pe_slice (k_slL (K := K)) (pv 5) po_none (po_some (pv 6))) (pe_lst (pa_cons (pe_ix (k_ixL (K := K)) (pv 8) (pe_call (ok__law_next T) (hr.mono (by decide)) (by rfl) T.m__law_next T.F__law_next.kp T.b__law_next .nil pass0 (pa_cons (pv 0) (pa_cons pe_int pa_nil))) (fun _ _ => rfl)) pa_nil))) (pe_slice (k_slL (K := K)) (pv 5) (po_some (pe_op op_add (pv 6) (pe_call (ok__law_next T) (hr.mono (by decide)) (by rfl) T.m__law_next T.F__law_next.kp T.b__law_next .nil pass0 (pa_cons (pv 0) (pa_cons pe_int pa_nil))))) po_none))))) pss_nil)
      (pss_cons (ps_if (pt_cmpR op_eq (pv 3) pe_int (nomark _)) (pss_one (ps_ret (k_join (K := K) pe_str (pe_op op_cat (pe_slice (k_slL (K := K)) (pv 5) po_none (po_some (pv 6))) (pe_slice (k_slL (K := K)) (pv 5) (po_some (pv 7)) po_none))))) pss_nil)
      (pss_cons (ps_set (i := 9) sc__law_bent_text.nd rfl (Or.inl rfl) (pe_split (pe_ix (k_ixL (K := K)) (pv 5) (pv 6) (fun _ _ => rfl)) pe_str))
      (pss_cons (ps_set (i := 9) sc__law_bent_text.nd rfl (Or.inl rfl) (pe_op op_cat (pe_op op_cat (pe_slice (k_slL (K := K)) (pv 9) po_none (po_some pe_int)) (pe_lst (pa_cons (pe_ix (k_ixL (K := K)) (pv 8) (pe_call (ok__law_next T) (hr.mono (by decide)) (by rfl) T.m__law_next T.F__law_next.kp T.b__law_next .nil pass0 (pa_cons (pv 0) (pa_cons pe_int pa_nil))) (fun _ _ => rfl)) pa_nil))) (pe_slice (k_slL (K := K)) (pv 9) (po_some pe_int) po_none)))
      (pss_one (ps_ret (k_join (K := K) pe_str (pe_op op_cat (pe_op op_cat (pe_slice (k_slL (K := K)) (pv 5) po_none (po_some (pv 6))) (pe_lst (pa_cons (k_join (K := K) pe_str (pv 9)) pa_nil))) (pe_slice (k_slL (K := K)) (pv 5) (po_some (pe_op op_add (pv 6) pe_int)) po_none))))))))))))))))), ?_⟩
  refine ⟨_, rfl, _, rfl, s, rfl, (by rw [sizeLine_eq]; omega), _, _, rfl, rfl, m, _, n, rfl, M, by omega, by omega, by omega, fun ra n1 H1 a0 a1 hn1 M1 e1 => ?_⟩
  refine ⟨_, rfl, m, _, n1, rfl, M1, by omega, by omega, by omega, fun rb n2 H2 b0 b1 hn2 M2 e2 => ?_⟩
  refine ⟨_, _, rfl, ?_⟩
  refine ⟨_, rfl, m, _, n2, rfl, M2, by omega, by omega, by omega, fun rc n3 H3 c0 c1 hn3 M3 e3 => ?_⟩
  obtain ⟨c, hc⟩ := atI_some (xs := (Str.ofString "0123459 ,-\n\ntapcoeumTj").cps.toList) c0 (by rw [show (Str.ofString "0123459 ,-\n\ntapcoeumTj").cps.toList.length = 22 by decide +kernel]; exact c1)
  refine ⟨_, _, c, rfl, rfl, (by rw [sizeLine_eq]; decide +kernel), hc, ?_⟩
  have e13 := e1.trans (e2.trans e3)
  dsimp only [gName]
  refine ⟨_, rfl, _, _, rfl, rfl, _, rfl, ?_⟩
  by_cases h3 : rb < 3
  · refine iteP h3 ?_
    dsimp only [tNoPart]
    refine ⟨_, rfl, _, rfl, _, rfl, s, rfl, (by rw [sizeLine_eq]; omega), _, rfl, _, rfl, (by show 3 ≤ sizeLine; decide), fun p hp => ?_⟩
    obtain ⟨t, ht, mt⟩ := pickS (ss := [⟨#[c]⟩, ⟨#[c]⟩, ""]) b0 (show rb < 3 from h3)
    have tl : t.length ≤ 1 := by
      rcases List.mem_cons.mp mt with rfl | mt
      · exact Nat.le_refl _
      rcases List.mem_cons.mp mt with rfl | mt
      · exact Nat.le_refl _
      rw [List.mem_singleton.mp mt]
      exact Nat.zero_le _
    have l1 := len_cutS s none (some ra)
    refine ⟨_, rfl, p, _, rb, _, rfl, rfl, SqL.of upd_same, ht, _, _, rfl, rfl, (by rw [sizeLine_eq]; omega), _, rfl, _, rfl, _, rfl, _, _, rfl, rfl, .inr ⟨_, rfl, _, _, rfl, rfl, _, rfl, s, rfl, (by rw [sizeLine_eq]; omega), _, _, rfl, rfl, ?_, ?_⟩⟩
    · rw [str_len_app, sizeLine_eq]
      have l2 := len_cutS s (some (ra + if decide (0 < rb) = true then 1 else 0)) none
      omega
    · have l2 := len_cutS s (some (ra + if decide (0 < rb) = true then 1 else 0)) none
      exact k _ n3 _ (by rw [str_len_app, str_len_app]; omega) (by omega) (M3.same (same_upd hp _)) (e13.trans (Ef.ofSame M3 (same_upd hp _)))
  refine iteN h3 ?_
  dsimp only [tNext]
  refine ⟨_, rfl, ⟨_, rfl⟩, s, "\n", rfl, rfl, (by decide +kernel), (by rw [sizeLine_eq]; omega), fun L hL => ?_⟩
  have ss := split_sum (x := s) (y := "\n") (by decide +kernel) (by decide +kernel)
  rw [show ("\n" : Str).length = 1 by decide +kernel, Nat.mul_one] at ss
  generalize Txt.split s "\n" = ls at ss ⊢
  obtain ⟨ss1, ss2⟩ := ss
  have ss1 : lsum ls + ls.length ≤ s.length + 1 := ss1
  have M4 := M3.same (same_upd hL (.lst (ls.map V.str)))
  have L4 : LK (upd H3 L (.lst (ls.map V.str))) m L ls := LK.new M3 hL
  have e4 := e13.trans (Ef.ofSame M3 (same_upd hL (.lst (ls.map V.str))))
  generalize upd H3 L (.lst (ls.map V.str)) = H4 at M4 L4 e4 ⊢
  dsimp only [gName]
  have el : (((ls.map V.str).length : Nat) : Int) = ((ls.length : Nat) : Int) := by rw [List.length_map]
  refine ⟨_, rfl, _, rfl, L, _, rfl, .inl (SqL.of L4.1), m, _, n3, rfl, M4, by omega, by omega, by omega, fun rd n5 H5 d0 d1 hn5 M5 e5 => ?_⟩
  rw [el] at d1
  have L5 := L4.ef M4 e5
  refine ⟨_, rfl, _, rfl, L, _, rfl, .inl (SqL.of L5.1), m, _, n5, rfl, M5, by omega, by omega, by omega, fun rf n6 H6 f0 f1 hn6 M6 e6 => ?_⟩
  rw [el] at f1
  have L6 := L5.ef M5 e6
  have e06 := e4.trans (e5.trans e6)
  refine ⟨_, _, rfl, ?_⟩
  refine ⟨(by show 11 ≤ sizeLine; decide), fun A1 hA1 => ?_⟩
  dsimp only [gName]
  obtain ⟨S1, eS1⟩ : ∃ S : List Str, S = (["", "-", "- ", "tap 0", "tap 4", "pace 0 3", "tap 0,tap 1", "tap 0, ", "tap  0", " tap 0", "Tap 0"] : List Str) := ⟨_, rfl⟩
  have b1 : S1.length = 11 ∧ ∀ t ∈ S1, t.length ≤ 60 := by
    rw [eS1]
    decide +kernel
  generalize eH7 : upd H6 A1 _ = H7
  have t1 : Same H6 H7 := by
    rw [← eH7]
    exact same_upd hA1 _
  have k1 : H7 A1 = some (.lst (S1.map V.str)) := by
    rw [← eH7, eS1]
    exact upd_same
  clear eH7
  refine ⟨_, rfl, ", tap 0", 7, rfl, rfl, by decide, by decide, (by decide +kernel), (by decide +kernel), fun r1 hr1 => ?_⟩
  have hr1 : r1.length = 49 := hr1
  refine ⟨_, _, rfl, rfl, (by rw [hr1, sizeLine_eq]; decide +kernel), (by show 5 ≤ sizeLine; decide), fun B1 hB1 => ?_⟩
  obtain ⟨S2, eS2⟩ : ∃ S : List Str, S = (["tap 00", "tap 0, tap 1", "pace 1", "tap -1", "tap 0" ++ r1] : List Str) := ⟨_, rfl⟩
  have e5 : ("tap 0" : Str).length = 5 := by decide +kernel
  have b2 : S2.length = 5 ∧ ∀ t ∈ S2, t.length ≤ 70 := by
    rw [eS2]
    refine ⟨rfl, fun t ht => ?_⟩
    rcases List.mem_cons.mp ht with rfl | ht
    · decide +kernel
    rcases List.mem_cons.mp ht with rfl | ht
    · decide +kernel
    rcases List.mem_cons.mp ht with rfl | ht
    · decide +kernel
    rcases List.mem_cons.mp ht with rfl | ht
    · decide +kernel
    rw [List.mem_singleton.mp ht, str_len_app, e5, hr1]
    decide
  generalize eH8 : upd H7 B1 _ = H8
  have t2 : Same H7 H8 := by
    rw [← eH8]
    exact same_upd hB1 _
  have k2 : H8 B1 = some (.lst (S2.map V.str)) := by
    rw [← eH8, eS2]
    exact upd_same
  clear eH8
  refine ⟨A1, B1, _, _, rfl, rfl, t2 _ _ k1, k2, (by rw [List.length_map, List.length_map, b1.1, b2.1]; decide), fun C1 hC1 => ?_⟩
  dsimp only [gName]
  obtain ⟨S3, eS3⟩ : ∃ S : List Str, S = S1 ++ S2 := ⟨_, rfl⟩
  have b3 : S3.length = 16 ∧ ∀ t ∈ S3, t.length ≤ 70 := by
    rw [eS3]
    refine ⟨by rw [List.length_append, b1.1, b2.1], fun t ht => ?_⟩
    rcases List.mem_append.mp ht with ht | ht
    · have := b1.2 t ht
      omega
    · exact b2.2 t ht
  generalize eH9 : upd H8 C1 _ = H9
  have t3 : Same H8 H9 := by
    rw [← eH9]
    exact same_upd hC1 _
  have k3 : H9 C1 = some (.lst (S3.map V.str)) := by
    rw [← eH9, eS3, List.map_append]
    exact upd_same
  clear eH9
  refine ⟨_, rfl, ", tap 0", 8, rfl, rfl, by decide, by decide, (by decide +kernel), (by decide +kernel), fun r2 hr2 => ?_⟩
  have hr2 : r2.length = 56 := hr2
  refine ⟨_, _, rfl, rfl, (by rw [hr2, sizeLine_eq]; decide +kernel), (by show 2 ≤ sizeLine; decide), fun D1 hD1 => ?_⟩
  obtain ⟨S4, eS4⟩ : ∃ S : List Str, S = (["tap 0" ++ r2, "dub 0"] : List Str) := ⟨_, rfl⟩
  have b4 : S4.length = 2 ∧ ∀ t ∈ S4, t.length ≤ 70 := by
    rw [eS4]
    refine ⟨rfl, fun t ht => ?_⟩
    rcases List.mem_cons.mp ht with rfl | ht
    · rw [str_len_app, e5, hr2]
      decide
    rw [List.mem_singleton.mp ht]
    decide +kernel
  generalize eHa : upd H9 D1 _ = Ha
  have t4 : Same H9 Ha := by
    rw [← eHa]
    exact same_upd hD1 _
  have k4 : Ha D1 = some (.lst (S4.map V.str)) := by
    rw [← eHa, eS4]
    exact upd_same
  clear eHa
  refine ⟨C1, D1, _, _, rfl, rfl, t4 _ _ k3, k4, (by rw [List.length_map, List.length_map, b3.1, b4.1]; decide), fun S hSn => ?_⟩
  dsimp only [gName]
  obtain ⟨SS, eSS⟩ : ∃ S : List Str, S = S3 ++ S4 := ⟨_, rfl⟩
  have bS : SS.length = 18 ∧ ∀ t ∈ SS, t.length ≤ 70 := by
    rw [eSS]
    refine ⟨by rw [List.length_append, b3.1, b4.1], fun t ht => ?_⟩
    rcases List.mem_append.mp ht with ht | ht
    · exact b3.2 t ht
    · exact b4.2 t ht
  have ta := t1.trans (t2.trans (t3.trans t4))
  have Ma := M6.same ta
  have La := L6.same M6 ta
  generalize eHb : upd Ha S _ = Hb
  have tb : Same Ha Hb := by
    rw [← eHb]
    exact same_upd hSn _
  have Mb := Ma.same tb
  have Lb := La.same Ma tb
  have Sb : LK Hb m S SS := by
    rw [← eHb, eSS]
    rw [← List.map_append]
    exact ⟨upd_same, off_free Ma (same_upd hSn _) hSn⟩
  have eb := e06.trans (Ef.ofSame M6 (ta.trans tb))
  clear eHb t1 t2 t3 t4 ta tb k1 k2 k3 k4
  refine ⟨_, rfl, rfl, _, rfl, ?_⟩
  by_cases w3 : rb = 3
  · refine iteP (by rw [w3]) ?_
    dsimp only [tNoPart]
    refine ⟨⟨_, rfl⟩, _, rfl, _, rfl, _, rfl, L, _, rfl, SqL.of Lb.1, fun P1 hP1 => ?_⟩
    rw [cutL_to ls d0]
    have u1 := same_upd hP1 (.lst ((ls.take rd.toNat).map V.str))
    have Mc := Mb.same u1
    have Sc := Sb.same Mb u1
    have Lc := Lb.same Mb u1
    have c1 : LK (upd Hb P1 (.lst ((ls.take rd.toNat).map V.str))) m P1 (ls.take rd.toNat) := LK.new Mb hP1
    have ec := eb.trans (Ef.ofSame Mb u1)
    generalize upd Hb P1 (.lst ((ls.take rd.toNat).map V.str)) = Hc at u1 Mc Sc Lc c1 ec ⊢
    refine ⟨_, rfl, _, rfl, m, _, n6, rfl, Mc, by omega, by omega, by omega, fun rg n7 Hd g0 g1 hn7 Md e7 => ?_⟩
    have Sd := Sc.ef Mc e7
    have Ld := Lc.ef Mc e7
    have c2 := c1.ef Mc e7
    have ed := ec.trans e7
    obtain ⟨t, ht, mt⟩ := pickS g0 (by rw [bS.1]; exact g1)
    have tl := bS.2 t mt
    refine ⟨S, _, rg, .str t, rfl, rfl, SqL.of Sd.1, ht, (by show 1 ≤ sizeLine; decide), fun P2 hP2 => ?_⟩
    have u2 := same_upd hP2 (.lst [.str t])
    have k2 : upd Hd P2 (.lst [.str t]) P2 = some (.lst [.str t]) := upd_same
    have Me := Md.same u2
    have Le := Ld.same Md u2
    have c3 := c2.same Md u2
    have ee := ed.trans (Ef.ofSame Md u2)
    generalize upd Hd P2 (.lst [.str t]) = He at u2 k2 Me Le c3 ee ⊢
    have q1 := take_len_le ls rd.toNat
    have q2 := lsum_take ls rd.toNat
    refine ⟨P1, P2, _, _, rfl, rfl, c3.1, k2, (by rw [List.length_map, sizeLine_eq]; show _ + 1 ≤ _; omega), fun P3 hP3 => ?_⟩
    generalize eHf : upd He P3 _ = Hf
    have u3 : Same He Hf := by
      rw [← eHf]
      exact same_upd hP3 _
    have Mf := Me.same u3
    have Lf := Le.same Me u3
    have c4 : LK Hf m P3 (ls.take rd.toNat ++ [t]) := by
      rw [← eHf, show (ls.take rd.toNat).map V.str ++ [V.str t] = (ls.take rd.toNat ++ [t]).map V.str by rw [List.map_append]; rfl]
      exact LK.new Me hP3
    have ef := ee.trans (Ef.ofSame Me u3)
    clear eHf
    refine ⟨_, rfl, _, rfl, _, rfl, m, _, n7, rfl, Mf, by omega, by omega, by omega, fun rh n8 Hg h0 h1 hn8 Mg e8 => ?_⟩
    have Lg := Lf.ef Mf e8
    have c5 := c4.ef Mf e8
    have eg := ef.trans e8
    refine ⟨_, _, rfl, rfl, _, rfl, L, _, rfl, SqL.of Lg.1, fun P4 hP4 => ?_⟩
    rw [cutL_from ls (r := rd + rh) (by omega)]
    have u4 := same_upd hP4 (.lst ((ls.drop (rd + rh).toNat).map V.str))
    have q3 := drop_len_le ls (rd + rh).toNat
    have q4 := lsum_drop ls (a := rd.toNat) (b := (rd + rh).toNat) (by omega)
    have q5 : (ls.drop rd.toNat).length + (ls.take rd.toNat).length = ls.length := by
      rw [List.length_drop, List.length_take]
      omega
    have q6 : (ls.drop (rd + rh).toNat).length ≤ (ls.drop rd.toNat).length := by
      rw [List.length_drop, List.length_drop]
      omega
    have Mh := Mg.same u4
    have c6 := c5.same Mg u4
    have k4 : upd Hg P4 (.lst ((ls.drop (rd + rh).toNat).map V.str)) P4 = some (.lst ((ls.drop (rd + rh).toNat).map V.str)) := upd_same
    have eh := eg.trans (Ef.ofSame Mg u4)
    generalize upd Hg P4 (.lst ((ls.drop (rd + rh).toNat).map V.str)) = Hh at u4 Mh c6 k4 eh ⊢
    refine ⟨P3, P4, _, _, rfl, rfl, c6.1, k4, (by rw [List.length_map, List.length_map, List.length_append, sizeLine_eq]; show _ + 1 + _ ≤ _; omega), fun P5 hP5 => ?_⟩
    rw [← List.map_append]
    have jl := join_len "\n" (ls.take rd.toNat ++ [t] ++ ls.drop (rd + rh).toNat)
    have sl : ((ls.take rd.toNat ++ [t] ++ ls.drop (rd + rh).toNat).map (·.length)).sum ≤ s.length + 71 := by
      show lsum (ls.take rd.toNat ++ [t] ++ ls.drop (rd + rh).toNat) ≤ _
      rw [lsum_app, lsum_app]
      show _ + (t.length + 0) + _ ≤ _
      omega
    have cl : (ls.take rd.toNat ++ [t] ++ ls.drop (rd + rh).toNat).length ≤ ls.length + 1 := by
      rw [List.length_append, List.length_append]
      show _ + 1 + _ ≤ _
      omega
    rw [show ("\n" : Str).length = 1 by decide +kernel, Nat.mul_one] at jl
    refine ⟨_, P5, _, rfl, rfl, .inl (SqL.of upd_same), (by rw [show ("\n" : Str).length = 1 by decide +kernel]; omega), ?_⟩
    exact k _ n8 _ (by omega) (by omega) (Mh.same (same_upd hP5 _)) (eh.trans (Ef.ofSame Mh (same_upd hP5 _)))
  refine iteN (fun z => w3 (V.int.inj z)) ?_
  dsimp only [tNext]
  refine ⟨_, rfl, rfl, _, rfl, ?_⟩
  by_cases w4 : rb = 4
  · refine iteP (by rw [w4]) ?_
    dsimp only [tNoPart]
    refine ⟨⟨_, rfl⟩, _, rfl, _, rfl, _, rfl, L, _, rfl, SqL.of Lb.1, fun P1 hP1 => ?_⟩
    rw [cutL_to ls d0]
    have u1 := same_upd hP1 (.lst ((ls.take rd.toNat).map V.str))
    have Mc := Mb.same u1
    have Lc := Lb.same Mb u1
    have c1 : LK (upd Hb P1 (.lst ((ls.take rd.toNat).map V.str))) m P1 (ls.take rd.toNat) := LK.new Mb hP1
    have ec := eb.trans (Ef.ofSame Mb u1)
    generalize upd Hb P1 (.lst ((ls.take rd.toNat).map V.str)) = Hc at u1 Mc Lc c1 ec ⊢
    refine ⟨_, rfl, _, rfl, _, rfl, L, _, rfl, SqL.of Lc.1, fun P2 hP2 => ?_⟩
    rw [cutL_from ls f0]
    have u2 := same_upd hP2 (.lst ((ls.drop rf.toNat).map V.str))
    have k2 : upd Hc P2 (.lst ((ls.drop rf.toNat).map V.str)) P2 = some (.lst ((ls.drop rf.toNat).map V.str)) := upd_same
    have Md := Mc.same u2
    have c2 := c1.same Mc u2
    have ed := ec.trans (Ef.ofSame Mc u2)
    generalize upd Hc P2 (.lst ((ls.drop rf.toNat).map V.str)) = Hd at u2 k2 Md c2 ed ⊢
    have q1 := take_len_le ls rd.toNat
    have q2 := lsum_take ls rd.toNat
    have q3 := drop_len_le ls rf.toNat
    have q4 := lsum_take ls rf.toNat
    refine ⟨P1, P2, _, _, rfl, rfl, c2.1, k2, (by rw [List.length_map, List.length_map, sizeLine_eq]; omega), fun P3 hP3 => ?_⟩
    rw [← List.map_append]
    have jl := join_len "\n" (ls.take rd.toNat ++ ls.drop rf.toNat)
    have sl : ((ls.take rd.toNat ++ ls.drop rf.toNat).map (·.length)).sum = lsum (ls.take rd.toNat) + lsum (ls.drop rf.toNat) := lsum_app _ _
    have cl : (ls.take rd.toNat ++ ls.drop rf.toNat).length ≤ ls.length + ls.length := by
      rw [List.length_append]
      omega
    rw [show ("\n" : Str).length = 1 by decide +kernel, Nat.mul_one] at jl
    refine ⟨_, P3, _, rfl, rfl, .inl (SqL.of upd_same), (by rw [show ("\n" : Str).length = 1 by decide +kernel]; omega), ?_⟩
    exact k _ n6 _ (by omega) (by omega) (Md.same (same_upd hP3 _)) (ed.trans (Ef.ofSame Md (same_upd hP3 _)))
  refine iteN (fun z => w4 (V.int.inj z)) ?_
  dsimp only [tNext]
  obtain ⟨ln, hln, mln⟩ := pickS d0 d1
  have lnl : ln.length ≤ lsum ls := len_mem mln
  refine ⟨_, rfl, _, rfl, L, _, rd, .str ln, rfl, rfl, SqL.of Lb.1, hln, ⟨_, rfl⟩, ln, ", ", rfl, rfl, (by decide +kernel), (by rw [sizeLine_eq]; omega), fun P0 hP0 => ?_⟩
  dsimp only [gName]
  have sp := split_sum (x := ln) (y := ", ") (by decide +kernel) (by decide +kernel)
  rw [show (", " : Str).length = 2 by decide +kernel] at sp
  generalize Txt.split ln ", " = ps at sp ⊢
  obtain ⟨sp1, sp2⟩ := sp
  have sp1 : lsum ps + ps.length * 2 ≤ ln.length + 2 := sp1
  have u0 := same_upd hP0 (.lst (ps.map V.str))
  have Mc := Mb.same u0
  have Sc := Sb.same Mb u0
  have Lc := Lb.same Mb u0
  have c0 : LK (upd Hb P0 (.lst (ps.map V.str))) m P0 ps := LK.new Mb hP0
  have ec := eb.trans (Ef.ofSame Mb u0)
  generalize upd Hb P0 (.lst (ps.map V.str)) = Hc at u0 Mc Sc Lc c0 ec ⊢
  refine ⟨_, rfl, _, rfl, P0, _, rfl, SqL.of c0.1, fun P1 hP1 => ?_⟩
  rw [cutL_to ps (r := 1) (by decide)]
  have u1 := same_upd hP1 (.lst ((ps.take (1 : Int).toNat).map V.str))
  have Md := Mc.same u1
  have Sd := Sc.same Mc u1
  have Ld := Lc.same Mc u1
  have c1 := c0.same Mc u1
  have b1 : LK (upd Hc P1 (.lst ((ps.take (1 : Int).toNat).map V.str))) m P1 (ps.take (1 : Int).toNat) := LK.new Mc hP1
  have ed := ec.trans (Ef.ofSame Mc u1)
  generalize upd Hc P1 (.lst ((ps.take (1 : Int).toNat).map V.str)) = Hd at u1 Md Sd Ld c1 b1 ed ⊢
  refine ⟨_, rfl, _, rfl, m, _, n6, rfl, Md, by omega, by omega, by omega, fun rg n7 He g0 g1 hn7 Me e7 => ?_⟩
  have Se := Sd.ef Md e7
  have Le := Ld.ef Md e7
  have c2 := c1.ef Md e7
  have b2 := b1.ef Md e7
  have ee := ed.trans e7
  obtain ⟨t, ht, mt⟩ := pickS g0 (by rw [bS.1]; exact g1)
  have tl := bS.2 t mt
  refine ⟨S, _, rg, .str t, rfl, rfl, SqL.of Se.1, ht, (by show 1 ≤ sizeLine; decide), fun P2 hP2 => ?_⟩
  have u2 := same_upd hP2 (.lst [.str t])
  have k2 : upd He P2 (.lst [.str t]) P2 = some (.lst [.str t]) := upd_same
  have Mf := Me.same u2
  have Lf := Le.same Me u2
  have c3 := c2.same Me u2
  have b3 := b2.same Me u2
  have ef := ee.trans (Ef.ofSame Me u2)
  generalize upd He P2 (.lst [.str t]) = Hf at u2 k2 Mf Lf c3 b3 ef ⊢
  have q1 := take_len_le ps (1 : Int).toNat
  have q2 := lsum_take ps (1 : Int).toNat
  refine ⟨P1, P2, _, _, rfl, rfl, b3.1, k2, (by rw [List.length_map, sizeLine_eq]; show _ + 1 ≤ _; omega), fun P3 hP3 => ?_⟩
  generalize eHg : upd Hf P3 _ = Hg
  have u3 : Same Hf Hg := by
    rw [← eHg]
    exact same_upd hP3 _
  have Mg := Mf.same u3
  have Lg := Lf.same Mf u3
  have c4 := c3.same Mf u3
  have k3 : Hg P3 = some (.lst ((ps.take (1 : Int).toNat ++ [t]).map V.str)) := by
    rw [← eHg, List.map_append]
    exact upd_same
  have eg := ef.trans (Ef.ofSame Mf u3)
  clear eHg
  refine ⟨_, rfl, _, rfl, P0, _, rfl, SqL.of c4.1, fun P4 hP4 => ?_⟩
  rw [cutL_from ps (r := 1) (by decide)]
  have u4 := same_upd hP4 (.lst ((ps.drop (1 : Int).toNat).map V.str))
  have k4 : upd Hg P4 (.lst ((ps.drop (1 : Int).toNat).map V.str)) P4 = some (.lst ((ps.drop (1 : Int).toNat).map V.str)) := upd_same
  have k3 := u4 _ _ k3
  have Mh := Mg.same u4
  have Lh := Lg.same Mg u4
  have eh := eg.trans (Ef.ofSame Mg u4)
  generalize upd Hg P4 (.lst ((ps.drop (1 : Int).toNat).map V.str)) = Hh at u4 k4 k3 Mh Lh eh ⊢
  have q3 := drop_len_le ps (1 : Int).toNat
  have q6 : (ps.drop (1 : Int).toNat).length + (ps.take (1 : Int).toNat).length = ps.length := by
    rw [List.length_drop, List.length_take]
    omega
  refine ⟨P3, P4, _, _, rfl, rfl, k3, k4, (by rw [List.length_map, List.length_map, List.length_append, sizeLine_eq]; show _ + 1 + _ ≤ _; omega), fun P5 hP5 => ?_⟩
  rw [← List.map_append]
  have jp := join_len ", " (ps.take (1 : Int).toNat ++ [t] ++ ps.drop (1 : Int).toNat)
  have sl : ((ps.take (1 : Int).toNat ++ [t] ++ ps.drop (1 : Int).toNat).map (·.length)).sum = lsum ps + t.length := by
    show lsum (ps.take (1 : Int).toNat ++ [t] ++ ps.drop (1 : Int).toNat) = _
    rw [lsum_app, lsum_app]
    show _ + (t.length + 0) + _ = _
    omega
  have cl : (ps.take (1 : Int).toNat ++ [t] ++ ps.drop (1 : Int).toNat).length = ps.length + 1 := by
    rw [List.length_append, List.length_append]
    show _ + 1 + _ = _
    omega
  rw [sl, cl, show (", " : Str).length = 2 by decide +kernel] at jp
  generalize eps : ps.take (1 : Int).toNat ++ [t] ++ ps.drop (1 : Int).toNat = ps2 at jp sl cl ⊢
  have u5 := same_upd hP5 (.lst (ps2.map V.str))
  have Mi := Mh.same u5
  have Li := Lh.same Mh u5
  have c5 : LK (upd Hh P5 (.lst (ps2.map V.str))) m P5 ps2 := LK.new Mh hP5
  have ei := eh.trans (Ef.ofSame Mh u5)
  generalize upd Hh P5 (.lst (ps2.map V.str)) = Hi at u5 Mi Li c5 ei ⊢
  dsimp only [gName]
  refine ⟨⟨_, rfl⟩, _, rfl, _, rfl, _, rfl, L, _, rfl, SqL.of Li.1, fun Q1 hQ1 => ?_⟩
  rw [cutL_to ls d0]
  have v1 := same_upd hQ1 (.lst ((ls.take rd.toNat).map V.str))
  have Mj := Mi.same v1
  have Lj := Li.same Mi v1
  have c6 := c5.same Mi v1
  have a1 : LK (upd Hi Q1 (.lst ((ls.take rd.toNat).map V.str))) m Q1 (ls.take rd.toNat) := LK.new Mi hQ1
  have ej := ei.trans (Ef.ofSame Mi v1)
  generalize upd Hi Q1 (.lst ((ls.take rd.toNat).map V.str)) = Hj at v1 Mj Lj c6 a1 ej ⊢
  refine ⟨⟨_, rfl⟩, _, rfl, _, P5, _, rfl, rfl, .inl (SqL.of c6.1), (by rw [sl, cl, show (", " : Str).length = 2 by decide +kernel]; omega), (by show 1 ≤ sizeLine; decide), fun Q2 hQ2 => ?_⟩
  generalize Txt.join ", " ps2 = jt at jp ⊢
  have v2 := same_upd hQ2 (.lst [.str jt])
  have g2 : upd Hj Q2 (.lst [.str jt]) Q2 = some (.lst [.str jt]) := upd_same
  have Mk := Mj.same v2
  have Lk := Lj.same Mj v2
  have a2 := a1.same Mj v2
  have ek := ej.trans (Ef.ofSame Mj v2)
  generalize upd Hj Q2 (.lst [.str jt]) = Hk at v2 g2 Mk Lk a2 ek ⊢
  have r1 := take_len_le ls rd.toNat
  have r2 := lsum_take ls rd.toNat
  refine ⟨Q1, Q2, _, _, rfl, rfl, a2.1, g2, (by rw [List.length_map, sizeLine_eq]; show _ + 1 ≤ _; omega), fun Q3 hQ3 => ?_⟩
  generalize eHl : upd Hk Q3 _ = Hl
  have v3 : Same Hk Hl := by
    rw [← eHl]
    exact same_upd hQ3 _
  have Ml := Mk.same v3
  have Ll := Lk.same Mk v3
  have k3 : Hl Q3 = some (.lst ((ls.take rd.toNat ++ [jt]).map V.str)) := by
    rw [← eHl, List.map_append]
    exact upd_same
  have el := ek.trans (Ef.ofSame Mk v3)
  clear eHl
  refine ⟨_, rfl, _, rfl, _, _, rfl, rfl, _, rfl, L, _, rfl, SqL.of Ll.1, fun Q4 hQ4 => ?_⟩
  rw [cutL_from ls (r := rd + 1) (by omega)]
  have v4 := same_upd hQ4 (.lst ((ls.drop (rd + 1).toNat).map V.str))
  have g4 : upd Hl Q4 (.lst ((ls.drop (rd + 1).toNat).map V.str)) Q4 = some (.lst ((ls.drop (rd + 1).toNat).map V.str)) := upd_same
  have k3 := v4 _ _ k3
  have Mm := Ml.same v4
  have em := el.trans (Ef.ofSame Ml v4)
  generalize upd Hl Q4 (.lst ((ls.drop (rd + 1).toNat).map V.str)) = Hm at v4 g4 k3 Mm em ⊢
  have r3 := drop_len_le ls (rd + 1).toNat
  have r4 := lsum_drop ls (a := rd.toNat) (b := (rd + 1).toNat) (by omega)
  have r5 : (ls.drop (rd + 1).toNat).length + (ls.take rd.toNat).length + 1 ≤ ls.length := by
    rw [List.length_drop, List.length_take]
    omega
  refine ⟨Q3, Q4, _, _, rfl, rfl, k3, g4, (by rw [List.length_map, List.length_map, List.length_append, sizeLine_eq]; show _ + 1 + _ ≤ _; omega), fun Q5 hQ5 => ?_⟩
  rw [← List.map_append]
  have jl := join_len "\n" (ls.take rd.toNat ++ [jt] ++ ls.drop (rd + 1).toNat)
  have s3 : ((ls.take rd.toNat ++ [jt] ++ ls.drop (rd + 1).toNat).map (·.length)).sum ≤ lsum ls + jt.length := by
    show lsum (ls.take rd.toNat ++ [jt] ++ ls.drop (rd + 1).toNat) ≤ _
    rw [lsum_app, lsum_app]
    show _ + (jt.length + 0) + _ ≤ _
    omega
  have c3 : (ls.take rd.toNat ++ [jt] ++ ls.drop (rd + 1).toNat).length ≤ ls.length := by
    rw [List.length_append, List.length_append]
    show _ + 1 + _ ≤ _
    omega
  rw [show ("\n" : Str).length = 1 by decide +kernel, Nat.mul_one] at jl
  refine ⟨_, Q5, _, rfl, rfl, .inl (SqL.of upd_same), (by rw [show ("\n" : Str).length = 1 by decide +kernel]; omega), ?_⟩
  exact k _ n7 _ (by omega) (by omega) (Mm.same (same_upd hQ5 _)) (em.trans (Ef.ofSame Mm (same_upd hQ5 _)))
end
section
variable {P : Program} {w : World} {K : PySem.W.Frag} {mg : Str → Option Value} {base : Heap}
theorem okX_read_step (T : Top w K mg) : FnOk P w K mg base (L2.CX P w) 3 T.a_read_step T.d_read_step ["number", "line", "presses"] (sp_read_stepX K T.x_BadText.C) := by
  refine T.F_read_step.okX sc_read_step (fun vs H Q E h => ?_) (fun cdv A outer s H vs Q E hr h => ?_)
  · obtain ⟨n, line, D, kvs, rfl, hD, tab, hl, kg, kr⟩ := h
    rfl
  obtain ⟨n, line, D, kvs, rfl, hD, tab, hl, kg, kr⟩ := h
  refine ⟨_, (pss_cons (ps_if (pt_cmpR op_eq (pv 1) (pe_glob (v := .str "-") rfl T.c_NO_PRESS ⟨_, rfl⟩) (nomark _)) (pss_one (ps_ret (pe_tup pa_nil))) pss_nil)
      (pss_cons (ps_set (i := 3) sc_read_step.nd rfl (Or.inl rfl) (pe_split (pv 1) (pe_glob (v := .str ", ") rfl T.c_BETWEEN ⟨_, rfl⟩)))
      (pss_cons (ps_for (passes_of rfl) rfl (k_piEL (K := K) (by rfl) T.z_enumerate (pa_cons (pv 3) pa_nil)) (pg_tup rfl (pgs_cons (pg_name (i := 4) sc_read_step.nd rfl (Or.inl rfl)) (pgs_cons (pg_name (i := 5) sc_read_step.nd rfl (Or.inl rfl)) pgs_nil))) (pss_one (ps_if (PW.pt (pw_or (pt_cmpR op_eq (pv 4) (pe_glob (v := .int 8) rfl T.c_MOST_PRESSES ⟨_, rfl⟩) (nomark _)) (pw_or1 (pt_cmpR (op_dnotin (hu_of hr)) (pv 5) (pv 2) (by with_unfolding_all rfl))))) (pss_one (ps_raise rfl (takes_of rfl rfl rfl rfl) (pmk_oex T.x_BadText.ox T.x_BadText.iC T.x_BadText.tI (ok_BadText_init T) (hr.mono (by decide)) T.x_BadText.b .nil pass0 (by rfl) T.x_BadText.m (pa_cons (pv 0) (pa_cons (pe_op op_add (pv 4) pe_int) pa_nil))))) pss_nil)))
      (pss_one (ps_ret (pe_callTy (k_tuple (K := K)) (by rfl) T.z_tuple bt_tuple (pa_cons (pe_lc (own := [("part", 5)]) rfl sc_read_step.nd (k_piL (K := K) (pv 3)) (blkOk_by (own := [("part", 5)]) (N := ["number", "line", "presses", "parts", "at", "part"]) (sc := defScope s_read_step) (by decide +kernel)) (fun _ _ _ _ _ => (pg_name (i := 5) sc_read_step.nd rfl (Or.inl rfl))) (fun _ _ _ _ _ => pts_nil) (fun _ _ _ _ _ => (pe_dget (hu_of hr) (pv 2) (pv 5) (fun _ _ => rfl)))) pa_nil))))))), ?_⟩
  by_cases he : line = "-"
  · subst he
    have el : lineF "-" = .inr [] := if_pos rfl
    exact ⟨_, rfl, rfl, _, rfl, iteP rfl ⟨(by show 0 ≤ sizeLine; decide), fun p hp => kg [] el _ _ (same_upd hp _) (.tup (SqT.of upd_same) .nil)⟩⟩
  have el : lineF line = partF 0 (Txt.split line ", ") := if_neg he
  simp only [el] at kg kr
  refine ⟨_, rfl, rfl, _, rfl, iteN (fun z => he (V.str.inj z)) ?_⟩
  dsimp only [tNext]
  refine ⟨_, rfl, ⟨_, rfl⟩, line, ", ", rfl, rfl, (by decide +kernel), (by rw [sizeLine_eq]; omega), fun P hP => ?_⟩
  generalize Txt.split line ", " = ps at kg kr ⊢
  have s1 := same_upd hP (.lst (ps.map V.str))
  have hP1 : upd H P (.lst (ps.map V.str)) P = some (.lst (ps.map V.str)) := upd_same
  generalize upd H P (.lst (ps.map V.str)) = H1 at s1 hP1 ⊢
  refine ⟨_, rfl, P, _, rfl, SqL.of hP1, ?_⟩
  refine for_it walk_enum (fun j σ H' => ∃ (w4 w5 : Option V) (qs : List Pr), σ = [some (.int (n : Nat)), some (.str line), some (.ref D), some (.ref P), w4, w5] ∧ Same H1 H' ∧ partF 0 ps = preS qs (partF j (ps.drop j)) ∧ ps.take j = qs.map prT ∧ j ≤ 8 ∧ ∀ q ∈ qs, q ∈ allPr 4) ⟨none, none, [], rfl, Same.refl H1, (by rw [List.drop_zero]; cases partF 0 ps <;> rfl), rfl, Nat.zero_le _, (fun q hq => by cases hq)⟩ (fun j σ H' _ ⟨_, _, _, _, s, _⟩ => SqL.of (s _ _ hP1)) ?_ ?_
  · rintro j x σ H2 H3 hj ⟨w4, w5, qs, rfl, s2, epre, etake, j8, hqs⟩ ⟨p, y, z, rfl, hp, rfl, hy, hz⟩
    cases hy
    rw [List.length_map] at hj
    have s3 := same_step s2 hp (.tup [.int (j : Nat), z])
    have hz : (ps.map V.str)[j]? = some z := hz
    rw [List.getElem?_map] at hz
    obtain ⟨t, ht, rfl⟩ := Option.map_eq_some_iff.mp hz
    have edrop : ps.drop j = t :: ps.drop (j + 1) := by
      rw [List.drop_eq_getElem_cons hj]
      rw [List.getElem?_eq_getElem hj] at ht
      cases ht
      rfl
    rw [edrop] at epre
    refine ⟨p, _, rfl, SqT.of upd_same, rfl, _, _, rfl, _, _, rfl, rfl, ?_⟩
    have bad : (j = 8 ∨ findP t = none) → RaiseT T.x_BadText.C H E n (j + 1) := fun b => kr (j + 1) (by rw [epre, part_bad b]; rfl)
    by_cases h8 : j = 8
    · refine ⟨_, rfl, rfl, _, rfl, iteP (by rw [h8]; rfl) ?_⟩
      refine ⟨_, rfl, _, rfl, _, _, rfl, rfl, (by show 2 ≤ 1000; decide), exc_made2 fun dd H' s' hd' => ?_⟩
      exact bad (.inl h8) dd H' (s1.trans (s3.trans s')) hd'
    refine ⟨_, rfl, rfl, _, rfl, iteN (fun z => h8 (by have := V.int.inj z; omega)) ?_⟩
    have tb := tab t
    cases ef : findP t with
    | none =>
      rw [ef] at tb
      refine ⟨_, rfl, _, rfl, D, none, rfl, .inl ⟨kvs, .inr t, .inl (s3 _ _ (s1 _ _ hD)), rfl, tb.symm⟩, _, rfl, iteT ?_⟩
      refine ⟨_, rfl, _, rfl, _, _, rfl, rfl, (by show 2 ≤ 1000; decide), exc_made2 fun dd H' s' hd' => ?_⟩
      exact bad (.inr ef) dd H' (s1.trans (s3.trans s')) hd'
    | some q =>
      rw [ef] at tb
      obtain ⟨v, hv, hd⟩ := tb
      refine ⟨_, rfl, _, rfl, D, some v, rfl, .inl ⟨kvs, .inr t, .inl (s3 _ _ (s1 _ _ hD)), rfl, hv.symm⟩, _, rfl, iteF ⟨_, _, qs ++ [q], rfl, s3, ?_, ?_, by omega, fun y hy => ?_⟩⟩
      · rw [epre, part_step h8 ef]
      · rw [take_more ht, etake, List.map_append]
        rw [← (findP_some ef).2]
        rfl
      · rcases List.mem_append.mp hy with y1 | y1
        · exact hqs y y1
        · rw [List.mem_singleton.mp y1]
          exact (findP_some ef).1
  rintro σ H2 ⟨w4, w5, qs, rfl, s2, epre, etake, j8, hqs⟩
  rw [List.length_map] at epre etake j8
  rw [List.drop_length] at epre
  rw [List.take_length] at etake
  subst etake
  have kg := kg qs (by rw [epre]; show (Sum.inr (qs ++ []) : Nat ⊕ List Pr) = .inr qs; rw [List.append_nil])
  rw [List.length_map] at j8
  refine ⟨_, rfl, P, rfl, ⟨_, SqL.of (s2 _ _ hP1)⟩, fun D3 hD3 => ?_⟩
  refine lc_it walk_list (fun l H' => ∃ us : List V, H' D3 = some (.lst us) ∧ DpAll K H' us ((qs.take l).map prD) ∧ Same H2 H') ⟨[], upd_same, .nil, same_upd hD3 _⟩ (fun l H' _ ⟨_, _, _, s⟩ => SqL.of (s _ _ (s2 _ _ hP1))) ?_ ?_
  · rintro l x H3 H4 hl ⟨us, hA, hU, s3⟩ ⟨rfl, hz⟩
    rw [List.length_map, List.length_map] at hl
    rw [List.getElem?_map, List.getElem?_map] at hz
    obtain ⟨t, ht, rfl⟩ := Option.map_eq_some_iff.mp hz
    obtain ⟨pr, hpr, rfl⟩ := Option.map_eq_some_iff.mp ht
    have tb := tab (prT pr)
    rw [findP_of (hqs pr (List.mem_of_getElem? hpr))] at tb
    obtain ⟨v, hv, hd⟩ := tb
    have hlu := hU.len
    rw [List.length_map, List.length_take] at hlu
    have t4 := s1.trans (s2.trans s3)
    refine ⟨rfl, _, rfl, _, rfl, D, v, rfl, .inl ⟨kvs, .inr (prT pr), .inl (t4 _ _ hD), rfl, hv.symm⟩, _, hA, small1000 (by omega), us ++ [v], upd_same, ?_, fun b' o z => ?_⟩
    · have e : (qs.take (l + 1)).map prD = (qs.take l).map prD ++ [prD pr] := by
        rw [take_more hpr, List.map_append]
        rfl
      have tt := to_prs (qs.take (l + 1))
      rw [e] at tt ⊢
      exact prs_put tt hA hU (hd.same_at t4)
    · rw [upd_ne (ne_of_none z hD3)]
      exact s3 _ _ z
  rintro H3 ⟨us, hA, hU, s3⟩
  rw [List.length_map, List.length_map, List.take_length] at hU
  refine ⟨D3, us, rfl, .inl ⟨SqL.of hA, fun q hq => ?_⟩⟩
  have s4 := same_upd hq (.tup us)
  exact kg _ _ (s1.trans (s2.trans (s3.trans s4))) (.tup (SqT.of upd_same) (DpAll.same s4 _ _ hU))
end
section
variable {P : Program} {w : World} {K : PySem.W.Frag} {mg : Str → Option Value} {base : Heap}
theorem ok__law_steps (T : Top w K mg) : FnOk P w K mg base CX0 3 T.a__law_steps T.d__law_steps ["m", "tracks", "total", "most"] (sp__law_steps K) := by
  refine T.F__law_steps.ok sc__law_steps (fun vs H Q E h => ?_) (fun cdv A outer s H vs Q E hr h => ?_)
  · obtain ⟨m, i, many, top, n, rfl, M, h, hn, k⟩ := h
    rfl
  obtain ⟨m, i, many, top, n, rfl, M, h, hn, k⟩ := h
  refine ⟨_, (pss_cons (ps_set (i := 4) sc__law_steps.nd rfl (Or.inl rfl) (pe_lst pa_nil))
      (pss_cons (ps_for PassesOwn.never rfl (pi_range1 (by rfl) T.z_range (pa_cons (pv 2) pa_nil)) (pg_name (i := 5) sc__law_steps.nd rfl (Or.inl rfl)) (pss_one (ps_expr (pe_bm PySem.F.plainAttrs_list PySem.F.slot_list_append PySem.F.type_list_append mt_append (pv 4) (pa_cons (pe_callTy (k_tuple (K := K)) (by rfl) T.z_tuple bt_tuple (pa_cons (pe_lc (own := [("j", 6)]) rfl sc__law_steps.nd (pi_range1 (by rfl) T.z_range (pa_cons (pe_call (ok__law_next T) (hr.mono (by decide)) (by rfl) T.m__law_next T.F__law_next.kp T.b__law_next .nil pass0 (pa_cons (pv 0) (pa_cons (pe_op op_add (pv 3) pe_int) pa_nil))) pa_nil)) (blkOk_by (own := [("j", 6)]) (N := ["m", "tracks", "total", "most", "found", "k", "j"]) (sc := defScope s__law_steps) (by decide +kernel)) (fun _ _ _ _ _ => (pg_name (i := 6) sc__law_steps.nd rfl (Or.inl rfl))) (fun _ _ _ _ _ => pts_nil) (fun _ _ _ _ _ => (pe_call (ok__law_press T) (hr.mono (by decide)) (by rfl) T.m__law_press T.F__law_press.kp T.b__law_press .nil pass0 (pa_cons (pv 0) (pa_cons (pv 1) pa_nil))))) pa_nil)) pa_nil)))))
      (pss_one (ps_ret (pe_callTy (k_tuple (K := K)) (by rfl) T.z_tuple bt_tuple (pa_cons (pv 4) pa_nil)))))), ?_⟩
  obtain ⟨h1, h4, h0, h2, t1, t8⟩ := h
  refine ⟨(by show 0 ≤ sizeLine; decide), fun l hl0 => ?_⟩
  have s1 := same_upd hl0 (.lst [])
  refine ⟨_, rfl, _, rfl, by omega, by omega, ?_⟩
  refine for_it walk_range (fun j σ H' => ∃ (xs : List V) (row : List (List Pr)) (n' : Nat) (w5 w6 : Option V), σ = [some (.ref m), some (.int (i : Nat)), some (.int many), some (.int top), some (.ref l), w5, w6] ∧ H' l = some (.lst xs) ∧ DpAll K H' xs (row.map stD) ∧ row.length = j ∧ (∀ st ∈ row, st.length ≤ 8 ∧ ∀ p ∈ st, OkP p i) ∧ n' ≤ n + 81 * j ∧ MS H' m n' ∧ ¬ Lf H' m l ∧ Ef m H H')
    ⟨[], [], n, none, none, rfl, upd_same, .nil, rfl, (by intro t h; cases h), by omega, M.same s1, fun z => M.notLf hl0 (z.upd (M.mne hl0)), Ef.ofSame M s1⟩ (fun _ _ _ _ _ => trivial) ?_ ?_
  · rintro j x σ H2 H3 hj ⟨xs, row, n', w5, w6, rfl, hA, hX, hlr, hok, hn', N2, nl, g2⟩ ⟨rfl, rfl⟩
    have hlx := hX.len
    rw [List.length_map] at hlx
    have hj2 : j < 200 := by omega
    refine ⟨_, rfl, .inl ⟨rfl, _, SqL.of hA⟩, _, rfl, _, rfl, _, _, rfl, rfl, m, _, n', rfl, N2, by omega, by omega, by omega, fun r n3 H4 r0 r1 hn3 N3 e3 => ⟨_, rfl, by omega, by omega, fun D hD => ?_⟩⟩
    have hA4 := (e3.lst N2 hA nl).1
    have nl4 := (e3.lst N2 hA nl).2
    have lD : l ≠ D := ne_of_none hA4 hD
    refine lc_it walk_range (fun c H' => ∃ (ys : List V) (ps : List Pr) (n' : Nat), H' D = some (.lst ys) ∧ DpAll K H' ys (ps.map prD) ∧ ps.length = c ∧ (∀ p ∈ ps, OkP p i) ∧ n' ≤ n3 + 10 * c ∧ MS H' m n' ∧ ¬ Lf H' m D ∧ Ef m H4 H')
      ⟨[], [], n3, upd_same, .nil, rfl, (by intro z hz; cases hz), by omega, N3.same (same_upd hD _), fun z => N3.notLf hD (z.upd (N3.mne hD)), Ef.ofSame N3 (same_upd hD _)⟩ (fun _ _ _ _ => trivial) ?_ ?_
    · rintro c x G2 G3 hc ⟨ys, ps, n5, hB, hY, hlp, hps, hn5, N5, nlD, g5⟩ ⟨rfl, rfl⟩
      have hly := hY.len
      rw [List.length_map] at hly
      have hc8 : c < 9 := by omega
      refine ⟨rfl, ?_⟩
      refine ⟨_, rfl, _, rfl, m, i, n5, rfl, N5, h1, h4, by omega, fun v p n6 G6 hv okp hn6 N6 g6 => ?_⟩
      obtain ⟨hB6, nlD6⟩ := g6.lst N5 hB nlD
      refine ⟨_, hB6, small1000 (by omega), ys ++ [v], ps ++ [p], n6, upd_same, ?_, ?_, ?_, by omega, N6.upd hB6 nlD6, fun z => nlD6 (z.upd (N6.mneL hB6)), (g5.trans g6).upd hD (N6.mneL hB6)⟩
      · have q := DpAll.app (DpAll.keepT (g6.tk N5) _ _ (to_prs ps) hY) (.cons hv .nil)
        rw [List.map_append]
        exact DpAll.keepT (tk_upd hB6) _ _ (by have q2 := to_prs (ps ++ [p]); rw [List.map_append] at q2; exact q2) q
      · rw [List.length_append, List.length_singleton, hlp]
      · intro u hu
        rcases List.mem_append.mp hu with q | q
        · exact hps u q
        · rw [List.mem_singleton.mp q]
          exact okp
    rintro G2 ⟨ys, ps, n5, hB, hY, hlp, hps, hn5, N5, nlD, g5⟩
    obtain ⟨hA5, nl5⟩ := g5.lst N3 hA4 nl4
    refine ⟨D, _, rfl, .inl ⟨SqL.of hB, fun p hp => ?_⟩⟩
    have s6 := same_upd hp (.tup ys)
    have hA6 := s6 _ _ hA5
    have nl6 := noLf_same N5 s6 nl5
    have N6 := N5.same s6
    have hX6 : DpAll K (upd G2 p (.tup ys)) xs (row.map stD) := DpAll.same s6 _ _ (DpAll.keepT (g5.tk N3) _ _ (to_row row) (DpAll.keepT (e3.tk N2) _ _ (to_row row) hX))
    have hY6 := DpAll.same s6 _ _ hY
    refine ⟨l, _, _, rfl, rfl, hA6, small1000 (by omega), ?_⟩
    refine ⟨xs ++ [.ref p], row ++ [ps], n5, _, _, rfl, upd_same, ?_, ?_, ?_, by omega, N6.upd hA6 nl6, fun z => nl6 (z.upd (N6.mneL hA6)), (((g2.trans e3).trans g5).trans (Ef.ofSame N5 s6)).upd hl0 (N6.mneL hA6)⟩
    · have q := DpAll.app hX6 (.cons (.tup (SqT.of upd_same) hY6 : Dp K (upd G2 p (.tup ys)) (.ref p) (stD ps)) .nil)
      rw [List.map_append]
      exact DpAll.keepT (tk_upd hA6) _ _ (by have q2 := to_row (row ++ [ps]); rw [List.map_append] at q2; exact q2) q
    · rw [List.length_append, List.length_singleton, hlr]
    · intro u hu
      rcases List.mem_append.mp hu with q | q
      · exact hok u q
      · rw [List.mem_singleton.mp q]
        exact ⟨by omega, hps⟩
  rintro σ H2 ⟨xs, row, n', w5, w6, rfl, hA, hX, hlr, hok, hn', N2, nl, g2⟩
  refine ⟨_, rfl, l, _, rfl, .inl ⟨SqL.of hA, fun p hp => ?_⟩⟩
  have s3 := same_upd hp (.tup xs)
  exact k _ row n' _ (.tup (SqT.of upd_same) (DpAll.same s3 _ _ hX)) (by omega) ⟨by omega, hok⟩ (by omega) (N2.same s3) (g2.trans (Ef.ofSame N2 s3))
end
section
variable {P : Program} {w : World} {K : PySem.W.Frag} {mg : Str → Option Value} {base : Heap}
theorem okX_read_row (T : Top w K mg) : FnOk P w K mg base (L2.CX P w) 4 T.a_read_row T.d_read_row ["text"] (sp_read_rowX K T.x_BadText.C) := by
  refine T.F_read_row.okX sc_read_row (fun vs H Q E h => ?_) (fun cdv A outer s H vs Q E hr h => ?_)
  · obtain ⟨v, d, rfl, hv, hl, kg, kr⟩ := h
    rfl
  obtain ⟨v, d, rfl, hv, hl, kg, kr⟩ := h
  refine ⟨_, (pss_cons (ps_if (pt_not (pt_val (pe_callB (k_isi (K := K)) (by rfl) T.z_isinstance bt_isinstance (pa_cons (pv 0) (pa_cons (pe_bltn (v := .ty "str") (by rfl) T.z_str bt_str rfl) pa_nil))))) (pss_one (ps_raise rfl (takes_of rfl rfl rfl rfl) (pmk_oex T.x_BadText.ox T.x_BadText.iC T.x_BadText.tI (ok_BadText_init T) (hr.mono (by decide)) T.x_BadText.b .nil pass0 (by rfl) T.x_BadText.m (pa_cons pe_int (pa_cons pe_int pa_nil))))) pss_nil)
      (pss_cons (ps_if (pt_cmpR op_eq (pv 0) pe_str (nomark _)) (pss_one (ps_ret (pe_tup pa_nil))) pss_nil)
      (pss_cons (ps_setDc (i := 1) (own := [("press", 5)]) rfl sc_read_row.nd rfl rfl (sw_dict rfl rfl rfl (by decide +kernel)) (k_piL (K := K) (pe_call (ok_every_press T) (hr.mono (by decide)) (by rfl) T.m_every_press T.F_every_press.kp T.b_every_press .nil pass0 (pa_cons (pe_glob (v := .int 4) rfl T.c_MOST_TRACKS ⟨_, rfl⟩) pa_nil))) (blkOk_by (own := [("press", 5)]) (N := ["text", "presses", "steps", "at", "line", "press"]) (sc := defScope s_read_row) (by decide +kernel)) (fun _ _ _ _ _ => (pg_name (i := 5) sc_read_row.nd rfl (Or.inl rfl))) (fun _ _ _ _ _ => pts_nil) (fun _ _ _ _ _ => (pe_call (ok_press_text T) (hr.mono (by decide)) (by rfl) T.m_press_text T.F_press_text.kp T.b_press_text .nil pass0 (pa_cons (pv 5) pa_nil))) (fun _ _ _ _ _ => (pv 5)))
      (pss_cons (ps_set (i := 2) sc_read_row.nd rfl (Or.inl rfl) (pe_lst pa_nil))
      (pss_cons (ps_for (passes_of rfl) rfl (k_piEL (K := K) (by rfl) T.z_enumerate (pa_cons (pe_split (pv 0) pe_str) pa_nil)) (pg_tup rfl (pgs_cons (pg_name (i := 3) sc_read_row.nd rfl (Or.inl rfl)) (pgs_cons (pg_name (i := 4) sc_read_row.nd rfl (Or.inl rfl)) pgs_nil))) (pss_cons (ps_if (pt_cmpR op_eq (pv 3) (pe_glob (v := .int 200) rfl T.c_MOST_STEPS ⟨_, rfl⟩) (nomark _)) (pss_one (ps_raise rfl (takes_of rfl rfl rfl rfl) (pmk_oex T.x_BadText.ox T.x_BadText.iC T.x_BadText.tI (ok_BadText_init T) (hr.mono (by decide)) T.x_BadText.b .nil pass0 (by rfl) T.x_BadText.m (pa_cons (pe_op op_add (pv 3) pe_int) (pa_cons pe_int pa_nil))))) pss_nil)
      (pss_one (ps_expr (pe_bm PySem.F.plainAttrs_list PySem.F.slot_list_append PySem.F.type_list_append mt_append (pv 2) (pa_cons (pe_callS (okX_read_step T) (hr.mono (by decide)) (by rfl) T.m_read_step T.F_read_step.kp T.b_read_step (fun σ => passAt (takes_of rfl rfl rfl rfl) σ) (pa_cons (pe_op op_add (pv 3) pe_int) (pa_cons (pv 4) (pa_cons (pv 1) pa_nil)))) pa_nil))))))
      (pss_one (ps_ret (pe_callTy (k_tuple (K := K)) (by rfl) T.z_tuple bt_tuple (pa_cons (pv 2) pa_nil))))))))), ?_⟩
  have isn : ∀ b : Bool, (∀ z, d ≠ .str z) → thF d = .inl (0, 0) := fun b h => by
    cases d with
    | str z => exact absurd rfl (h z)
    | _ => rfl
  have bad0 : thF d = .inl (0, 0) → RaiseT T.x_BadText.C H E 0 0 := fun e => kr (0, 0) e
  cases d with
  | int i => exact ⟨_, rfl, v, _, _, _, false, rfl, ClsV.ty _, hv.ty, kit_str _, false, rfl, iteT ⟨(by show 2 ≤ 1000; decide), exc_made2 fun dd H' s' hd' => bad0 rfl dd H' s' hd'⟩⟩
  | bl i => exact ⟨_, rfl, v, _, _, _, false, rfl, ClsV.ty _, hv.ty, kit_str _, false, rfl, iteT ⟨(by show 2 ≤ 1000; decide), exc_made2 fun dd H' s' hd' => bad0 rfl dd H' s' hd'⟩⟩
  | non => exact ⟨_, rfl, v, _, _, _, false, rfl, ClsV.ty _, hv.ty, kit_str _, false, rfl, iteT ⟨(by show 2 ≤ 1000; decide), exc_made2 fun dd H' s' hd' => bad0 rfl dd H' s' hd'⟩⟩
  | lst => exact ⟨_, rfl, v, _, _, _, false, rfl, ClsV.ty _, hv.ty, kit_str _, false, rfl, iteT ⟨(by show 2 ≤ 1000; decide), exc_made2 fun dd H' s' hd' => bad0 rfl dd H' s' hd'⟩⟩
  | dct => exact ⟨_, rfl, v, _, _, _, false, rfl, ClsV.ty _, hv.ty, kit_str _, false, rfl, iteT ⟨(by show 2 ≤ 1000; decide), exc_made2 fun dd H' s' hd' => bad0 rfl dd H' s' hd'⟩⟩
  | tup ds => exact ⟨_, rfl, v, _, _, _, false, rfl, ClsV.ty _, hv.ty, kit_str _, false, rfl, iteT ⟨(by show 2 ≤ 1000; decide), exc_made2 fun dd H' s' hd' => bad0 rfl dd H' s' hd'⟩⟩
  | str tx =>
    cases hv
    have hl : tx.length ≤ 100000 := hl
    have kg : ∀ row, textF tx = .inr row → ∀ w H', Same H H' → Dp K H' w (dRow row) → Q w H' := kg
    have kr : ∀ e, textF tx = .inl e → RaiseT T.x_BadText.C H E e.1 e.2 := kr
    refine ⟨_, rfl, .str tx, _, _, _, true, rfl, ClsV.ty _, (Rt.str _).ty, kit_str (.str tx), true, rfl, iteF ?_⟩
    dsimp only [tNext]
    by_cases he : tx = ""
    · subst he
      have el : textF "" = .inr [] := if_pos rfl
      exact ⟨_, rfl, rfl, _, rfl, iteP rfl ⟨(by show 0 ≤ sizeLine; decide), fun p hp => kg [] el _ _ (same_upd hp _) (.tup (SqT.of upd_same) .nil)⟩⟩
    have el : textF tx = linesF 0 (Txt.split tx "\n") := if_neg he
    simp only [el] at kg kr
    have ss := split_sum (x := tx) (y := "\n") (by decide +kernel) (by decide +kernel)
    rw [show ("\n" : Str).length = 1 by decide +kernel, Nat.mul_one] at ss
    refine ⟨_, rfl, rfl, _, rfl, iteN (fun z => he (V.str.inj z)) ?_⟩
    dsimp only [tNext]
    refine ⟨4, rfl, by decide, fun A xs H1 s1 hA hX => ⟨A, rfl, ⟨_, SqL.of hA⟩, fun D hD => ?_⟩⟩
    have hlx := hX.len
    rw [List.length_map] at hlx
    have l48 : (allPr 4).length = 48 := by decide +kernel
    refine dc_it walk_list (fun l H' => ∃ kvs : List (Key × V), H' D = some (.dK kvs) ∧ kvs.length ≤ l ∧ (∀ p ∈ (allPr 4).take l, ∃ v, valV kvs (.inr (prT p)) = some v ∧ Dp K H1 v (prD p)) ∧ (∀ s, (∀ p ∈ (allPr 4).take l, prT p ≠ s) → valV kvs (.inr s) = none) ∧ Same H1 H') ⟨[], upd_same, Nat.zero_le _, (fun p hp => by cases hp), (fun _ _ => rfl), same_upd hD _⟩ (fun l H' _ ⟨_, _, _, _, _, s⟩ => SqL.of (s _ _ hA)) ?_ ?_
    · rintro l x H2 H3 hl ⟨kvs, hK, hkl, hv, hno, s2⟩ ⟨rfl, hx⟩
      obtain ⟨p, hp, hP⟩ := hX.map_get hx
      have mp := List.mem_of_getElem? hp
      refine ⟨rfl, _, rfl, x, p, rfl, hP.same_at s2, mp, fun H4 s4 => ⟨_, rfl, kvs, .inr (prT p), rfl, s4 _ _ hK, small1000 (by omega), putK kvs (.inr (prT p)) x, upd_same, ?_, fun p' hp' => ?_, fun s hs => ?_, fun b' o z => ?_⟩⟩
      · have := put_len kvs (.inr (prT p)) x
        omega
      · rw [val_put]
        by_cases e : prT p' = prT p
        · rw [take_more hp] at hp'
          have mp' : p' ∈ allPr 4 := by
            rcases List.mem_append.mp hp' with z | z
            · exact List.mem_of_mem_take z
            · rw [List.mem_singleton.mp z]
              exact mp
          have e2 := pr_inj mp' mp e
          subst e2
          rw [if_pos rfl]
          exact ⟨x, rfl, hP⟩
        · rw [if_neg (fun z => e (Sum.inr.inj z))]
          rw [take_more hp] at hp'
          rcases List.mem_append.mp hp' with z | z
          · exact hv p' z
          · exact absurd (by rw [List.mem_singleton.mp z]) e
      · rw [take_more hp] at hs
        rw [val_put, if_neg (fun z => hs p (List.mem_append_right _ (List.mem_singleton.mpr rfl)) (Sum.inr.inj z).symm)]
        exact hno s fun y hy => hs y (List.mem_append_left _ hy)
      · rw [upd_ne (ne_of_none z hD)]
        exact s4 _ _ (s2 _ _ z)
    rintro H2 ⟨kvs, hK, hkl, hv, hno, s2⟩
    rw [hlx, List.take_length] at hv hno
    have tab : TabQ K H2 kvs := fun s => by
      cases ef : findP s with
      | none => exact hno s (findP_no ef)
      | some p =>
        obtain ⟨mp, ep⟩ := findP_some ef
        obtain ⟨v, e, d⟩ := hv p mp
        rw [ep] at e
        exact ⟨v, e, d.same_at s2⟩
    refine ⟨(by show 0 ≤ sizeLine; decide), fun L hL => ?_⟩
    have sL := same_upd hL (.lst [])
    have hL0 : upd H2 L (.lst []) L = some (.lst []) := upd_same
    have tab := tab.same sL
    have hK := sL _ _ hK
    have sH := s1.trans (s2.trans sL)
    have hLn : H L = none := by
      cases z : H L with
      | none => rfl
      | some o =>
        rw [s2 _ _ (s1 _ _ z)] at hL
        cases hL
    generalize upd H2 L (.lst []) = H3 at sL hL0 tab hK sH ⊢
    refine ⟨_, rfl, ⟨_, rfl⟩, tx, "\n", rfl, rfl, (by decide +kernel), (by rw [sizeLine_eq]; omega), fun P hP => ?_⟩
    generalize Txt.split tx "\n" = ls at kg kr ss ⊢
    have s4 := same_upd hP (.lst (ls.map V.str))
    have hP1 : upd H3 P (.lst (ls.map V.str)) P = some (.lst (ls.map V.str)) := upd_same
    have tab := tab.same s4
    have hK := s4 _ _ hK
    have hL1 := s4 _ _ hL0
    have hPL : P ≠ L := fun z => by
      rw [z] at hP
      rw [hP] at hL0
      cases hL0
    generalize upd H3 P (.lst (ls.map V.str)) = H4 at s4 hP1 tab hK hL1 ⊢
    refine ⟨P, _, rfl, SqL.of hP1, ?_⟩
    refine for_it walk_enum (fun j σ H' => ∃ (vs : List V) (w3 w4 : Option V) (row : List (List Pr)), σ = [some (.str tx), some (.ref D), some (.ref L), w3, w4, none] ∧ H' L = some (.lst vs) ∧ DpAll K H' vs (row.map stD) ∧ H' D = some (.dK kvs) ∧ TabQ K H' kvs ∧ H' P = some (.lst (ls.map V.str)) ∧ Same H H' ∧ linesF 0 ls = preS row (linesF j (ls.drop j)) ∧ row.length = j ∧ j ≤ 200) ⟨[], none, none, [], rfl, hL1, .nil, hK, tab, hP1, sH.trans s4, (by rw [List.drop_zero]; cases linesF 0 ls <;> rfl), rfl, Nat.zero_le _⟩ (fun j σ H' _ ⟨_, _, _, _, _, _, _, _, _, h, _⟩ => SqL.of h) ?_ ?_
    · rintro j x σ H5 H6 hj ⟨vs, w3, w4, row, rfl, hA5, hV5, hK5, tab5, hP5, s5, epre, elen, j200⟩ ⟨p, y, z, rfl, hp, rfl, hy, hz⟩
      cases hy
      rw [List.length_map] at hj
      have hz : (ls.map V.str)[j]? = some z := hz
      rw [List.getElem?_map] at hz
      obtain ⟨t, ht, rfl⟩ := Option.map_eq_some_iff.mp hz
      have edrop : ls.drop j = t :: ls.drop (j + 1) := by
        rw [List.drop_eq_getElem_cons hj]
        rw [List.getElem?_eq_getElem hj] at ht
        cases ht
        rfl
      rw [edrop] at epre
      have s6 := same_upd hp (.tup [.int (j : Nat), .str t])
      have hlv := hV5.len
      rw [List.length_map, elen] at hlv
      refine ⟨p, _, rfl, SqT.of upd_same, rfl, _, _, rfl, _, _, rfl, rfl, ?_⟩
      by_cases h2 : j = 200
      · refine ⟨_, rfl, rfl, _, rfl, iteP (by rw [h2]; rfl) ?_⟩
        refine ⟨_, rfl, _, _, rfl, rfl, (by show 2 ≤ 1000; decide), exc_made2 fun dd H' s' hd' => ?_⟩
        subst h2
        exact kr (201, 0) (by rw [epre]; rfl) dd H' (s5.trans (s6.trans s')) hd'
      refine ⟨_, rfl, rfl, _, rfl, iteN (fun z => h2 (by have := V.int.inj z; omega)) ?_⟩
      dsimp only [tNext]
      have tl : t.length ≤ 100000 := by
        have q := len_mem (ps := ls) (List.mem_of_getElem? ht)
        omega
      refine ⟨_, rfl, .inl ⟨rfl, _, SqL.of (s6 _ _ hA5)⟩, _, rfl, _, _, rfl, rfl, _, rfl, _, rfl, j + 1, t, D, kvs, rfl, s6 _ _ hK5, tab5.same s6, tl, fun st est w H7 s7 hw => ?_, fun e ee => ?_⟩
      rotate_left
      · exact (kr (j + 1, e) (by rw [epre, line_bad h2 ee]; rfl)).at (s5.trans s6)
      have s67 := s6.trans s7
      have hP7 := s67 _ _ hP5
      have tt := to_row (row ++ [st])
      have e : (row ++ [st]).map stD = row.map stD ++ [stD st] := by rw [List.map_append]; rfl
      rw [e] at tt
      refine ⟨L, _, _, rfl, rfl, s67 _ _ hA5, small1000 (by omega), vs ++ [w], _, _, row ++ [st], rfl, upd_same, ?_, ?_, ?_, ?_, ?_, ?_, ?_, ?_⟩
      · rw [e]
        exact prs_put tt (s67 _ _ hA5) (DpAll.same s67 _ _ hV5) hw
      · rw [upd_ne (fun z => by rw [z] at hK5; rw [hK5] at hA5; cases hA5)]
        exact s67 _ _ hK5
      · exact tabq_put (tab5.same s67) (s67 _ _ hA5)
      · rw [upd_ne hPL]
        exact hP7
      · intro b o z
        have lb : b ≠ L := fun y => by
          rw [y] at z
          rw [hLn] at z
          cases z
        rw [upd_ne lb]
        exact s67 _ _ (s5 _ _ z)
      · rw [epre, line_step h2 est]
      · rw [List.length_append, elen]
        rfl
      · omega
    rintro σ H5 ⟨vs, w3, w4, row, rfl, hA5, hV5, hK5, tab5, hP5, s5, epre, elen, j200⟩
    rw [List.length_map, List.drop_length] at epre
    refine ⟨_, rfl, L, vs, rfl, .inl ⟨SqL.of hA5, fun q hq => ?_⟩⟩
    have s6 := same_upd hq (.tup vs)
    exact kg row (by rw [epre]; show (Sum.inr (row ++ []) : (Nat × Nat) ⊕ List (List Pr)) = .inr row; rw [List.append_nil]) _ _ (s5.trans s6) (.tup (SqT.of upd_same) (DpAll.same s6 _ _ hV5))
end
end My

namespace My
open PySem PySem.Spec PyProof.Rows L2
section
variable {P : Program} {w : World} {K : PySem.W.Frag} {mg : Str → Option Value} {base : Heap}
theorem ok_law (T : Top w K mg) (TB : LamX.TabB base mg T.lc T.lT) : FnG P w K mg base 7 T.a_law T.d_law ["script"] (sp_lawT T.lT K) := by
  refine T.FL.okG sc_law (fun vs H Q E h => ?_) (fun A outer s H vs Q E hr hG h => ?_)
  · obtain ⟨a, ns, rfl, _⟩ := h
    rfl
  obtain ⟨a, ns, rfl, hT, hS, hl, q⟩ := h
  refine ⟨_, (pss_cons (ps_set (i := 1) sc_law.nd rfl (Or.inl rfl) (pe_call (ok__law_begun T) (hr.mono (by decide)) (by rfl) T.m__law_begun T.F__law_begun.kp T.b__law_begun .nil pass0 (pa_cons (pv 0) pa_nil)))
      (pss_cons (ps_for PassesOwn.never rfl (pi_range1 (by rfl) T.z_range (pa_cons (pe_op op_add pe_int (pe_callB (call_min2 rfl) (by rfl) T.z_min bt_min (pa_cons (pe_callB (k_len (K := K)) (by rfl) T.z_len bt_len (pa_cons (pv 0) pa_nil)) (pa_cons pe_int pa_nil)))) pa_nil)) (pg_name (i := 2) sc_law.nd rfl (Or.inl rfl)) (pss_cons (ps_set (i := 3) sc_law.nd rfl (Or.inr rfl) (pe_call (ok__law_text_of T) (hr.mono (by decide)) (by rfl) T.m__law_text_of T.F__law_text_of.kp T.b__law_text_of .nil pass0 (pa_cons (pe_call (ok__law_steps T) (hr.mono (by decide)) (by rfl) T.m__law_steps T.F__law_steps.kp T.b__law_steps .nil pass0 (pa_cons (pv 1) (pa_cons pe_int (pa_cons (pe_call (ok__law_next T) (hr.mono (by decide)) (by rfl) T.m__law_next T.F__law_next.kp T.b__law_next .nil pass0 (pa_cons (pv 1) (pa_cons pe_int pa_nil))) (pa_cons (pe_ix (k_ixL (K := K)) (pe_lst (pa_cons pe_int (pa_cons pe_int (pa_cons pe_int pa_nil)))) (pe_call (ok__law_next T) (hr.mono (by decide)) (by rfl) T.m__law_next T.F__law_next.kp T.b__law_next .nil pass0 (pa_cons (pv 1) (pa_cons pe_int pa_nil))) (fun _ _ => rfl)) pa_nil))))) pa_nil)))
      (pss_cons (ps_for PassesOwn.never rfl (pi_range1 (by rfl) T.z_range (pa_cons pe_int pa_nil)) (pg_name (i := 4) sc_law.nd rfl (Or.inl rfl)) (pss_cons (ps_if (pt_cmpR op_ne (pe_callB (k_reprV (K := K) hr.units hG) (by rfl) T.z_repr bt_repr (pa_cons (pe_lam (k := 4) (by rfl) T.m__law_outcome T.F__law_outcome T.b__law_outcome sc__law_outcome rfl (Or.inl rfl) (fun cdg => gives__law_outcome T rfl rfl rfl) TB rfl (hr.mono (by decide)) (LamX.lamS_by (show LamX.lamSB (defScope s_law) _ = true by decide +kernel)) (by rfl) (fun _ _ _ _ _ => by rfl) (fun A outer s H E f c' hr => (pe_callS (okX_read_row T) (hr.mono (by decide)) (by rfl) T.m_read_row T.F_read_row.kp T.b_read_row (fun σ => passAt (takes_of rfl rfl rfl rfl) σ) (pa_cons (pv 3) pa_nil)))) pa_nil)) (pe_callB (k_reprV (K := K) hr.units hG) (by rfl) T.z_repr bt_repr (pa_cons (pe_call (ok__law_text_due T) (hr.mono (by decide)) (by rfl) T.m__law_text_due T.F__law_text_due.kp T.b__law_text_due .nil pass0 (pa_cons (pv 3) pa_nil)) pa_nil)) (nomark _)) (pss_one (ps_ret pe_bl)) pss_nil)
      (pss_one (ps_set (i := 3) sc_law.nd rfl (Or.inr rfl) (pe_call (ok__law_bent_text T) (hr.mono (by decide)) (by rfl) T.m__law_bent_text T.F__law_bent_text.kp T.b__law_bent_text .nil pass0 (pa_cons (pv 1) (pa_cons (pv 3) pa_nil)))))))
      (pss_cons (ps_set (i := 5) sc_law.nd rfl (Or.inr rfl) (pe_ix (k_ixL (K := K)) (pe_lst (pa_cons pe_non (pa_cons pe_int (pa_cons pe_bl (pa_cons (pe_lst (pa_cons pe_str pa_nil)) (pa_cons (pe_tup pa_nil) (pa_cons pe_dnewK pa_nil))))))) (pe_call (ok__law_next T) (hr.mono (by decide)) (by rfl) T.m__law_next T.F__law_next.kp T.b__law_next .nil pass0 (pa_cons (pv 1) (pa_cons pe_int pa_nil))) (fun _ _ => rfl)))
      (pss_one (ps_if (pt_cmpR (k_neD (K := K) hr.units) (pe_lam (k := 4) (by rfl) T.m__law_outcome T.F__law_outcome T.b__law_outcome sc__law_outcome rfl (Or.inl rfl) (fun cdg => gives__law_outcome T rfl rfl rfl) TB rfl (hr.mono (by decide)) (LamX.lamS_by (show LamX.lamSB (defScope s_law) _ = true by decide +kernel)) (by rfl) (fun _ _ _ _ _ => by rfl) (fun A outer s H E f c' hr => (pe_callS (okX_read_row T) (hr.mono (by decide)) (by rfl) T.m_read_row T.F_read_row.kp T.b_read_row (fun σ => passAt (takes_of rfl rfl rfl rfl) σ) (pa_cons (pv 5) pa_nil)))) (pe_tup (pa_cons pe_str (pa_cons pe_int (pa_cons pe_int pa_nil)))) (nomark _)) (pss_one (ps_ret pe_bl)) pss_nil))))))
      (pss_cons (ps_set (i := 6) sc_law.nd rfl (Or.inl rfl) (pe_op op_add pe_int (pe_call (ok__law_next T) (hr.mono (by decide)) (by rfl) T.m__law_next T.F__law_next.kp T.b__law_next .nil pass0 (pa_cons (pv 1) (pa_cons pe_int pa_nil)))))
      (pss_cons (ps_set (i := 3) sc_law.nd rfl (Or.inr rfl) (k_join (K := K) pe_str (pe_op op_rep (pe_lst (pa_cons pe_str pa_nil)) (pv 6))))
      (pss_cons (ps_set (i := 7) sc_law.nd rfl (Or.inr rfl) (k_join (K := K) pe_str (pe_op op_cat (pe_op op_rep (pe_lst (pa_cons pe_str pa_nil)) pe_int) (pe_lst (pa_cons pe_str pa_nil)))))
      (pss_cons (ps_set (i := 8) sc_law.nd rfl (Or.inl rfl) (pe_lst (pa_cons (pe_lam (k := 4) (by rfl) T.m__law_outcome T.F__law_outcome T.b__law_outcome sc__law_outcome rfl (Or.inl rfl) (fun cdg => gives__law_outcome T rfl rfl rfl) TB rfl (hr.mono (by decide)) (LamX.lamS_by (show LamX.lamSB (defScope s_law) _ = true by decide +kernel)) (by rfl) (fun _ _ _ _ _ => by rfl) (fun A outer s H E f c' hr => (pe_callS (okX_read_row T) (hr.mono (by decide)) (by rfl) T.m_read_row T.F_read_row.kp T.b_read_row (fun σ => passAt (takes_of rfl rfl rfl rfl) σ) (pa_cons (pv 3) pa_nil)))) pa_nil)))
      (pss_cons (ps_expr (pe_bm PySem.F.plainAttrs_list PySem.F.slot_list_append PySem.F.type_list_append mt_append (pv 8) (pa_cons (pe_lam (k := 4) (by rfl) T.m__law_outcome T.F__law_outcome T.b__law_outcome sc__law_outcome rfl (Or.inl rfl) (fun cdg => gives__law_outcome T rfl rfl rfl) TB rfl (hr.mono (by decide)) (LamX.lamS_by (show LamX.lamSB (defScope s_law) _ = true by decide +kernel)) (by rfl) (fun _ _ _ _ _ => by rfl) (fun A outer s H E f c' hr => (pe_callS (okX_read_row T) (hr.mono (by decide)) (by rfl) T.m_read_row T.F_read_row.kp T.b_read_row (fun σ => passAt (takes_of rfl rfl rfl rfl) σ) (pa_cons (pv 7) pa_nil)))) pa_nil)))
      (pss_cons (ps_expr (pe_bm PySem.F.plainAttrs_list PySem.F.slot_list_append PySem.F.type_list_append mt_append (pv 8) (pa_cons (pe_lam (k := 4) (by rfl) T.m__law_outcome T.F__law_outcome T.b__law_outcome sc__law_outcome rfl (Or.inl rfl) (fun cdg => gives__law_outcome T rfl rfl rfl) TB rfl (hr.mono (by decide)) (LamX.lamS_by (show LamX.lamSB (defScope s_law) _ = true by decide +kernel)) (by rfl) (fun _ _ _ _ _ => by rfl) (fun A outer s H E f c' hr => (pe_callS (okX_read_row T) (hr.mono (by decide)) (by rfl) T.m_read_row T.F_read_row.kp T.b_read_row (fun σ => passAt (takes_of rfl rfl rfl rfl) σ) (pa_cons (pe_op op_add_str pe_str (pv 7)) pa_nil)))) pa_nil)))
      (pss_cons (ps_set (i := 9) sc_law.nd rfl (Or.inl rfl) (pe_ifExp (pt_cmpR op_lt (pv 6) pe_int (nomark _)) (pe_lst (pa_cons (pe_op (op_repA (K := K)) (pe_tup (pa_cons (pe_tup (pa_cons (pe_tup (pa_cons pe_str (pa_cons pe_int pa_nil))) pa_nil)) pa_nil)) (pv 6)) pa_nil)) (pe_tup (pa_cons pe_str (pa_cons pe_int (pa_cons pe_int pa_nil))))))
      (pss_one (ps_ret (pe_cmpR (k_eqD (K := K) hr.units) (pv 8) (pe_lst (pa_cons (pv 9) (pa_cons (pe_tup (pa_cons pe_str (pa_cons pe_int (pa_cons pe_int pa_nil)))) (pa_cons (pe_tup (pa_cons pe_str (pa_cons pe_int (pa_cons pe_int pa_nil)))) pa_nil)))) (nomark _))))))))))))), ?_⟩
  refine ⟨_, rfl, a, ns, rfl, hS, hl, fun m H1 s1 M1 => ?_⟩
  have hmin := min_of 6 (((ns.map V.int).length : Nat) : Int) (by omega) (by omega)
  have tabs : LamX.Tabs [(T.lT, ((envOfC "law" (defScope s_law) 0 T.a_law (.ref T.lc)).qual ++ "<lambda>"))] H := tabs1 hT
  refine ⟨_, rfl, a, _, rfl, .inl (s1.seq hS), _, _, rfl, _, _, rfl, rfl, _, rfl, by omega, by omega, ?_⟩
  refine for_it walk_range (fun i σ H' => ∃ (n : Nat) (w2 w3 w4 w5 w6 w7 w8 : Option V), σ = [some (.ref a), some (.ref m), w2, w3, w4, w5, w6, w7, w8, none] ∧ MS H' m n ∧ n ≤ 50000 * i ∧ LamX.Tabs [(T.lT, ((envOfC "law" (defScope s_law) 0 T.a_law (.ref T.lc)).qual ++ "<lambda>"))] H')
    ⟨0, none, none, none, none, none, none, none, rfl, M1, by omega, tabs.ext s1⟩ (fun _ _ _ _ _ => trivial) ?_ ?_
  rotate_left
  · rintro σ H2 ⟨n, w2, w3, w4, w5, w6, w7, w8, rfl, M2, hn, T2⟩
    refine ⟨_, rfl, m, 3, n, rfl, M2, by decide, by decide, by omega, fun r3 n3 H3 a3 b3 hn3 M3 e3 => ⟨_, _, rfl, rfl, ?_⟩⟩
    have T3 := Tabs.ef T2 M2 e3
    obtain ⟨N, hN⟩ : ∃ N : Nat, (199 : Int) + r3 = N := ⟨(199 + r3).toNat, by omega⟩
    have hN1 : 199 ≤ N := by omega
    have hN2 : N ≤ 201 := by omega
    dsimp only [gName]
    rw [hN]
    refine ⟨⟨_, rfl⟩, (by show 1 ≤ sizeLine; decide), fun p1 hp1 => ⟨_, rfl, p1, _, _, rfl, rfl, upd_same, by omega, by omega, (by rw [Int.toNat_natCast, sizeLine_eq]; show 1 * N ≤ _; omega), fun p2 hp2 => ?_⟩⟩
    rw [Int.toNat_natCast, flat_str]
    have u1 := (same_upd hp1 (.lst [.str "tap 0"])).trans (same_upd hp2 (.lst ((List.replicate N ("tap 0" : Str)).map V.str)))
    have k2 : upd (upd H3 p1 (.lst [.str "tap 0"])) p2 (.lst ((List.replicate N ("tap 0" : Str)).map V.str)) p2 = some (.lst ((List.replicate N ("tap 0" : Str)).map V.str)) := upd_same
    have M4 := M3.same u1
    have T4 := T3.ext u1
    generalize upd (upd H3 p1 (.lst [.str "tap 0"])) p2 (.lst ((List.replicate N ("tap 0" : Str)).map V.str)) = H4 at u1 k2 M4 T4 ⊢
    have l5 : ("tap 0" : Str).length = 5 := by decide +kernel
    have l1 : ("\n" : Str).length = 1 := by decide +kernel
    have l3 : ("tap" : Str).length = 3 := by decide +kernel
    refine ⟨_, p2, _, rfl, rfl, .inl (SqL.of k2), (by rw [sum_rep, l5, l1, List.length_replicate]; omega), ?_⟩
    have jl := join_len "\n" (List.replicate N ("tap 0" : Str))
    rw [sum_rep, l5, l1, List.length_replicate] at jl
    obtain ⟨tx, etx⟩ : ∃ t, t = Txt.join "\n" (List.replicate N ("tap 0" : Str)) := ⟨_, rfl⟩
    rw [← etx] at jl ⊢
    dsimp only [gName]
    refine ⟨⟨_, rfl⟩, (by show 1 ≤ sizeLine; decide), fun p3 hp3 => ⟨p3, _, _, rfl, rfl, upd_same, by decide, by decide, (by rw [sizeLine_eq]; decide), fun p4 hp4 => ?_⟩⟩
    rw [show (200 : Int).toNat = 200 from rfl, flat_str]
    have u2 := (same_upd hp3 (.lst [.str "tap 0"])).trans (same_upd hp4 (.lst ((List.replicate 200 ("tap 0" : Str)).map V.str)))
    have k4 : upd (upd H4 p3 (.lst [.str "tap 0"])) p4 (.lst ((List.replicate 200 ("tap 0" : Str)).map V.str)) p4 = some (.lst ((List.replicate 200 ("tap 0" : Str)).map V.str)) := upd_same
    have M5 := M4.same u2
    have T5 := T4.ext u2
    generalize upd (upd H4 p3 (.lst [.str "tap 0"])) p4 (.lst ((List.replicate 200 ("tap 0" : Str)).map V.str)) = H5 at u2 k4 M5 T5 ⊢
    refine ⟨(by show 1 ≤ sizeLine; decide), fun p5 hp5 => ?_⟩
    have u3 := same_upd hp5 (.lst [.str "tap"])
    refine ⟨p4, p5, _, _, rfl, rfl, u3 _ _ k4, upd_same, (by rw [List.length_map, List.length_replicate]; decide), fun p6 hp6 => ?_⟩
    have u4 := same_upd hp6 (.lst ((List.replicate 200 ("tap 0" : Str) ++ [("tap" : Str)]).map V.str))
    have M6 := (M5.same u3).same u4
    have T6 := (T5.ext u3).ext u4
    rw [show (List.replicate 200 ("tap 0" : Str)).map V.str ++ [V.str "tap"] = (List.replicate 200 ("tap 0" : Str) ++ [("tap" : Str)]).map V.str by rw [List.map_append]; rfl]
    have sl : ((List.replicate 200 ("tap 0" : Str) ++ [("tap" : Str)]).map (·.length)).sum = 1003 := by
      rw [List.map_append, List.sum_append, sum_rep, l5]
      show 200 * 5 + (("tap" : Str).length + 0) = 1003
      rw [l3]
    have cl : (List.replicate 200 ("tap 0" : Str) ++ [("tap" : Str)]).length = 201 := by rw [List.length_append, List.length_replicate]; rfl
    refine ⟨_, p6, _, rfl, rfl, .inl (SqL.of upd_same), (by rw [sl, cl, l1]; decide), ?_⟩
    have jl2 := join_len "\n" (List.replicate 200 ("tap 0" : Str) ++ [("tap" : Str)])
    rw [sl, cl, l1] at jl2
    have tlate := text_late free_t1
    have tthird := text_third
    obtain ⟨lt, elt⟩ : ∃ t, t = Txt.join "\n" (List.replicate 200 ("tap 0" : Str) ++ [("tap" : Str)]) := ⟨_, rfl⟩
    rw [← elt] at jl2 tlate tthird ⊢
    generalize upd (upd H5 p5 (.lst [.str "tap"])) p6 (.lst ((List.replicate 200 ("tap 0" : Str) ++ [("tap" : Str)]).map V.str)) = H6 at u4 M6 T6 ⊢
    dsimp only [gName]
    refine lam_t (o := thF (.str tx)) T6 (fun H0 E' Q' y g r => ?_) fun v1 HA xA TA hv1 => ?_
    · exact ⟨_, rfl, .str tx, .str tx, rfl, .str _, (show tx.length ≤ 100000 by omega), fun row e w H' s hw => g row e w H' s hw, fun e ee => r e ee⟩
    refine ⟨(by show 1 ≤ sizeLine; decide), fun p8 hp8 => ?_⟩
    have x1 : LamX.ExtN HA (upd HA p8 (.lst [v1])) := ext_upd (LamX.ExtN.refl _) hp8
    have k8 : upd HA p8 (.lst [v1]) p8 = some (.lst [v1]) := upd_same
    have TB := TA.ext (same_upd hp8 (.lst [v1]))
    generalize upd HA p8 (.lst [v1]) = HB at x1 k8 TB ⊢
    dsimp only [gName]
    refine ⟨_, rfl, .inl ⟨rfl, _, SqL.of k8⟩, ?_⟩
    refine lam_t (o := thF (.str lt)) TB (fun H0 E' Q' y g r => ?_) fun v2 HC xC TC hv2 => ?_
    · exact ⟨_, rfl, .str lt, .str lt, rfl, .str _, (show lt.length ≤ 100000 by omega), fun row e w H' s hw => g row e w H' s hw, fun e ee => r e ee⟩
    have x2 := x1.trans xC
    have k8 := xC _ _ k8 fun ps z => by cases z
    refine ⟨p8, _, _, rfl, rfl, k8, small1000 (by show 1 ≤ 1000; decide), ?_⟩
    have e2 : thF (.str lt) = .inl (201, 0) := tlate
    rw [e2] at hv2
    have hv2 : Dp K (upd HC p8 (.lst ([v1] ++ [v2]))) v2 (badT 201 0) := Dp.keepT (tk_upd k8) (badT 201 0) _ rfl hv2
    have x2 : LamX.ExtN HA (upd HC p8 (.lst ([v1] ++ [v2]))) := ext_upd x2 hp8
    have TD : LamX.Tabs [(T.lT, ((envOfC "law" (defScope s_law) 0 T.a_law (.ref T.lc)).qual ++ "<lambda>"))] (upd HC p8 (.lst ([v1] ++ [v2]))) := tabs_upd TC k8
    have k8 : upd HC p8 (.lst ([v1] ++ [v2])) p8 = some (.lst ([v1] ++ [v2])) := upd_same
    generalize upd HC p8 (.lst ([v1] ++ [v2])) = HD at x2 hv2 TD k8 ⊢
    dsimp only [tNext]
    refine ⟨_, rfl, .inl ⟨rfl, _, SqL.of k8⟩, ?_⟩
    refine lam_t (o := thF (.str ("tap 0\ntap 0, tap\n" ++ lt))) TD (fun H0 E' Q' y g r => ?_) fun v3 HE xE TE hv3 => ?_
    · refine ⟨_, rfl, _, _, rfl, rfl, ?_, .str ("tap 0\ntap 0, tap\n" ++ lt), .str ("tap 0\ntap 0, tap\n" ++ lt), rfl, .str _, ?_, fun row e w H' s hw => g row e w H' s hw, fun e ee => r e ee⟩
      · rw [show ("tap 0\ntap 0, tap\n" : Str).length = 17 by decide +kernel, sizeLine_eq]
        omega
      · show ("tap 0\ntap 0, tap\n" ++ lt).length ≤ 100000
        rw [str_len_app, show ("tap 0\ntap 0, tap\n" : Str).length = 17 by decide +kernel]
        omega
    have x3 := x2.trans xE
    have k8 := xE _ _ k8 fun ps z => by cases z
    have hv2 : Dp K HE v2 (badT 201 0) := Dp.keepT (ExtN.tk xE) (badT 201 0) _ rfl hv2
    refine ⟨p8, _, _, rfl, rfl, k8, small1000 (by show 2 ≤ 1000; decide), ?_⟩
    have e3 : thF (.str ("tap 0\ntap 0, tap\n" ++ lt)) = .inl (2, 2) := tthird
    rw [e3] at hv3
    have hv3 : Dp K (upd HE p8 (.lst ([v1] ++ [v2] ++ [v3]))) v3 (badT 2 2) := Dp.keepT (tk_upd k8) (badT 2 2) _ rfl hv3
    have hv2 : Dp K (upd HE p8 (.lst ([v1] ++ [v2] ++ [v3]))) v2 (badT 201 0) := Dp.keepT (tk_upd k8) (badT 201 0) _ rfl hv2
    have x3 : LamX.ExtN HA (upd HE p8 (.lst ([v1] ++ [v2] ++ [v3]))) := ext_upd x3 hp8
    have k8 : upd HE p8 (.lst ([v1] ++ [v2] ++ [v3])) p8 = some (.lst ([v1] ++ [v2] ++ [v3])) := upd_same
    have hv1 := out_ext hv1 x3
    generalize upd HE p8 (.lst ([v1] ++ [v2] ++ [v3])) = HF at x3 hv1 hv2 hv3 k8 ⊢
    dsimp only [tNext]
    have fin : ∀ (v : V) (d : PyData) (HG : Hp), Dp K HG v d → outT (thF (.str tx)) = d → SeqAt.shaped (.list [d, badT 201 0, badT 2 2]) = true ∧ PyData.eqv (.list [d, badT 201 0, badT 2 2]) (.list [d, badT 201 0, badT 2 2]) = true → Same HF HG → (∀ H', Same HG H' → Dp K H' v d) →
        tRet (tOp (rEqD K) (tVar 8) (tLst (tCons (tVar 9) (tCons (tTup (tCons (tC (V.str "text")) (tCons (tC (V.int 201)) (tCons (tC (V.int 0)) tNil)))) (tCons (tTup (tCons (tC (V.str "text")) (tCons (tC (V.int 2)) (tCons (tC (V.int 2)) tNil)))) tNil)))))
          { nx := fun x H' => Q V.non H', rt := Q } [some (.ref a), some (.ref m), w2, some (.str tx), w4, w5, some (.int (N : Nat)), some (.str lt), some (.ref p8), some v] HG := by
      intro v d HG hv ed sh sFG hvk
      refine ⟨_, rfl, _, rfl, (by show 3 ≤ sizeLine; decide), fun q1 hq1 => ⟨(by show 3 ≤ sizeLine; decide), fun q2 hq2 => ⟨(by show 3 ≤ sizeLine; decide), fun q3 hq3 => ?_⟩⟩⟩
      have g1 := same_upd hq1 (.tup [.str "text", .int 201, .int 0])
      have g2 := same_upd hq2 (.tup [.str "text", .int 2, .int 2])
      have g3 := same_upd hq3 (.lst [v, .ref q1, .ref q2])
      have gg := sFG.trans (g1.trans (g2.trans g3))
      rw [ed] at hv1
      refine ⟨.list [d, badT 201 0, badT 2 2], .list [d, badT 201 0, badT 2 2], .lst (SqL.of (gg _ _ k8)) (.cons (hv1.same_at gg) (.cons (hv2.same_at gg) (.cons (hv3.same_at gg) .nil))), .lst (SqL.of upd_same) (.cons (hvk _ (g1.trans (g2.trans g3))) (.cons (.tup (SqT.of ((g2.trans g3) _ _ upd_same)) (.cons (.str _) (.cons (.int _) (.cons (.int _) .nil)))) (.cons (.tup (SqT.of (g3 _ _ upd_same)) (.cons (.str _) (.cons (.int _) (.cons (.int _) .nil)))) .nil))), sh.1, sh.1, ?_⟩
      rw [sh.2]
      exact q _
    refine ⟨_, rfl, _, _, rfl, rfl, _, rfl, ?_⟩
    by_cases h2 : N ≤ 200
    · refine iteP (by omega) ⟨(by show 2 ≤ sizeLine; decide), fun q1 hq1 => ⟨(by show 1 ≤ sizeLine; decide), fun q2 hq2 => ⟨(by show 1 ≤ sizeLine; decide), fun q3 hq3 => ⟨_, rfl, ?_⟩⟩⟩⟩
      have g1 := same_upd hq1 (.tup [.str "tap", .int 0])
      have g2 := same_upd hq2 (.tup [.ref q1])
      have g3 := same_upd hq3 (.tup [.ref q2])
      refine rd_repB (ds := [stD [.d .tap 0]]) (n := N) (.tup (SqT.of upd_same) (.cons (.tup (SqT.of (g3 _ _ upd_same)) (.cons (.tup (SqT.of ((g2.trans g3) _ _ upd_same)) (.cons (.str _) (.cons (.int _) .nil))) .nil)) .nil)) (by show 1 ≤ 1000; decide) (by omega) fun w G s' hw => ?_
      rw [flat_one] at hw
      have hw : Dp K G w (dRow (tapR N)) := by
        rw [show dRow (tapR N) = .tuple (List.replicate N (stD [.d .tap 0])) by show PyData.tuple ((List.replicate N [Pr.d .tap 0]).map stD) = _; rw [List.map_replicate]]
        exact hw
      refine ⟨(by show 1 ≤ sizeLine; decide), fun q4 hq4 => ?_⟩
      have g4 := same_upd hq4 (.lst [w])
      have ed : outT (thF (.str tx)) = .list [dRow (tapR N)] := by
        rw [show thF (.str tx) = .inr (tapR N) by rw [etx]; exact text_many (by omega) h2]
        rfl
      dsimp only [gName]
      refine fin (.ref q4) _ _ (.lst (SqL.of upd_same) (.cons (hw.same_at g4) .nil)) ed ?_ (g1.trans (g2.trans (g3.trans (s'.trans g4)))) fun H' s2 => .lst (SqL.of (s2 _ _ upd_same)) (.cons (hw.same_at (g4.trans s2)) .nil)
      rcases (by omega : N = 199 ∨ N = 200) with e | e
      · rw [e]
        exact fin_199
      · rw [e]
        exact fin_200
    · have e : N = 201 := by omega
      refine iteN (by omega) ⟨(by show 3 ≤ sizeLine; decide), fun q1 hq1 => ?_⟩
      have g1 := same_upd hq1 (.tup [.str "text", .int 201, .int 0])
      have ed : outT (thF (.str tx)) = badT 201 0 := by
        rw [show thF (.str tx) = .inl (201, 0) by rw [etx, e]; exact text_late free_tap]
        rfl
      dsimp only [gName]
      exact fin (.ref q1) _ _ (.tup (SqT.of upd_same) (.cons (.str _) (.cons (.int _) (.cons (.int _) .nil)))) ed fin_201 g1 fun H' s2 => .tup (SqT.of (s2 _ _ upd_same)) (.cons (.str _) (.cons (.int _) (.cons (.int _) .nil)))
  rintro i x σ H2 H3 hi ⟨n, w2, w3, w4, w5, w6, w7, w8, rfl, M2, hn, T2⟩ ⟨rfl, rfl⟩
  have hi8 : i < 8 := by omega
  refine ⟨_, rfl, _, rfl, m, 20, n, rfl, M2, by decide, by decide, by omega, fun r4 n4 H4 a4 b4 hn4 M4 e4 => ⟨(by show 3 ≤ sizeLine; decide), fun p5 hp5 => ?_⟩⟩
  have T4 := Tabs.ef T2 M2 e4
  have s5 := same_upd hp5 (.lst [.int 1, .int 3, .int 8])
  refine ⟨_, rfl, m, 3, n4, rfl, M4.same s5, by decide, by decide, by omega, fun r5 n5 H5 a5 b5 hn5 M5 e5 => ?_⟩
  have T5 := Tabs.ef (T4.ext s5) (M4.same s5) e5
  obtain ⟨z5, hz5, az5, mz5⟩ := drawV M4 hp5 e5 a5 (show r5 < (([V.int 1, .int 3, .int 8].length : Nat) : Int) from b5)
  refine ⟨p5, _, r5, z5, rfl, rfl, SqL.of hz5, az5, ?_⟩
  obtain ⟨top, rfl, top1, top8⟩ : ∃ top : Int, z5 = .int top ∧ 1 ≤ top ∧ top ≤ 8 := by
    rcases mem3 mz5 with rfl | rfl | rfl
    · exact ⟨1, rfl, by decide, by decide⟩
    · exact ⟨3, rfl, by decide, by decide⟩
    · exact ⟨8, rfl, by decide, by decide⟩
  refine ⟨m, 4, r4, top, n5, rfl, M5, ⟨by omega, by omega, by omega, by omega, top1, top8⟩, by omega, fun u row n6 H6 hu hrl okr hn6 M6 e6 => ?_⟩
  have T6 := Tabs.ef T5 M5 e6
  refine ⟨u, row, rfl, hu, okr, fun H7 s7 => ?_⟩
  have M7 := M6.same s7
  have T7 := T6.ext s7
  have lrow := rowT_len okr
  generalize rowT row = t0 at lrow ⊢
  dsimp only [gName]
  refine ⟨4, rfl, by decide, by decide, ?_⟩
  refine for_it walk_range (fun j σ H' => ∃ (n2 : Nat) (w4' : Option V) (tx : Str), σ = [some (.ref a), some (.ref m), some (.int (0 + ((i : Nat) : Int))), some (.str tx), w4', w5, w6, w7, w8, none] ∧ MS H' m n2 ∧ n2 ≤ n6 + 10 * j ∧ tx.length + 300 ≤ 2162 * 2 ^ j ∧ LamX.Tabs [(T.lT, ((envOfC "law" (defScope s_law) 0 T.a_law (.ref T.lc)).qual ++ "<lambda>"))] H')
    ⟨n6, w4, t0, rfl, M7, Nat.le_refl _, by omega, T7⟩ (fun _ _ _ _ _ => trivial) ?_ ?_
  · rintro j x σ H8 H9 hj ⟨n2, w4', tx, rfl, M8, hn2, hlx, T8⟩ ⟨rfl, rfl⟩
    have hj4 : j < 4 := by omega
    have pj : 2 ^ j ≤ 2 ^ 3 := Nat.pow_le_pow_right (by decide) (by omega)
    have hl4 : tx.length ≤ 40000 := by omega
    have hl5 : shortTh (.str tx) := show tx.length ≤ 100000 by omega
    have tl := tells_outT (.str tx)
    refine lam_t (o := thF (.str tx)) T8 (fun H0 E' Q' y g r => ?_) fun vo HC xC TC ho => ?_
    · exact ⟨_, rfl, .str tx, .str tx, rfl, .str _, hl5, fun row e w H' s hw => g row e w H' s hw, fun e ee => r e ee⟩
    refine ⟨vo, _, rfl, ho, tl, _, rfl, .str tx, .str tx, rfl, .str _, hl5, fun w HD sD hw => ?_⟩
    generalize outT (thF (.str tx)) = dd at tl ho hw ⊢
    refine ⟨w, dd, rfl, hw, tl, rfl, _, rfl, iteNN rfl ?_⟩
    dsimp only [tNext]
    have MD := (M8.ext xC).same sD
    refine ⟨_, rfl, _, rfl, m, tx, n2, rfl, MD, hl4, by omega, fun s2 n3 HE hls hn3 ME eE => ?_⟩
    exact ⟨n3, _, s2, rfl, ME, by omega, by rw [Nat.pow_succ]; omega, Tabs.ef (TC.ext sD) MD eE⟩
  rintro σ H8 ⟨n7, w4', tx, rfl, M8, hn7, _, T8⟩
  refine seq_pick (K := K) (ds := [.non, .int 5, .bl true, .lst, .tup [], .dct]) rfl (mkl_cons mk_non (mkl_cons (mk_int _) (mkl_cons (mk_bl _) (mkl_cons (mk_lst (mkl_cons (mk_str _) mkl_nil) (by show 1 ≤ 1000; decide)) (mkl_cons (mk_tup mkl_nil (by show 0 ≤ 1000; decide)) (mkl_cons mk_dct mkl_nil)))))) (by show 6 ≤ 1000; decide) rfl (by show 1 ≤ 6; decide) M8 (by omega) fun x d H9 n9 hd rx M9 hn9 e9 => ?_
  have hd0 : thF d = .inl (0, 0) ∧ shortTh d := by
    simp only [List.mem_cons, List.not_mem_nil, or_false] at hd
    rcases hd with rfl | rfl | rfl | rfl | rfl | rfl <;> exact ⟨rfl, trivial⟩
  have T9 := Tabs.ef T8 M8 e9
  dsimp only [gName]
  refine lam_t (o := .inl (0, 0)) T9 (fun H0 E' Q' y g r => ?_) fun vo HC xC TC ho => ?_
  · exact ⟨_, rfl, x, d, rfl, (rx.ex M9 y).rt, hd0.2, (fun row e => by rw [hd0.1] at e; cases e), (fun e ee => by rw [hd0.1] at ee; cases ee; exact r _ rfl)⟩
  refine ⟨(by show 3 ≤ sizeLine; decide), fun p hp => ?_⟩
  have sp := same_upd hp (.tup [.str "text", .int 0, .int 0])
  refine ⟨_, badT 0 0, ho.same_at sp, .tup (SqT.of upd_same) (.cons (.str _) (.cons (.int _) (.cons (.int _) .nil))), (by decide +kernel), (by decide +kernel), _, rfl, ?_⟩
  show (if (!PyData.eqv (badT 0 0) (badT 0 0)) = true then _ else _)
  rw [eqv_self _ (by decide +kernel)]
  exact iteF ⟨n9, _, _, _, _, _, _, _, rfl, (M9.ext xC).same sp, by omega, TC.ext sp⟩
end
end My

namespace My
open PySem PySem.Spec PyProof.Rows L2
theorem all_mk {P : Program} {w : World} {K : PySem.W.Frag} {h : Heap} {mg : Str → Option Value} {fa : Addr} (X : K.In h) (G : h.Ns mainGlobals mg) (hfa : mg "law" = some (.ref fa))
    {f0 f1 f2 f3 f4 f5 f6 f7 f8 f9 f10 f11 f12 f13 f14 f15 f16 f17 f18 f19 f20 f21 f22 f23 f24 : Addr} {od0 an0 od1 an1 od2 an2 od3 an3 od4 an4 od5 an5 od6 an6 od7 an7 od8 an8 od9 an9 od10 an10 od11 an11 od12 an12 od13 an13 od14 an14 od15 an15 od16 an16 od17 an17 od18 an18 od19 an19 od20 an20 od21 an21 od22 an22 od23 an23 od24 an24 : Option Addr} {sl0 sl1 sl2 sl3 sl4 sl5 sl6 sl7 sl8 sl9 sl10 sl11 sl12 sl13 sl14 sl15 sl16 sl17 sl18 sl19 sl20 sl21 sl22 sl23 sl24 : Array (Option Value)}
    {oc0 dc0 pm0 cd0 ct0 kV0 oc1 dc1 pm1 cd1 ct1 kV1 oc2 dc2 pm2 cd2 ct2 kV2 oc3 dc3 pm3 cd3 ct3 kV3 oc4 dc4 pm4 cd4 ct4 kV4 oc5 dc5 pm5 cd5 ct5 kV5 oc6 dc6 pm6 cd6 ct6 kV6 oc7 dc7 pm7 cd7 ct7 kV7 oc8 dc8 pm8 cd8 ct8 kV8 oc9 dc9 pm9 cd9 ct9 kV9 oc10 dc10 pm10 cd10 ct10 kV10 oc11 dc11 pm11 cd11 ct11 kV11 oc12 dc12 pm12 cd12 ct12 kV12 oc13 dc13 pm13 cd13 ct13 kV13 oc14 dc14 pm14 cd14 ct14 kV14 oc15 dc15 pm15 cd15 ct15 kV15 oc16 dc16 pm16 cd16 ct16 kV16 oc17 dc17 pm17 cd17 ct17 kV17 oc18 dc18 pm18 cd18 ct18 kV18 oc19 dc19 pm19 cd19 ct19 kV19 oc20 dc20 pm20 cd20 ct20 kV20 oc21 dc21 pm21 cd21 ct21 kV21 oc22 dc22 pm22 cd22 ct22 kV22 oc23 dc23 pm23 cd23 ct23 kV23 oc24 dc24 pm24 ct24 kV24 : Value}
    {tk_MOST_TRACKS tk_MOST_LAYERS tk_MODE tk_UNDONE tk_POINT tk_WAY tk_SIGN tk_MUTED tk_MOST_STEPS tk_MOST_PRESSES tk_NO_PRESS tk_BETWEEN : Tok}
    {cl : Addr}
    (a0 : PySem.W.nsIn K mainGlobals "put" = some (some (.ref f0)))
    (l0 : K.lookup f0 = some ⟨oc0, od0, .func (PySem.W.fnOf "put" "put" (defArgs s_put) (defBody s_put) (defScope s_put) .none kV0 dc0 pm0 an0 cd0 ct0), sl0⟩)
    (c0 : PySem.W.codeIn K cd0 "put" = true) (k0 : PySem.W.keepIn K (.ref f0) = true)
    (a1 : PySem.W.nsIn K mainGlobals "tap" = some (some (.ref f1)))
    (l1 : K.lookup f1 = some ⟨oc1, od1, .func (PySem.W.fnOf "tap" "tap" (defArgs s_tap) (defBody s_tap) (defScope s_tap) .none kV1 dc1 pm1 an1 cd1 ct1), sl1⟩)
    (c1 : PySem.W.codeIn K cd1 "tap" = true) (k1 : PySem.W.keepIn K (.ref f1) = true)
    (a2 : PySem.W.nsIn K mainGlobals "stop" = some (some (.ref f2)))
    (l2 : K.lookup f2 = some ⟨oc2, od2, .func (PySem.W.fnOf "stop" "stop" (defArgs s_stop) (defBody s_stop) (defScope s_stop) .none kV2 dc2 pm2 an2 cd2 ct2), sl2⟩)
    (c2 : PySem.W.codeIn K cd2 "stop" = true) (k2 : PySem.W.keepIn K (.ref f2) = true)
    (a3 : PySem.W.nsIn K mainGlobals "clear" = some (some (.ref f3)))
    (l3 : K.lookup f3 = some ⟨oc3, od3, .func (PySem.W.fnOf "clear" "clear" (defArgs s_clear) (defBody s_clear) (defScope s_clear) .none kV3 dc3 pm3 an3 cd3 ct3), sl3⟩)
    (c3 : PySem.W.codeIn K cd3 "clear" = true) (k3 : PySem.W.keepIn K (.ref f3) = true)
    (a4 : PySem.W.nsIn K mainGlobals "undo" = some (some (.ref f4)))
    (l4 : K.lookup f4 = some ⟨oc4, od4, .func (PySem.W.fnOf "undo" "undo" (defArgs s_undo) (defBody s_undo) (defScope s_undo) .none kV4 dc4 pm4 an4 cd4 ct4), sl4⟩)
    (c4 : PySem.W.codeIn K cd4 "undo" = true) (k4 : PySem.W.keepIn K (.ref f4) = true)
    (a5 : PySem.W.nsIn K mainGlobals "redo" = some (some (.ref f5)))
    (l5 : K.lookup f5 = some ⟨oc5, od5, .func (PySem.W.fnOf "redo" "redo" (defArgs s_redo) (defBody s_redo) (defScope s_redo) .none kV5 dc5 pm5 an5 cd5 ct5), sl5⟩)
    (c5 : PySem.W.codeIn K cd5 "redo" = true) (k5 : PySem.W.keepIn K (.ref f5) = true)
    (a6 : PySem.W.nsIn K mainGlobals "join" = some (some (.ref f6)))
    (l6 : K.lookup f6 = some ⟨oc6, od6, .func (PySem.W.fnOf "join" "join" (defArgs s_join) (defBody s_join) (defScope s_join) .none kV6 dc6 pm6 an6 cd6 ct6), sl6⟩)
    (c6 : PySem.W.codeIn K cd6 "join" = true) (k6 : PySem.W.keepIn K (.ref f6) = true)
    (a7 : PySem.W.nsIn K mainGlobals "turn" = some (some (.ref f7)))
    (l7 : K.lookup f7 = some ⟨oc7, od7, .func (PySem.W.fnOf "turn" "turn" (defArgs s_turn) (defBody s_turn) (defScope s_turn) .none kV7 dc7 pm7 an7 cd7 ct7), sl7⟩)
    (c7 : PySem.W.codeIn K cd7 "turn" = true) (k7 : PySem.W.keepIn K (.ref f7) = true)
    (a8 : PySem.W.nsIn K mainGlobals "flip" = some (some (.ref f8)))
    (l8 : K.lookup f8 = some ⟨oc8, od8, .func (PySem.W.fnOf "flip" "flip" (defArgs s_flip) (defBody s_flip) (defScope s_flip) .none kV8 dc8 pm8 an8 cd8 ct8), sl8⟩)
    (c8 : PySem.W.codeIn K cd8 "flip" = true) (k8 : PySem.W.keepIn K (.ref f8) = true)
    (a9 : PySem.W.nsIn K mainGlobals "mute" = some (some (.ref f9)))
    (l9 : K.lookup f9 = some ⟨oc9, od9, .func (PySem.W.fnOf "mute" "mute" (defArgs s_mute) (defBody s_mute) (defScope s_mute) .none kV9 dc9 pm9 an9 cd9 ct9), sl9⟩)
    (c9 : PySem.W.codeIn K cd9 "mute" = true) (k9 : PySem.W.keepIn K (.ref f9) = true)
    (a10 : PySem.W.nsIn K mainGlobals "every_press" = some (some (.ref f10)))
    (l10 : K.lookup f10 = some ⟨oc10, od10, .func (PySem.W.fnOf "every_press" "every_press" (defArgs s_every_press) (defBody s_every_press) (defScope s_every_press) .none kV10 dc10 pm10 an10 cd10 ct10), sl10⟩)
    (c10 : PySem.W.codeIn K cd10 "every_press" = true) (k10 : PySem.W.keepIn K (.ref f10) = true)
    (a11 : PySem.W.nsIn K mainGlobals "read_row" = some (some (.ref f11)))
    (l11 : K.lookup f11 = some ⟨oc11, od11, .func (PySem.W.fnOf "read_row" "read_row" (defArgs s_read_row) (defBody s_read_row) (defScope s_read_row) .none kV11 dc11 pm11 an11 cd11 ct11), sl11⟩)
    (c11 : PySem.W.codeIn K cd11 "read_row" = true) (k11 : PySem.W.keepIn K (.ref f11) = true)
    (a12 : PySem.W.nsIn K mainGlobals "press_text" = some (some (.ref f12)))
    (l12 : K.lookup f12 = some ⟨oc12, od12, .func (PySem.W.fnOf "press_text" "press_text" (defArgs s_press_text) (defBody s_press_text) (defScope s_press_text) .none kV12 dc12 pm12 an12 cd12 ct12), sl12⟩)
    (c12 : PySem.W.codeIn K cd12 "press_text" = true) (k12 : PySem.W.keepIn K (.ref f12) = true)
    (a13 : PySem.W.nsIn K mainGlobals "read_step" = some (some (.ref f13)))
    (l13 : K.lookup f13 = some ⟨oc13, od13, .func (PySem.W.fnOf "read_step" "read_step" (defArgs s_read_step) (defBody s_read_step) (defScope s_read_step) .none kV13 dc13 pm13 an13 cd13 ct13), sl13⟩)
    (c13 : PySem.W.codeIn K cd13 "read_step" = true) (k13 : PySem.W.keepIn K (.ref f13) = true)
    (a14 : PySem.W.nsIn K mainGlobals "_law_begun" = some (some (.ref f14)))
    (l14 : K.lookup f14 = some ⟨oc14, od14, .func (PySem.W.fnOf "_law_begun" "_law_begun" (defArgs s__law_begun) (defBody s__law_begun) (defScope s__law_begun) .none kV14 dc14 pm14 an14 cd14 ct14), sl14⟩)
    (c14 : PySem.W.codeIn K cd14 "_law_begun" = true) (k14 : PySem.W.keepIn K (.ref f14) = true)
    (a15 : PySem.W.nsIn K mainGlobals "_law_next" = some (some (.ref f15)))
    (l15 : K.lookup f15 = some ⟨oc15, od15, .func (PySem.W.fnOf "_law_next" "_law_next" (defArgs s__law_next) (defBody s__law_next) (defScope s__law_next) .none kV15 dc15 pm15 an15 cd15 ct15), sl15⟩)
    (c15 : PySem.W.codeIn K cd15 "_law_next" = true) (k15 : PySem.W.keepIn K (.ref f15) = true)
    (a16 : PySem.W.nsIn K mainGlobals "_law_fault" = some (some (.ref f16)))
    (l16 : K.lookup f16 = some ⟨oc16, od16, .func (PySem.W.fnOf "_law_fault" "_law_fault" (defArgs s__law_fault) (defBody s__law_fault) (defScope s__law_fault) .none kV16 dc16 pm16 an16 cd16 ct16), sl16⟩)
    (c16 : PySem.W.codeIn K cd16 "_law_fault" = true) (k16 : PySem.W.keepIn K (.ref f16) = true)
    (a17 : PySem.W.nsIn K mainGlobals "_law_outcome" = some (some (.ref f17)))
    (l17 : K.lookup f17 = some ⟨oc17, od17, .func (PySem.W.fnOf "_law_outcome" "_law_outcome" (defArgs s__law_outcome) (defBody s__law_outcome) (defScope s__law_outcome) .none kV17 dc17 pm17 an17 cd17 ct17), sl17⟩)
    (c17 : PySem.W.codeIn K cd17 "_law_outcome" = true) (k17 : PySem.W.keepIn K (.ref f17) = true)
    (a18 : PySem.W.nsIn K mainGlobals "_law_press" = some (some (.ref f18)))
    (l18 : K.lookup f18 = some ⟨oc18, od18, .func (PySem.W.fnOf "_law_press" "_law_press" (defArgs s__law_press) (defBody s__law_press) (defScope s__law_press) .none kV18 dc18 pm18 an18 cd18 ct18), sl18⟩)
    (c18 : PySem.W.codeIn K cd18 "_law_press" = true) (k18 : PySem.W.keepIn K (.ref f18) = true)
    (a19 : PySem.W.nsIn K mainGlobals "_law_steps" = some (some (.ref f19)))
    (l19 : K.lookup f19 = some ⟨oc19, od19, .func (PySem.W.fnOf "_law_steps" "_law_steps" (defArgs s__law_steps) (defBody s__law_steps) (defScope s__law_steps) .none kV19 dc19 pm19 an19 cd19 ct19), sl19⟩)
    (c19 : PySem.W.codeIn K cd19 "_law_steps" = true) (k19 : PySem.W.keepIn K (.ref f19) = true)
    (a20 : PySem.W.nsIn K mainGlobals "_law_text_of" = some (some (.ref f20)))
    (l20 : K.lookup f20 = some ⟨oc20, od20, .func (PySem.W.fnOf "_law_text_of" "_law_text_of" (defArgs s__law_text_of) (defBody s__law_text_of) (defScope s__law_text_of) .none kV20 dc20 pm20 an20 cd20 ct20), sl20⟩)
    (c20 : PySem.W.codeIn K cd20 "_law_text_of" = true) (k20 : PySem.W.keepIn K (.ref f20) = true)
    (a21 : PySem.W.nsIn K mainGlobals "_law_press_in" = some (some (.ref f21)))
    (l21 : K.lookup f21 = some ⟨oc21, od21, .func (PySem.W.fnOf "_law_press_in" "_law_press_in" (defArgs s__law_press_in) (defBody s__law_press_in) (defScope s__law_press_in) .none kV21 dc21 pm21 an21 cd21 ct21), sl21⟩)
    (c21 : PySem.W.codeIn K cd21 "_law_press_in" = true) (k21 : PySem.W.keepIn K (.ref f21) = true)
    (a22 : PySem.W.nsIn K mainGlobals "_law_text_due" = some (some (.ref f22)))
    (l22 : K.lookup f22 = some ⟨oc22, od22, .func (PySem.W.fnOf "_law_text_due" "_law_text_due" (defArgs s__law_text_due) (defBody s__law_text_due) (defScope s__law_text_due) .none kV22 dc22 pm22 an22 cd22 ct22), sl22⟩)
    (c22 : PySem.W.codeIn K cd22 "_law_text_due" = true) (k22 : PySem.W.keepIn K (.ref f22) = true)
    (a23 : PySem.W.nsIn K mainGlobals "_law_bent_text" = some (some (.ref f23)))
    (l23 : K.lookup f23 = some ⟨oc23, od23, .func (PySem.W.fnOf "_law_bent_text" "_law_bent_text" (defArgs s__law_bent_text) (defBody s__law_bent_text) (defScope s__law_bent_text) .none kV23 dc23 pm23 an23 cd23 ct23), sl23⟩)
    (c23 : PySem.W.codeIn K cd23 "_law_bent_text" = true) (k23 : PySem.W.keepIn K (.ref f23) = true)
    (a24 : PySem.W.nsIn K mainGlobals "law" = some (some (.ref f24)))
    (l24 : K.lookup f24 = some ⟨oc24, od24, .func (PySem.W.fnOf "law" "law" (defArgs s_law) (defBody s_law) (defScope s_law) .none kV24 dc24 pm24 an24 (.ref cl) ct24), sl24⟩)
    (c24 : PySem.W.codeIn K (.ref cl) "law" = true) (k24 : PySem.W.keepIn K (.ref f24) = true)
    {lT : Addr} {eC : Value} {dC : Option Addr} {vC : Array Value} {sC : Array (Option Value)} (lkT : K.lookup cl = some ⟨eC, dC, .fields vC, sC⟩) (vvT : vC[11]? = some (.ref lT)) (hhT : PySem.W.codeHdIn [(cl, ⟨eC, dC, .fields vC, sC⟩)] cl lT = true) (nnT : K.lookup lT = none)
    {C_BadText f_BadText N_BadText : Addr} {nm_BadText q_BadText : Str} {bs_BadText sub_BadText : List Value} {sn_BadText : List Str} {ab_BadText : Bool} {col_BadText : Option Bool} {dd_BadText od_BadText an_BadText : Option Addr} {m0_BadText m1_BadText m2_BadText m3_BadText m5_BadText : Option Value}
    {sl_BadText : Array (Option Value)} {oc_BadText kV_BadText dc_BadText pm_BadText cd_BadText ct_BadText : Value}
    (aC_BadText : PySem.W.nsIn K mainGlobals "BadText" = some (some (.ref C_BadText)))
    (xL_BadText : K.lookup C_BadText = some (excClassObj nm_BadText q_BadText C_BadText N_BadText bs_BadText [.type "ValueError", .type "Exception", .type "BaseException", .type "object"] true sn_BadText sub_BadText ab_BadText col_BadText dd_BadText m0_BadText m1_BadText m2_BadText m3_BadText m5_BadText "ValueError.__new__"))
    (sa_BadText : PySem.W.findIn K (.ref C_BadText) "__setattr__" = some (some (.builtin "object.__setattr__")))
    (ga_BadText : PySem.W.findIn K (.ref C_BadText) "__getattribute__" = some (some (.builtin "BaseException.__getattribute__")))
    (gg_BadText : PySem.W.findIn K (.ref C_BadText) "__getattr__" = some none)
    (nb_BadText : PySem.W.findIn K (.ref C_BadText) "line" = some none)
    (ai_BadText : PySem.W.findIn K (.ref C_BadText) "__init__" = some (some (.ref f_BadText)))
    (ti_BadText : PySem.W.typeIn K (.ref f_BadText) = some (.type "function"))
    (kC_BadText : PySem.W.keepIn K (.ref C_BadText) = true)
    (eC_BadText : PySem.W.subIn K (.ref C_BadText) (.type "BaseException") = some true)
    (tC_BadText : PySem.W.typeIn K (.ref C_BadText) = some (.type "type"))
    (hC_BadText : PySem.W.hasDictIn K C_BadText = true)
    (iC_BadText : PySem.W.isClsIn K C_BadText = true)
    (sC_BadText : PySem.W.subIn K (.ref C_BadText) (.ref C_BadText) = some true)
    (ki_BadText : PySem.W.keepIn K (.ref f_BadText) = true)
    (nw_BadText : PySem.W.findIn K (.ref C_BadText) "word" = some none)
    (li_BadText : K.lookup f_BadText = some ⟨oc_BadText, od_BadText, .func (PySem.W.fnOf "__init__" "BadText.__init__" (defArgs s_BadText_init) (defBody s_BadText_init) (defScope s_BadText_init) .none kV_BadText dc_BadText pm_BadText an_BadText cd_BadText ct_BadText), sl_BadText⟩)
    (ci_BadText : PySem.W.codeIn K cd_BadText "BadText.__init__" = true)
    {C_BadLoops : Addr} (aC_BadLoops : PySem.W.nsIn K mainGlobals "BadLoops" = some (some (.ref C_BadLoops)))
    (eC_BadLoops : PySem.W.subIn K (.ref C_BadLoops) (.type "BaseException") = some true)
    (tC_BadLoops : PySem.W.typeIn K (.ref C_BadLoops) = some (.type "type"))
    (iC_BadLoops : PySem.W.isClsIn K C_BadLoops = true)
    {C_BadLengths : Addr} (aC_BadLengths : PySem.W.nsIn K mainGlobals "BadLengths" = some (some (.ref C_BadLengths)))
    (eC_BadLengths : PySem.W.subIn K (.ref C_BadLengths) (.type "BaseException") = some true)
    (tC_BadLengths : PySem.W.typeIn K (.ref C_BadLengths) = some (.type "type"))
    (iC_BadLengths : PySem.W.isClsIn K C_BadLengths = true)
    {C_BadPedal : Addr} (aC_BadPedal : PySem.W.nsIn K mainGlobals "BadPedal" = some (some (.ref C_BadPedal)))
    (eC_BadPedal : PySem.W.subIn K (.ref C_BadPedal) (.type "BaseException") = some true)
    (tC_BadPedal : PySem.W.typeIn K (.ref C_BadPedal) = some (.type "type"))
    (iC_BadPedal : PySem.W.isClsIn K C_BadPedal = true)
    {C_BadRow : Addr} (aC_BadRow : PySem.W.nsIn K mainGlobals "BadRow" = some (some (.ref C_BadRow)))
    (eC_BadRow : PySem.W.subIn K (.ref C_BadRow) (.type "BaseException") = some true)
    (tC_BadRow : PySem.W.typeIn K (.ref C_BadRow) = some (.type "type"))
    (iC_BadRow : PySem.W.isClsIn K C_BadRow = true)
    {C_BadPaper : Addr} (aC_BadPaper : PySem.W.nsIn K mainGlobals "BadPaper" = some (some (.ref C_BadPaper)))
    (eC_BadPaper : PySem.W.subIn K (.ref C_BadPaper) (.type "BaseException") = some true)
    (tC_BadPaper : PySem.W.typeIn K (.ref C_BadPaper) = some (.type "type"))
    (iC_BadPaper : PySem.W.isClsIn K C_BadPaper = true)
    {C_OutOfPlace : Addr} (aC_OutOfPlace : PySem.W.nsIn K mainGlobals "OutOfPlace" = some (some (.ref C_OutOfPlace)))
    (eC_OutOfPlace : PySem.W.subIn K (.ref C_OutOfPlace) (.type "BaseException") = some true)
    (tC_OutOfPlace : PySem.W.typeIn K (.ref C_OutOfPlace) = some (.type "type"))
    (iC_OutOfPlace : PySem.W.isClsIn K C_OutOfPlace = true)
    {C_TooGreat : Addr} (aC_TooGreat : PySem.W.nsIn K mainGlobals "TooGreat" = some (some (.ref C_TooGreat)))
    (eC_TooGreat : PySem.W.subIn K (.ref C_TooGreat) (.type "BaseException") = some true)
    (tC_TooGreat : PySem.W.typeIn K (.ref C_TooGreat) = some (.type "type"))
    (iC_TooGreat : PySem.W.isClsIn K C_TooGreat = true)
    {C_Nothing : Addr} (aC_Nothing : PySem.W.nsIn K mainGlobals "Nothing" = some (some (.ref C_Nothing)))
    (eC_Nothing : PySem.W.subIn K (.ref C_Nothing) (.type "BaseException") = some true)
    (tC_Nothing : PySem.W.typeIn K (.ref C_Nothing) = some (.type "type"))
    (iC_Nothing : PySem.W.isClsIn K C_Nothing = true)
    (cl_BadText : PySem.W.findIn K (.ref C_BadText) "__class__" = some (some (.builtin "object.__class__"))) (mo_BadText : PySem.W.mroIn K C_BadText (.type "object") = some true)
    (sy_BadText_BadLoops : PySem.W.subIn K (.ref C_BadText) (.ref C_BadLoops) = some false)
    (sy_BadText_BadLengths : PySem.W.subIn K (.ref C_BadText) (.ref C_BadLengths) = some false)
    (sy_BadText_BadPedal : PySem.W.subIn K (.ref C_BadText) (.ref C_BadPedal) = some false)
    (sy_BadText_BadRow : PySem.W.subIn K (.ref C_BadText) (.ref C_BadRow) = some false)
    (sy_BadText_BadPaper : PySem.W.subIn K (.ref C_BadText) (.ref C_BadPaper) = some false)
    (sy_BadText_OutOfPlace : PySem.W.subIn K (.ref C_BadText) (.ref C_OutOfPlace) = some false)
    (sy_BadText_TooGreat : PySem.W.subIn K (.ref C_BadText) (.ref C_TooGreat) = some false)
    (sy_BadText_Nothing : PySem.W.subIn K (.ref C_BadText) (.ref C_Nothing) = some false)
    (z_ValueError : PySem.W.nsIn K mainGlobals "ValueError" = some none)
    (v_ValueError : PySem.W.findCls K (.type "ValueError") (.type "type") "__init__" = some (.val (.builtin "ValueError.__init__")))
    (z_len : PySem.W.nsIn K mainGlobals "len" = some none)
    (z_tuple : PySem.W.nsIn K mainGlobals "tuple" = some none)
    (z_sum : PySem.W.nsIn K mainGlobals "sum" = some none)
    (z_zip : PySem.W.nsIn K mainGlobals "zip" = some none)
    (z_range : PySem.W.nsIn K mainGlobals "range" = some none)
    (z_enumerate : PySem.W.nsIn K mainGlobals "enumerate" = some none)
    (z_isinstance : PySem.W.nsIn K mainGlobals "isinstance" = some none)
    (z_str : PySem.W.nsIn K mainGlobals "str" = some none)
    (z_list : PySem.W.nsIn K mainGlobals "list" = some none)
    (z_int : PySem.W.nsIn K mainGlobals "int" = some none)
    (z_min : PySem.W.nsIn K mainGlobals "min" = some none)
    (z_repr : PySem.W.nsIn K mainGlobals "repr" = some none)
    (g_MOST_TRACKS : PySem.W.nsIn K mainGlobals "MOST_TRACKS" = some (some (.int 4 tk_MOST_TRACKS)))
    (g_MOST_LAYERS : PySem.W.nsIn K mainGlobals "MOST_LAYERS" = some (some (.int 4 tk_MOST_LAYERS)))
    (g_MODE : PySem.W.nsIn K mainGlobals "MODE" = some (some (.int 0 tk_MODE)))
    (g_UNDONE : PySem.W.nsIn K mainGlobals "UNDONE" = some (some (.int 2 tk_UNDONE)))
    (g_POINT : PySem.W.nsIn K mainGlobals "POINT" = some (some (.int 3 tk_POINT)))
    (g_WAY : PySem.W.nsIn K mainGlobals "WAY" = some (some (.int 4 tk_WAY)))
    (g_SIGN : PySem.W.nsIn K mainGlobals "SIGN" = some (some (.int 6 tk_SIGN)))
    (g_MUTED : PySem.W.nsIn K mainGlobals "MUTED" = some (some (.int 7 tk_MUTED)))
    (g_MOST_STEPS : PySem.W.nsIn K mainGlobals "MOST_STEPS" = some (some (.int 200 tk_MOST_STEPS)))
    (g_MOST_PRESSES : PySem.W.nsIn K mainGlobals "MOST_PRESSES" = some (some (.int 8 tk_MOST_PRESSES)))
    (g_NO_PRESS : PySem.W.nsIn K mainGlobals "NO_PRESS" = some (some (.str "-" tk_NO_PRESS)))
    (g_BETWEEN : PySem.W.nsIn K mainGlobals "BETWEEN" = some (some (.str ", " tk_BETWEEN)))
    {f_EMPTY_1 : Addr} {od_EMPTY_1 : Option Addr} {n_EMPTY_1 : Nat} {sl_EMPTY_1 : Array (Option Value)}
    {f_EMPTY_2 : Addr} {od_EMPTY_2 : Option Addr} {n_EMPTY_2 : Nat} {sl_EMPTY_2 : Array (Option Value)}
    {f_EMPTY : Addr} {od_EMPTY : Option Addr} {n_EMPTY : Nat} {sl_EMPTY : Array (Option Value)} {tk_EMPTY_0 tk_EMPTY_3 tk_EMPTY_4 tk_EMPTY_5 tk_EMPTY_6 : Tok}
    (a_EMPTY : PySem.W.nsIn K mainGlobals "EMPTY" = some (some (.ref f_EMPTY)))
    (l_EMPTY : K.lookup f_EMPTY = some ⟨.type "tuple", od_EMPTY, .seq #[.str "empty" tk_EMPTY_0, .ref f_EMPTY_1, .ref f_EMPTY_2, .int (0) tk_EMPTY_3, .int (1) tk_EMPTY_4, .int (2) tk_EMPTY_5, .int (1) tk_EMPTY_6, .bool false] n_EMPTY, sl_EMPTY⟩)
    (l_EMPTY_2 : K.lookup f_EMPTY_2 = some ⟨.type "tuple", od_EMPTY_2, .seq #[] n_EMPTY_2, sl_EMPTY_2⟩)
    (l_EMPTY_1 : K.lookup f_EMPTY_1 = some ⟨.type "tuple", od_EMPTY_1, .seq #[] n_EMPTY_1, sl_EMPTY_1⟩)
    {f_PACES : Addr} {od_PACES : Option Addr} {n_PACES : Nat} {sl_PACES : Array (Option Value)} {tk_PACES_0 tk_PACES_1 tk_PACES_2 : Tok}
    (a_PACES : PySem.W.nsIn K mainGlobals "PACES" = some (some (.ref f_PACES)))
    (l_PACES : K.lookup f_PACES = some ⟨.type "tuple", od_PACES, .seq #[.int (1) tk_PACES_0, .int (2) tk_PACES_1, .int (4) tk_PACES_2] n_PACES, sl_PACES⟩)
    {f_HOLDING : Addr} {od_HOLDING : Option Addr} {n_HOLDING : Nat} {sl_HOLDING : Array (Option Value)} {tk_HOLDING_0 tk_HOLDING_1 tk_HOLDING_2 : Tok}
    (a_HOLDING : PySem.W.nsIn K mainGlobals "HOLDING" = some (some (.ref f_HOLDING)))
    (l_HOLDING : K.lookup f_HOLDING = some ⟨.type "tuple", od_HOLDING, .seq #[.str "play" tk_HOLDING_0, .str "dub" tk_HOLDING_1, .str "stop" tk_HOLDING_2] n_HOLDING, sl_HOLDING⟩)
    {f_DEEDS : Addr} {n_DEEDS : Nat} {tk_DEEDS_tap tk_DEEDS_stop tk_DEEDS_clear tk_DEEDS_undo tk_DEEDS_redo tk_DEEDS_join tk_DEEDS_turn tk_DEEDS_flip tk_DEEDS_mute : Tok} {hs_DEEDS_tap hs_DEEDS_stop hs_DEEDS_clear hs_DEEDS_undo hs_DEEDS_redo hs_DEEDS_join hs_DEEDS_turn hs_DEEDS_flip hs_DEEDS_mute : Int}
    (a_DEEDS : PySem.W.nsIn K mainGlobals "DEEDS" = some (some (.ref f_DEEDS)))
    (l_DEEDS : K.lookup f_DEEDS = some ⟨.type "dict", none, .dict #[⟨hs_DEEDS_tap, .str "tap" tk_DEEDS_tap, .ref f1⟩, ⟨hs_DEEDS_stop, .str "stop" tk_DEEDS_stop, .ref f2⟩, ⟨hs_DEEDS_clear, .str "clear" tk_DEEDS_clear, .ref f3⟩, ⟨hs_DEEDS_undo, .str "undo" tk_DEEDS_undo, .ref f4⟩, ⟨hs_DEEDS_redo, .str "redo" tk_DEEDS_redo, .ref f5⟩, ⟨hs_DEEDS_join, .str "join" tk_DEEDS_join, .ref f6⟩, ⟨hs_DEEDS_turn, .str "turn" tk_DEEDS_turn, .ref f7⟩, ⟨hs_DEEDS_flip, .str "flip" tk_DEEDS_flip, .ref f8⟩, ⟨hs_DEEDS_mute, .str "mute" tk_DEEDS_mute, .ref f9⟩] n_DEEDS, #[]⟩)
    (lo_DEEDS : (f_DEEDS == sysModules) = false)
    (h_DEEDS_tap : hs_DEEDS_tap = PyData.keyHash w.params "tap")
    (h_DEEDS_stop : hs_DEEDS_stop = PyData.keyHash w.params "stop")
    (h_DEEDS_clear : hs_DEEDS_clear = PyData.keyHash w.params "clear")
    (h_DEEDS_undo : hs_DEEDS_undo = PyData.keyHash w.params "undo")
    (h_DEEDS_redo : hs_DEEDS_redo = PyData.keyHash w.params "redo")
    (h_DEEDS_join : hs_DEEDS_join = PyData.keyHash w.params "join")
    (h_DEEDS_turn : hs_DEEDS_turn = PyData.keyHash w.params "turn")
    (h_DEEDS_flip : hs_DEEDS_flip = PyData.keyHash w.params "flip")
    (h_DEEDS_mute : hs_DEEDS_mute = PyData.keyHash w.params "mute")
    : ∃ (fd : FuncData) (c T : Addr), K.lookup T = none ∧ PySem.W.codeHdIn K c T = true ∧ PySem.W.tabIn K "law" = some (c, T) ∧ (∀ (s : Shared) (v : Value), BindsTo s fd ⟨[v], []⟩ [("script", v)]) ∧
      ∀ base : Heap, K.In base → base.Ns mainGlobals mg → LamX.TabB base mg c T → FnG P w K mg base 7 fa fd ["script"] (sp_lawT T K) := by
  have e := hfa.symm.trans (PySem.W.mg_of X G a24)
  cases e
  have F0 := fun_mk (st := s_put) l0 c0 k0
  have b0 := F0.binds (ps := ["track", "part", "thing"]) fun _ _ _ _ _ _ us hl => match us, hl with | [_, _, _], _ => rfl
  have F1 := fun_mk (st := s_tap) l1 c1 k1
  have b1 := F1.binds (ps := ["track"]) fun _ _ _ _ _ _ us hl => match us, hl with | [_], _ => rfl
  have F2 := fun_mk (st := s_stop) l2 c2 k2
  have b2 := F2.binds (ps := ["track"]) fun _ _ _ _ _ _ us hl => match us, hl with | [_], _ => rfl
  have F3 := fun_mk (st := s_clear) l3 c3 k3
  have b3 := F3.binds (ps := ["track"]) fun _ _ _ _ _ _ us hl => match us, hl with | [_], _ => rfl
  have F4 := fun_mk (st := s_undo) l4 c4 k4
  have b4 := F4.binds (ps := ["track"]) fun _ _ _ _ _ _ us hl => match us, hl with | [_], _ => rfl
  have F5 := fun_mk (st := s_redo) l5 c5 k5
  have b5 := F5.binds (ps := ["track"]) fun _ _ _ _ _ _ us hl => match us, hl with | [_], _ => rfl
  have F6 := fun_mk (st := s_join) l6 c6 k6
  have b6 := F6.binds (ps := ["track"]) fun _ _ _ _ _ _ us hl => match us, hl with | [_], _ => rfl
  have F7 := fun_mk (st := s_turn) l7 c7 k7
  have b7 := F7.binds (ps := ["track"]) fun _ _ _ _ _ _ us hl => match us, hl with | [_], _ => rfl
  have F8 := fun_mk (st := s_flip) l8 c8 k8
  have b8 := F8.binds (ps := ["track"]) fun _ _ _ _ _ _ us hl => match us, hl with | [_], _ => rfl
  have F9 := fun_mk (st := s_mute) l9 c9 k9
  have b9 := F9.binds (ps := ["track"]) fun _ _ _ _ _ _ us hl => match us, hl with | [_], _ => rfl
  have F10 := fun_mk (st := s_every_press) l10 c10 k10
  have b10 := F10.binds (ps := ["tracks"]) fun _ _ _ _ _ _ us hl => match us, hl with | [_], _ => rfl
  have F11 := fun_mk (st := s_read_row) l11 c11 k11
  have b11 := F11.binds (ps := ["text"]) fun _ _ _ _ _ _ us hl => match us, hl with | [_], _ => rfl
  have F12 := fun_mk (st := s_press_text) l12 c12 k12
  have b12 := F12.binds (ps := ["press"]) fun _ _ _ _ _ _ us hl => match us, hl with | [_], _ => rfl
  have F13 := fun_mk (st := s_read_step) l13 c13 k13
  have b13 := F13.binds (ps := ["number", "line", "presses"]) fun _ _ _ _ _ _ us hl => match us, hl with | [_, _, _], _ => rfl
  have F14 := fun_mk (st := s__law_begun) l14 c14 k14
  have b14 := F14.binds (ps := ["script"]) fun _ _ _ _ _ _ us hl => match us, hl with | [_], _ => rfl
  have F15 := fun_mk (st := s__law_next) l15 c15 k15
  have b15 := F15.binds (ps := ["m", "total"]) fun _ _ _ _ _ _ us hl => match us, hl with | [_, _], _ => rfl
  have F16 := fun_mk (st := s__law_fault) l16 c16 k16
  have b16 := F16.binds (ps := ["e"]) fun _ _ _ _ _ _ us hl => match us, hl with | [_], _ => rfl
  have F17 := fun_mk (st := s__law_outcome) l17 c17 k17
  have b17 := F17.binds (ps := ["deed"]) fun _ _ _ _ _ _ us hl => match us, hl with | [_], _ => rfl
  have F18 := fun_mk (st := s__law_press) l18 c18 k18
  have b18 := F18.binds (ps := ["m", "tracks"]) fun _ _ _ _ _ _ us hl => match us, hl with | [_, _], _ => rfl
  have F19 := fun_mk (st := s__law_steps) l19 c19 k19
  have b19 := F19.binds (ps := ["m", "tracks", "total", "most"]) fun _ _ _ _ _ _ us hl => match us, hl with | [_, _, _, _], _ => rfl
  have F20 := fun_mk (st := s__law_text_of) l20 c20 k20
  have b20 := F20.binds (ps := ["row"]) fun _ _ _ _ _ _ us hl => match us, hl with | [_], _ => rfl
  have F21 := fun_mk (st := s__law_press_in) l21 c21 k21
  have b21 := F21.binds (ps := ["part"]) fun _ _ _ _ _ _ us hl => match us, hl with | [_], _ => rfl
  have F22 := fun_mk (st := s__law_text_due) l22 c22 k22
  have b22 := F22.binds (ps := ["text"]) fun _ _ _ _ _ _ us hl => match us, hl with | [_], _ => rfl
  have F23 := fun_mk (st := s__law_bent_text) l23 c23 k23
  have b23 := F23.binds (ps := ["m", "text"]) fun _ _ _ _ _ _ us hl => match us, hl with | [_, _], _ => rfl
  have F24 := fun_mk (st := s_law) l24 c24 k24
  have b24 := F24.binds (ps := ["script"]) fun _ _ _ _ _ _ us hl => match us, hl with | [_], _ => rfl
  have Fi_BadText := fun_mk (st := s_BadText_init) li_BadText ci_BadText ki_BadText
  have bi_BadText := Fi_BadText.binds (ps := ["self", "line", "word"]) fun _ _ _ _ _ _ us hl => match us, hl with | [_, _, _], _ => rfl
  refine ⟨PySem.W.fnOf "law" "law" (defArgs s_law) (defBody s_law) (defScope s_law) .none kV24 dc24 pm24 an24 (.ref cl) ct24, cl, lT, nnT, hd_in lkT hhT, tab_in a24 l24 rfl lkT vvT, fun s v => .of_eq rfl, fun base _ _ TB => ?_⟩
  have hw_EMPTY_1 : ∀ H : Hp, Dp K H (.ref f_EMPTY_1) (.tuple []) := fun H => .tup (xs := []) (.inr ⟨_, _, _, l_EMPTY_1, rfl, rfl, (by show 0 ≤ sizeLine; decide), .nil⟩) .nil
  have hw_EMPTY_2 : ∀ H : Hp, Dp K H (.ref f_EMPTY_2) (.tuple []) := fun H => .tup (xs := []) (.inr ⟨_, _, _, l_EMPTY_2, rfl, rfl, (by show 0 ≤ sizeLine; decide), .nil⟩) .nil
  have hw_EMPTY : ∀ H : Hp, Dp K H (.ref f_EMPTY) (.tuple [.str "empty", .tuple [], .tuple [], .int (0), .int (1), .int (2), .int (1), .bool false]) := fun H => .tup (xs := [.str "empty", .ref f_EMPTY_1, .ref f_EMPTY_2, .int (0), .int (1), .int (2), .int (1), .bl false]) (.inr ⟨_, _, _, l_EMPTY, rfl, rfl, (by show 8 ≤ sizeLine; decide), (.cons ⟨_, rfl⟩ (.cons rfl (.cons rfl (.cons ⟨_, rfl⟩ (.cons ⟨_, rfl⟩ (.cons ⟨_, rfl⟩ (.cons ⟨_, rfl⟩ (.cons rfl .nil))))))))⟩) (.cons (.str _) (.cons (hw_EMPTY_1 H) (.cons (hw_EMPTY_2 H) (.cons (.int _) (.cons (.int _) (.cons (.int _) (.cons (.int _) (.cons (.bl _) .nil))))))))
  have hw_PACES : ∀ H : Hp, Dp K H (.ref f_PACES) (.tuple [.int (1), .int (2), .int (4)]) := fun H => .tup (xs := [.int (1), .int (2), .int (4)]) (.inr ⟨_, _, _, l_PACES, rfl, rfl, (by show 3 ≤ sizeLine; decide), (.cons ⟨_, rfl⟩ (.cons ⟨_, rfl⟩ (.cons ⟨_, rfl⟩ .nil)))⟩) (.cons (.int _) (.cons (.int _) (.cons (.int _) .nil)))
  have hw_HOLDING : ∀ H : Hp, Dp K H (.ref f_HOLDING) (.tuple [.str "play", .str "dub", .str "stop"]) := fun H => .tup (xs := [.str "play", .str "dub", .str "stop"]) (.inr ⟨_, _, _, l_HOLDING, rfl, rfl, (by show 3 ≤ sizeLine; decide), (.cons ⟨_, rfl⟩ (.cons ⟨_, rfl⟩ (.cons ⟨_, rfl⟩ .nil)))⟩) (.cons (.str _) (.cons (.str _) (.cons (.str _) .nil)))
  have hk_DEEDS : PySem.W.KeysLit w.params [⟨hs_DEEDS_tap, .str "tap" tk_DEEDS_tap, .ref f1⟩, ⟨hs_DEEDS_stop, .str "stop" tk_DEEDS_stop, .ref f2⟩, ⟨hs_DEEDS_clear, .str "clear" tk_DEEDS_clear, .ref f3⟩, ⟨hs_DEEDS_undo, .str "undo" tk_DEEDS_undo, .ref f4⟩, ⟨hs_DEEDS_redo, .str "redo" tk_DEEDS_redo, .ref f5⟩, ⟨hs_DEEDS_join, .str "join" tk_DEEDS_join, .ref f6⟩, ⟨hs_DEEDS_turn, .str "turn" tk_DEEDS_turn, .ref f7⟩, ⟨hs_DEEDS_flip, .str "flip" tk_DEEDS_flip, .ref f8⟩, ⟨hs_DEEDS_mute, .str "mute" tk_DEEDS_mute, .ref f9⟩] := ⟨⟨_, _, rfl, h_DEEDS_tap⟩, ⟨⟨_, _, rfl, h_DEEDS_stop⟩, ⟨⟨_, _, rfl, h_DEEDS_clear⟩, ⟨⟨_, _, rfl, h_DEEDS_undo⟩, ⟨⟨_, _, rfl, h_DEEDS_redo⟩, ⟨⟨_, _, rfl, h_DEEDS_join⟩, ⟨⟨_, _, rfl, h_DEEDS_turn⟩, ⟨⟨_, _, rfl, h_DEEDS_flip⟩, ⟨⟨_, _, rfl, h_DEEDS_mute⟩, trivial⟩⟩⟩⟩⟩⟩⟩⟩⟩
  have hw_DEEDS : RD.Words K f_DEEDS ["tap", "stop", "clear", "undo", "redo", "join", "turn", "flip", "mute"] := ⟨_, _, l_DEEDS, lo_DEEDS, rfl, fun i k e => by
    
    cases i with
    | zero => cases e; exact ⟨_, _, rfl, rfl⟩
    | succ i =>    
    cases i with
    | zero => cases e; exact ⟨_, _, rfl, rfl⟩
    | succ i =>    
    cases i with
    | zero => cases e; exact ⟨_, _, rfl, rfl⟩
    | succ i =>    
    cases i with
    | zero => cases e; exact ⟨_, _, rfl, rfl⟩
    | succ i =>    
    cases i with
    | zero => cases e; exact ⟨_, _, rfl, rfl⟩
    | succ i =>    
    cases i with
    | zero => cases e; exact ⟨_, _, rfl, rfl⟩
    | succ i =>    
    cases i with
    | zero => cases e; exact ⟨_, _, rfl, rfl⟩
    | succ i =>    
    cases i with
    | zero => cases e; exact ⟨_, _, rfl, rfl⟩
    | succ i =>    
    cases i with
    | zero => cases e; exact ⟨_, _, rfl, rfl⟩
    | succ i =>
    cases e⟩
  have hi_DEEDS_tap : KDct K w f_DEEDS "tap" (.ref f1) := ⟨_, _, _, l_DEEDS, hk_DEEDS, (by unfold PySem.W.nsIn; rw [l_DEEDS]; rfl), rfl⟩
  have hi_DEEDS_stop : KDct K w f_DEEDS "stop" (.ref f2) := ⟨_, _, _, l_DEEDS, hk_DEEDS, (by unfold PySem.W.nsIn; rw [l_DEEDS]; rfl), rfl⟩
  have hi_DEEDS_clear : KDct K w f_DEEDS "clear" (.ref f3) := ⟨_, _, _, l_DEEDS, hk_DEEDS, (by unfold PySem.W.nsIn; rw [l_DEEDS]; rfl), rfl⟩
  have hi_DEEDS_undo : KDct K w f_DEEDS "undo" (.ref f4) := ⟨_, _, _, l_DEEDS, hk_DEEDS, (by unfold PySem.W.nsIn; rw [l_DEEDS]; rfl), rfl⟩
  have hi_DEEDS_redo : KDct K w f_DEEDS "redo" (.ref f5) := ⟨_, _, _, l_DEEDS, hk_DEEDS, (by unfold PySem.W.nsIn; rw [l_DEEDS]; rfl), rfl⟩
  have hi_DEEDS_join : KDct K w f_DEEDS "join" (.ref f6) := ⟨_, _, _, l_DEEDS, hk_DEEDS, (by unfold PySem.W.nsIn; rw [l_DEEDS]; rfl), rfl⟩
  have hi_DEEDS_turn : KDct K w f_DEEDS "turn" (.ref f7) := ⟨_, _, _, l_DEEDS, hk_DEEDS, (by unfold PySem.W.nsIn; rw [l_DEEDS]; rfl), rfl⟩
  have hi_DEEDS_flip : KDct K w f_DEEDS "flip" (.ref f8) := ⟨_, _, _, l_DEEDS, hk_DEEDS, (by unfold PySem.W.nsIn; rw [l_DEEDS]; rfl), rfl⟩
  have hi_DEEDS_mute : KDct K w f_DEEDS "mute" (.ref f9) := ⟨_, _, _, l_DEEDS, hk_DEEDS, (by unfold PySem.W.nsIn; rw [l_DEEDS]; rfl), rfl⟩
  let T : Top w K mg := {
      g_DEEDS := f_DEEDS
      c_DEEDS := PySem.W.mg_of X G a_DEEDS
      w_DEEDS := hw_DEEDS
      i_DEEDS_tap := hi_DEEDS_tap
      i_DEEDS_stop := hi_DEEDS_stop
      i_DEEDS_clear := hi_DEEDS_clear
      i_DEEDS_undo := hi_DEEDS_undo
      i_DEEDS_redo := hi_DEEDS_redo
      i_DEEDS_join := hi_DEEDS_join
      i_DEEDS_turn := hi_DEEDS_turn
      i_DEEDS_flip := hi_DEEDS_flip
      i_DEEDS_mute := hi_DEEDS_mute
      g_EMPTY := f_EMPTY
      c_EMPTY := PySem.W.mg_of X G a_EMPTY
      w_EMPTY := hw_EMPTY
      g_PACES := f_PACES
      c_PACES := PySem.W.mg_of X G a_PACES
      w_PACES := hw_PACES
      g_HOLDING := f_HOLDING
      c_HOLDING := PySem.W.mg_of X G a_HOLDING
      w_HOLDING := hw_HOLDING
      a_put := f0
      d_put := _
      F_put := F0
      m_put := PySem.W.mg_of X G a0
      b_put := b0
      a_tap := f1
      d_tap := _
      F_tap := F1
      m_tap := PySem.W.mg_of X G a1
      b_tap := b1
      a_stop := f2
      d_stop := _
      F_stop := F2
      m_stop := PySem.W.mg_of X G a2
      b_stop := b2
      a_clear := f3
      d_clear := _
      F_clear := F3
      m_clear := PySem.W.mg_of X G a3
      b_clear := b3
      a_undo := f4
      d_undo := _
      F_undo := F4
      m_undo := PySem.W.mg_of X G a4
      b_undo := b4
      a_redo := f5
      d_redo := _
      F_redo := F5
      m_redo := PySem.W.mg_of X G a5
      b_redo := b5
      a_join := f6
      d_join := _
      F_join := F6
      m_join := PySem.W.mg_of X G a6
      b_join := b6
      a_turn := f7
      d_turn := _
      F_turn := F7
      m_turn := PySem.W.mg_of X G a7
      b_turn := b7
      a_flip := f8
      d_flip := _
      F_flip := F8
      m_flip := PySem.W.mg_of X G a8
      b_flip := b8
      a_mute := f9
      d_mute := _
      F_mute := F9
      m_mute := PySem.W.mg_of X G a9
      b_mute := b9
      a_every_press := f10
      d_every_press := _
      F_every_press := F10
      m_every_press := PySem.W.mg_of X G a10
      b_every_press := b10
      a_read_row := f11
      d_read_row := _
      F_read_row := F11
      m_read_row := PySem.W.mg_of X G a11
      b_read_row := b11
      a_press_text := f12
      d_press_text := _
      F_press_text := F12
      m_press_text := PySem.W.mg_of X G a12
      b_press_text := b12
      a_read_step := f13
      d_read_step := _
      F_read_step := F13
      m_read_step := PySem.W.mg_of X G a13
      b_read_step := b13
      a__law_begun := f14
      d__law_begun := _
      F__law_begun := F14
      m__law_begun := PySem.W.mg_of X G a14
      b__law_begun := b14
      a__law_next := f15
      d__law_next := _
      F__law_next := F15
      m__law_next := PySem.W.mg_of X G a15
      b__law_next := b15
      a__law_fault := f16
      d__law_fault := _
      F__law_fault := F16
      m__law_fault := PySem.W.mg_of X G a16
      b__law_fault := b16
      a__law_outcome := f17
      d__law_outcome := _
      F__law_outcome := F17
      m__law_outcome := PySem.W.mg_of X G a17
      b__law_outcome := b17
      a__law_press := f18
      d__law_press := _
      F__law_press := F18
      m__law_press := PySem.W.mg_of X G a18
      b__law_press := b18
      a__law_steps := f19
      d__law_steps := _
      F__law_steps := F19
      m__law_steps := PySem.W.mg_of X G a19
      b__law_steps := b19
      a__law_text_of := f20
      d__law_text_of := _
      F__law_text_of := F20
      m__law_text_of := PySem.W.mg_of X G a20
      b__law_text_of := b20
      a__law_press_in := f21
      d__law_press_in := _
      F__law_press_in := F21
      m__law_press_in := PySem.W.mg_of X G a21
      b__law_press_in := b21
      a__law_text_due := f22
      d__law_text_due := _
      F__law_text_due := F22
      m__law_text_due := PySem.W.mg_of X G a22
      b__law_text_due := b22
      a__law_bent_text := f23
      d__law_bent_text := _
      F__law_bent_text := F23
      m__law_bent_text := PySem.W.mg_of X G a23
      b__law_bent_text := b23
      a_law := fa
      d_law := _
      F_law := F24
      m_law := PySem.W.mg_of X G a24
      b_law := b24
      x_BadText := exc_mk2 X G Fi_BadText bi_BadText aC_BadText xL_BadText sa_BadText ga_BadText gg_BadText nb_BadText nw_BadText ai_BadText ti_BadText kC_BadText eC_BadText tC_BadText hC_BadText iC_BadText sC_BadText
      k_BadLoops := C_BadLoops
      n_BadLoops := PySem.W.mg_of X G aC_BadLoops
      k_BadLengths := C_BadLengths
      n_BadLengths := PySem.W.mg_of X G aC_BadLengths
      k_BadPedal := C_BadPedal
      n_BadPedal := PySem.W.mg_of X G aC_BadPedal
      k_BadRow := C_BadRow
      n_BadRow := PySem.W.mg_of X G aC_BadRow
      k_BadPaper := C_BadPaper
      n_BadPaper := PySem.W.mg_of X G aC_BadPaper
      k_OutOfPlace := C_OutOfPlace
      n_OutOfPlace := PySem.W.mg_of X G aC_OutOfPlace
      k_TooGreat := C_TooGreat
      n_TooGreat := PySem.W.mg_of X G aC_TooGreat
      k_Nothing := C_Nothing
      n_Nothing := PySem.W.mg_of X G aC_Nothing
      e_BadText := ⟨ga_BadText, gg_BadText, eC_BadText, hC_BadText, cl_BadText, (by rfl), (by rfl), mo_BadText⟩
      y_BadText_BadLoops := exm_apart eC_BadLoops iC_BadLoops tC_BadLoops sy_BadText_BadLoops
      y_BadText_BadLengths := exm_apart eC_BadLengths iC_BadLengths tC_BadLengths sy_BadText_BadLengths
      y_BadText_BadPedal := exm_apart eC_BadPedal iC_BadPedal tC_BadPedal sy_BadText_BadPedal
      y_BadText_BadRow := exm_apart eC_BadRow iC_BadRow tC_BadRow sy_BadText_BadRow
      y_BadText_BadPaper := exm_apart eC_BadPaper iC_BadPaper tC_BadPaper sy_BadText_BadPaper
      y_BadText_OutOfPlace := exm_apart eC_OutOfPlace iC_OutOfPlace tC_OutOfPlace sy_BadText_OutOfPlace
      y_BadText_TooGreat := exm_apart eC_TooGreat iC_TooGreat tC_TooGreat sy_BadText_TooGreat
      y_BadText_Nothing := exm_apart eC_Nothing iC_Nothing tC_Nothing sy_BadText_Nothing
      lc := cl
      lT := lT
      FL := ⟨⟨_, _, _, _, _, _, _, _, rfl, l24, c24⟩⟩
      z_ValueError := PySem.W.mg_none_of X G z_ValueError
      v_ValueError := v_ValueError
      z_len := PySem.W.mg_none_of X G z_len
      z_tuple := PySem.W.mg_none_of X G z_tuple
      z_sum := PySem.W.mg_none_of X G z_sum
      z_zip := PySem.W.mg_none_of X G z_zip
      z_range := PySem.W.mg_none_of X G z_range
      z_enumerate := PySem.W.mg_none_of X G z_enumerate
      z_isinstance := PySem.W.mg_none_of X G z_isinstance
      z_str := PySem.W.mg_none_of X G z_str
      z_list := PySem.W.mg_none_of X G z_list
      z_int := PySem.W.mg_none_of X G z_int
      z_min := PySem.W.mg_none_of X G z_min
      z_repr := PySem.W.mg_none_of X G z_repr
      t_MOST_TRACKS := tk_MOST_TRACKS
      c_MOST_TRACKS := PySem.W.mg_of X G g_MOST_TRACKS
      t_MOST_LAYERS := tk_MOST_LAYERS
      c_MOST_LAYERS := PySem.W.mg_of X G g_MOST_LAYERS
      t_MODE := tk_MODE
      c_MODE := PySem.W.mg_of X G g_MODE
      t_UNDONE := tk_UNDONE
      c_UNDONE := PySem.W.mg_of X G g_UNDONE
      t_POINT := tk_POINT
      c_POINT := PySem.W.mg_of X G g_POINT
      t_WAY := tk_WAY
      c_WAY := PySem.W.mg_of X G g_WAY
      t_SIGN := tk_SIGN
      c_SIGN := PySem.W.mg_of X G g_SIGN
      t_MUTED := tk_MUTED
      c_MUTED := PySem.W.mg_of X G g_MUTED
      t_MOST_STEPS := tk_MOST_STEPS
      c_MOST_STEPS := PySem.W.mg_of X G g_MOST_STEPS
      t_MOST_PRESSES := tk_MOST_PRESSES
      c_MOST_PRESSES := PySem.W.mg_of X G g_MOST_PRESSES
      t_NO_PRESS := tk_NO_PRESS
      c_NO_PRESS := PySem.W.mg_of X G g_NO_PRESS
      t_BETWEEN := tk_BETWEEN
      c_BETWEEN := PySem.W.mg_of X G g_BETWEEN }
  exact ok_law T TB
end My
open PySem PySem.W PyProof.Rows
set_option maxRecDepth 100000 in
set_option maxHeartbeats 0 in
theorem PySem.Challenge.cw_pedalrounds_k56_whole_any_text_holds : PySem.Challenge.rw_pedalrounds_k56_whole_any_text.Holds := by
  w_on; o_law; k_head; (case hw => w_witness2)
  k_fill
  refine L2.tab_walk (l := PySem.Challenge.rw_pedalrounds_k56_whole_any_text) (k := 7) (sp := My.sp_lawT) rfl rfl ⟨rfl, by decide, by decide⟩ (by first | rfl | decide +kernel) (fun w h Y => PySem.W.km_in_of Y) ?F (fun T K H a ns hl hT hS => ⟨a, ns, rfl, hT, hS, hl, fun _ => rfl⟩)
  case F =>
    intro w mg fa h KX G hmg
    refine' My.all_mk KX G hmg ?a0 ?l0 ?c0 ?k0 ?a1 ?l1 ?c1 ?k1 ?a2 ?l2 ?c2 ?k2 ?a3 ?l3 ?c3 ?k3 ?a4 ?l4 ?c4 ?k4 ?a5 ?l5 ?c5 ?k5 ?a6 ?l6 ?c6 ?k6 ?a7 ?l7 ?c7 ?k7 ?a8 ?l8 ?c8 ?k8 ?a9 ?l9 ?c9 ?k9 ?a10 ?l10 ?c10 ?k10 ?a11 ?l11 ?c11 ?k11 ?a12 ?l12 ?c12 ?k12 ?a13 ?l13 ?c13 ?k13 ?a14 ?l14 ?c14 ?k14 ?a15 ?l15 ?c15 ?k15 ?a16 ?l16 ?c16 ?k16 ?a17 ?l17 ?c17 ?k17 ?a18 ?l18 ?c18 ?k18 ?a19 ?l19 ?c19 ?k19 ?a20 ?l20 ?c20 ?k20 ?a21 ?l21 ?c21 ?k21 ?a22 ?l22 ?c22 ?k22 ?a23 ?l23 ?c23 ?k23 ?a24 ?l24 ?c24 ?k24 ?lkT ?vvT ?hhT ?nnT ?aC_BadText ?xL_BadText ?sa_BadText ?ga_BadText ?gg_BadText ?nb_BadText ?ai_BadText ?ti_BadText ?kC_BadText ?eC_BadText ?tC_BadText ?hC_BadText ?iC_BadText ?sC_BadText ?ki_BadText ?nw_BadText ?li_BadText ?ci_BadText ?aC_BadLoops ?eC_BadLoops ?tC_BadLoops ?iC_BadLoops ?aC_BadLengths ?eC_BadLengths ?tC_BadLengths ?iC_BadLengths ?aC_BadPedal ?eC_BadPedal ?tC_BadPedal ?iC_BadPedal ?aC_BadRow ?eC_BadRow ?tC_BadRow ?iC_BadRow ?aC_BadPaper ?eC_BadPaper ?tC_BadPaper ?iC_BadPaper ?aC_OutOfPlace ?eC_OutOfPlace ?tC_OutOfPlace ?iC_OutOfPlace ?aC_TooGreat ?eC_TooGreat ?tC_TooGreat ?iC_TooGreat ?aC_Nothing ?eC_Nothing ?tC_Nothing ?iC_Nothing ?cl_BadText ?mo_BadText ?sy_BadText_BadLoops ?sy_BadText_BadLengths ?sy_BadText_BadPedal ?sy_BadText_BadRow ?sy_BadText_BadPaper ?sy_BadText_OutOfPlace ?sy_BadText_TooGreat ?sy_BadText_Nothing ?z_ValueError ?v_ValueError ?z_len ?z_tuple ?z_sum ?z_zip ?z_range ?z_enumerate ?z_isinstance ?z_str ?z_list ?z_int ?z_min ?z_repr ?g_MOST_TRACKS ?g_MOST_LAYERS ?g_MODE ?g_UNDONE ?g_POINT ?g_WAY ?g_SIGN ?g_MUTED ?g_MOST_STEPS ?g_MOST_PRESSES ?g_NO_PRESS ?g_BETWEEN ?a_EMPTY ?l_EMPTY ?l_EMPTY_2 ?l_EMPTY_1 ?a_PACES ?l_PACES ?a_HOLDING ?l_HOLDING ?a_DEEDS ?l_DEEDS ?lo_DEEDS ?h_DEEDS_tap ?h_DEEDS_stop ?h_DEEDS_clear ?h_DEEDS_undo ?h_DEEDS_redo ?h_DEEDS_join ?h_DEEDS_turn ?h_DEEDS_flip ?h_DEEDS_mute
    (case a0 => k_is)
    (case l0 => k_is)
    (case c0 => k_is)
    (case k0 => k_is)
    (case a1 => k_is)
    (case l1 => k_is)
    (case c1 => k_is)
    (case k1 => k_is)
    (case a2 => k_is)
    (case l2 => k_is)
    (case c2 => k_is)
    (case k2 => k_is)
    (case a3 => k_is)
    (case l3 => k_is)
    (case c3 => k_is)
    (case k3 => k_is)
    (case a4 => k_is)
    (case l4 => k_is)
    (case c4 => k_is)
    (case k4 => k_is)
    (case a5 => k_is)
    (case l5 => k_is)
    (case c5 => k_is)
    (case k5 => k_is)
    (case a6 => k_is)
    (case l6 => k_is)
    (case c6 => k_is)
    (case k6 => k_is)
    (case a7 => k_is)
    (case l7 => k_is)
    (case c7 => k_is)
    (case k7 => k_is)
    (case a8 => k_is)
    (case l8 => k_is)
    (case c8 => k_is)
    (case k8 => k_is)
    (case a9 => k_is)
    (case l9 => k_is)
    (case c9 => k_is)
    (case k9 => k_is)
    (case a10 => k_is)
    (case l10 => k_is)
    (case c10 => k_is)
    (case k10 => k_is)
    (case a11 => k_is)
    (case l11 => k_is)
    (case c11 => k_is)
    (case k11 => k_is)
    (case a12 => k_is)
    (case l12 => k_is)
    (case c12 => k_is)
    (case k12 => k_is)
    (case a13 => k_is)
    (case l13 => k_is)
    (case c13 => k_is)
    (case k13 => k_is)
    (case a14 => k_is)
    (case l14 => k_is)
    (case c14 => k_is)
    (case k14 => k_is)
    (case a15 => k_is)
    (case l15 => k_is)
    (case c15 => k_is)
    (case k15 => k_is)
    (case a16 => k_is)
    (case l16 => k_is)
    (case c16 => k_is)
    (case k16 => k_is)
    (case a17 => k_is)
    (case l17 => k_is)
    (case c17 => k_is)
    (case k17 => k_is)
    (case a18 => k_is)
    (case l18 => k_is)
    (case c18 => k_is)
    (case k18 => k_is)
    (case a19 => k_is)
    (case l19 => k_is)
    (case c19 => k_is)
    (case k19 => k_is)
    (case a20 => k_is)
    (case l20 => k_is)
    (case c20 => k_is)
    (case k20 => k_is)
    (case a21 => k_is)
    (case l21 => k_is)
    (case c21 => k_is)
    (case k21 => k_is)
    (case a22 => k_is)
    (case l22 => k_is)
    (case c22 => k_is)
    (case k22 => k_is)
    (case a23 => k_is)
    (case l23 => k_is)
    (case c23 => k_is)
    (case k23 => k_is)
    (case a24 => k_is)
    (case l24 => k_is)
    (case c24 => k_is)
    (case k24 => k_is)
    (case lkT => k_is)
    (case vvT => first | rfl | k_is)
    (case hhT => decide +kernel)
    (case nnT => first | kernel_rfl | rfl)
    (case aC_BadText => k_is)
    (case xL_BadText => k_is)
    (case sa_BadText => k_is)
    (case ga_BadText => k_is)
    (case gg_BadText => k_is)
    (case nb_BadText => k_is)
    (case ai_BadText => k_is)
    (case ti_BadText => k_is)
    (case kC_BadText => k_is)
    (case eC_BadText => k_is)
    (case tC_BadText => k_is)
    (case hC_BadText => k_is)
    (case iC_BadText => k_is)
    (case sC_BadText => first | rfl | k_is)
    (case ki_BadText => k_is)
    (case nw_BadText => k_is)
    (case li_BadText => k_is)
    (case ci_BadText => k_is)
    (case aC_BadLoops => k_is)
    (case eC_BadLoops => k_is)
    (case tC_BadLoops => k_is)
    (case iC_BadLoops => k_is)
    (case aC_BadLengths => k_is)
    (case eC_BadLengths => k_is)
    (case tC_BadLengths => k_is)
    (case iC_BadLengths => k_is)
    (case aC_BadPedal => k_is)
    (case eC_BadPedal => k_is)
    (case tC_BadPedal => k_is)
    (case iC_BadPedal => k_is)
    (case aC_BadRow => k_is)
    (case eC_BadRow => k_is)
    (case tC_BadRow => k_is)
    (case iC_BadRow => k_is)
    (case aC_BadPaper => k_is)
    (case eC_BadPaper => k_is)
    (case tC_BadPaper => k_is)
    (case iC_BadPaper => k_is)
    (case aC_OutOfPlace => k_is)
    (case eC_OutOfPlace => k_is)
    (case tC_OutOfPlace => k_is)
    (case iC_OutOfPlace => k_is)
    (case aC_TooGreat => k_is)
    (case eC_TooGreat => k_is)
    (case tC_TooGreat => k_is)
    (case iC_TooGreat => k_is)
    (case aC_Nothing => k_is)
    (case eC_Nothing => k_is)
    (case tC_Nothing => k_is)
    (case iC_Nothing => k_is)
    (case cl_BadText => first | rfl | k_is)
    (case mo_BadText => first | rfl | k_is)
    (case sy_BadText_BadLoops => k_is)
    (case sy_BadText_BadLengths => k_is)
    (case sy_BadText_BadPedal => k_is)
    (case sy_BadText_BadRow => k_is)
    (case sy_BadText_BadPaper => k_is)
    (case sy_BadText_OutOfPlace => k_is)
    (case sy_BadText_TooGreat => k_is)
    (case sy_BadText_Nothing => k_is)
    (case z_ValueError => k_is)
    (case v_ValueError => k_is)
    (case z_len => k_is)
    (case z_tuple => k_is)
    (case z_sum => k_is)
    (case z_zip => k_is)
    (case z_range => k_is)
    (case z_enumerate => k_is)
    (case z_isinstance => k_is)
    (case z_str => k_is)
    (case z_list => k_is)
    (case z_int => k_is)
    (case z_min => k_is)
    (case z_repr => k_is)
    (case g_MOST_TRACKS => k_is)
    (case g_MOST_LAYERS => k_is)
    (case g_MODE => k_is)
    (case g_UNDONE => k_is)
    (case g_POINT => k_is)
    (case g_WAY => k_is)
    (case g_SIGN => k_is)
    (case g_MUTED => k_is)
    (case g_MOST_STEPS => k_is)
    (case g_MOST_PRESSES => k_is)
    (case g_NO_PRESS => k_is)
    (case g_BETWEEN => k_is)
    (case a_EMPTY => k_is)
    (case l_EMPTY => k_is)
    (case l_EMPTY_2 => k_is)
    (case l_EMPTY_1 => k_is)
    (case a_PACES => k_is)
    (case l_PACES => k_is)
    (case a_HOLDING => k_is)
    (case l_HOLDING => k_is)
    (case a_DEEDS => k_is)
    (case l_DEEDS => k_is)
    (case lo_DEEDS => first | rfl | k_is)
    (case h_DEEDS_tap => first | rfl | k_is)
    (case h_DEEDS_stop => first | rfl | k_is)
    (case h_DEEDS_clear => first | rfl | k_is)
    (case h_DEEDS_undo => first | rfl | k_is)
    (case h_DEEDS_redo => first | rfl | k_is)
    (case h_DEEDS_join => first | rfl | k_is)
    (case h_DEEDS_turn => first | rfl | k_is)
    (case h_DEEDS_flip => first | rfl | k_is)
    (case h_DEEDS_mute => first | rfl | k_is)

