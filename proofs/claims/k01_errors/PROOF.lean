import PyProof.Rows.All
import Wide.All
import OpenK.AllK
import Wide.FinOn
import HandS.ForMost
import HandS.Walk
import HandS.WideBits
import HandS.IsInst
import HandS.RaiseMore
import KE.GoesEnum
import HandS.TupAny
import HandS.Evl
import HandS.TupMul
import HandS.ExcInit
import HandS.ExcField
import HandS.ExcOwn
import HandS.TryOnly
import HandS.ForExc
import HandS.Strs
import HandS.SetBool
import HandS.TupLen
import HandS.Zip
import KE.KExcInit
import HandS.TryMany
import HandS.Lambda
import HandS.ExcIs
import HandS.EndOwn
import PyProof.Rows.SumAny
import HandS.Star
import KE.KDictZip
import HandS.More
import HandS.Iter
import HandS.CallLocal
import HandS.Deep
import HandS.Defaults
import PyProof.ReprRoads
import HandS.Style
import PySem.Challenge.RW_pedalrounds_k01_errors
set_option Elab.async false
set_option linter.all false
set_option maxRecDepth 100000
set_option maxHeartbeats 4000000
/-! Rules of my own for the laws of Pedalrounds: repr of data, enumerate of a tuple, great powers. -/
namespace PySem
section
open PySem.Spec PyProof.Rows Builtin
/-- enumerate(t), t a tuple: the two new cells -/
abbrev myIt (t : Addr) : Obj := { cls := .type "tuple_iterator", data := .fields #[.ref t, .int 0 0] }
abbrev myEn (i : Addr) : Obj := { cls := .type "enumerate", data := .fields #[.none, .bool false, .ref i, rawInt 0, .none, .none] }
theorem my_enum_meets (t : Addr) (items : Array Value) :
    Meets (Builtin.«enumerate.__new__» ⟨[.type "enumerate", .ref t], []⟩)
      (fun _ R s => s.heap.IsTuple t items ∧ R (.ok (.ret (.ref (s.heap.push (myIt t)).objs.size))) { s with heap := (s.heap.push (myIt t)).push (myEn s.heap.objs.size) }) :=
  .of_wp fun prog w A R s hh => by
    obtain ⟨hp, g, dd, tk, os⟩ := s
    obtain ⟨hT, hR⟩ := hh
    have hsub := sub_enumerate
    have go : ∀ {A' : Around} {E Q : Value → Shared → Prop},
        Q (.ref hp.objs.size) ⟨hp.push (myIt t), g, dd, tk, os⟩ → wpAny (model prog w) A' (pyIter (.ref t)) Q E ⟨hp, g, dd, tk, os⟩ :=
      fun q => (begins_tuple t items).iter prog w _ _ ⟨hp, g, dd, tk, os⟩ _ hT q
    wp_walk using go
    refine wpAny_stack_any fun st => wpAny_pure ?_
    split
    · rename_i cc _ _ _ _ _
      cases (cc == Value.type "enumerate") <;> (wp_walk using go; exact ⟨_, rfl, hR⟩)
    · wp_walk using go
      exact ⟨_, rfl, hR⟩
variable {prog : Program} {w : World} {A : Around} {E : Value → Shared → Prop} {s : Shared}
theorem my_call_enum {t : Addr} {items : Array Value} {Q : Value → Shared → Prop} (hT : s.heap.IsTuple t items)
    (k : ∀ h', IsEnum h' (s.heap.objs.size + 1) s.heap.objs.size 0 .none → h'.IsTupleIter s.heap.objs.size t 0 →
      (∀ b o, s.heap.get? b = some o → h'.get? b = some o) → Q (.ref (s.heap.objs.size + 1)) { s with heap := h' }) :
    wpAny (model prog w) A (call (.type "enumerate") [.ref t]) Q E s := by
  refine callType_new F.called_enumerate (by decide) (F.typeCall_enumerate_1 _) (F.newCall_enumerate_1 _)
    (fun obj => F.args_object_init_2 obj _) F.entry_enumerate_new (my_enum_meets t items) ⟨hT, ?_⟩
  have hz : (s.heap.push (myIt t)).objs.size = s.heap.objs.size + 1 := Heap.size_push ..
  show _ ∧ _
  rw [hz]
  have he : IsEnum ((s.heap.push (myIt t)).push (myEn s.heap.objs.size)) (s.heap.objs.size + 1) s.heap.objs.size 0 .none := by
    have q := Heap.get?_push_size (s.heap.push (myIt t)) (o := myEn s.heap.objs.size) rfl
    rw [hz] at q
    exact q
  have hi : ((s.heap.push (myIt t)).push (myEn s.heap.objs.size)).IsTupleIter s.heap.objs.size t 0 := by
    refine ⟨myIt t, ?_, rfl, rfl⟩
    exact Heap.get?_push_of_some _ (Heap.get?_push_size _ rfl)
  refine ⟨⟨_, he, rfl⟩, k _ he hi ?_⟩
  intro b o x
  exact Heap.get?_push_of_some _ (Heap.get?_push_of_some _ x)
end
end PySem
namespace L2
open PySem PySem.Spec PyProof.Rows
/-! ### repr of data -/
theorem my_repr {X : Cx} (hu : X.A.units + 64 < cLine) (hg : X.A.guards = some []) :
    CallR X (.builtin "repr") (fun xs H Q => ∃ x d, xs = [x] ∧ Dp X.K H x d ∧ (isDisplay d = true ∧ d.showable = true ∧ d.hasDict = false ∧ d.depth ≤ 8 ∧ d.shown.length ≤ sizeLine) ∧ Q (.str d.shown) H) := by
  intro pins s σ H xs us Q I r h
  obtain ⟨x, d, rfl, hd, ⟨h1, h2, h3, h4, h5⟩, q⟩ := h
  obtain ⟨u, rfl, ru⟩ := vals1 r
  obtain ⟨as, rd⟩ := Dp.reads I d x u hd ru
  obtain ⟨a, rfl⟩ := isRef_of_reads rd h1
  refine repr_of_reads' rd h2 (PyData.noDict_hsm h3) hg (by omega) (fun _ _ e => e) (fun h' v tk hk => ?_) h5
  exact ⟨.str _, H, I.kept hk, ⟨_, rfl⟩, q⟩
/-! ### great powers -/
def CPowX (i j : Int) : Prop := 0 ≤ j ∧ (Builtin.Int.intBits i : Int) * j ≤ 2 ^ 27
theorem op_powX {X : Cx} : OpR X (binaryOp .Pow) (rI CPowX fun i j => .int (i ^ j.toNat)) :=
  opI fun _ _ _ _ _ _ _ hc q => pow_int hc.1 hc.2 q
/-! ### the built-in names -/
theorem bt_range : bootBuiltins "range" = some (.type "range") := by decide +kernel
theorem bt_int : bootBuiltins "int" = some (.type "int") := by decide +kernel
theorem bt_list : bootBuiltins "list" = some (.type "list") := by decide +kernel
theorem bt_tuple : bootBuiltins "tuple" = some (.type "tuple") := by decide +kernel
theorem bt_bool : bootBuiltins "bool" = some (.type "bool") := by decide +kernel
theorem bt_enumerate : bootBuiltins "enumerate" = some (.type "enumerate") := by decide +kernel
theorem bt_zip : bootBuiltins "zip" = some (.type "zip") := by decide +kernel
theorem bt_str : bootBuiltins "str" = some (.type "str") := by decide +kernel
theorem bt_dict : bootBuiltins "dict" = some (.type "dict") := by decide +kernel
theorem bt_set : bootBuiltins "set" = some (.type "set") := by decide +kernel
theorem bt_len : bootBuiltins "len" = some (.builtin "len") := by decide +kernel
theorem bt_min : bootBuiltins "min" = some (.builtin "min") := by decide +kernel
theorem bt_max : bootBuiltins "max" = some (.builtin "max") := by decide +kernel
theorem bt_repr : bootBuiltins "repr" = some (.builtin "repr") := by decide +kernel
theorem bt_sum : bootBuiltins "sum" = some (.builtin "sum") := by decide +kernel
theorem bt_isinstance : bootBuiltins "isinstance" = some (.builtin "isinstance") := by decide +kernel
theorem bt_any : bootBuiltins "any" = some (.builtin "any") := by decide +kernel
theorem bt_all : bootBuiltins "all" = some (.builtin "all") := by decide +kernel
theorem bt_sorted : bootBuiltins "sorted" = some (.builtin "sorted") := by decide +kernel
theorem bt_abs : bootBuiltins "abs" = some (.builtin "abs") := by decide +kernel
end L2

namespace L2
open PySem PySem.Spec PyProof.Rows
/-! ### enumerate of a tuple, walked -/
def ItE (K : PySem.W.Frag) (a : Addr) : It where
  go := fun i H => ∃ (xs : List V) (x : V), SqT K H a xs ∧ xs[i]? = some x
  yld := fun i H v H' => ∃ T x, v = .ref T ∧ H T = none ∧ H' = upd H T (.tup [.int (i : Nat), x]) ∧
    ∀ xs, SqT K H a xs → xs[i]? = some x
  stop := fun i H => ∃ xs : List V, SqT K H a xs ∧ xs.length = i
def tnE (a e it : Addr) (i : Nat) (h : Heap) : Prop :=
  (∃ old, IsEnum h e it ((i : Nat) : Int) old) ∧ h.IsTupleIter it a i ∧ e ≠ it ∧ a ≠ it ∧ a ≠ e
theorem turn_enumT {P : Program} {w : World} {K : PySem.W.Frag} {elts : List Expr} {kk : Nat} {tpos : Pos} (a e it : Addr) :
    Turn P w K (.Tuple elts kk tpos) (ItE K a) [e, it] e (tnE a e it) where
  mem := by simp
  obj := fun i h st b hb => by
    obtain ⟨⟨old, he⟩, ⟨o, ho, _, hd⟩, _⟩ := st
    rcases (by simpa using hb : b = e ∨ b = it) with z | z <;> subst z
    · exact ⟨_, he, fun v q => nomatch q⟩
    · refine ⟨o, ho, fun v q => ?_⟩
      rw [hd] at q
      cases q
  keep := fun i h h' st k => by
    obtain ⟨⟨old, he⟩, hi, r⟩ := st
    exact ⟨⟨old, k e (by simp) _ he⟩, hi.at (fun o q => k it (by simp) o q), r⟩
  item := by
    intro X hP hw hK hc i pins s σ H E I hf st hg
    subst hP hw hK
    obtain ⟨⟨old, he⟩, hit, hne, hai, hae⟩ := st
    obtain ⟨xs, x, hq, hx⟩ := hg
    obtain ⟨its, rv, p, hz⟩ := I.tuple hq
    obtain ⟨u, hu, ru⟩ := rv.get hx
    have hTu : s.heap.IsTuple a its.toArray := p
    have hel : e < s.heap.objs.size := Heap.lt_size he
    have hil : it < s.heap.objs.size := by
      obtain ⟨_, q, _⟩ := hit
      exact Heap.lt_size q
    have hlt : i < its.toArray.size := by
      have := (List.getElem?_eq_some_iff.mp hu).1
      simpa using this
    have D := Draws.tuple (prog := X.prog) (w := X.w) (A := X.A.in1) (I.ok.hd hc) it a hai its.toArray
    refine wpAny_pyNext_enum_itemD D he ⟨hit, hTu⟩ hlt hne (by simp; exact ⟨hne, Ne.symm hae⟩) fun y h' tk hy ho st' hT hsz hk => ?_
    have ey : y = u := by
      have q : its.toArray[i]? = some u := by simpa using hu
      exact Option.some.inj (hy.symm.trans q)
    subst ey
    refine ⟨_, rfl, wpAny_letOwnedTupleGo_enum (s := { s with heap := h', toks := tk + 1 }) ho fun g he' sb => ?_⟩
    have hT2 : g.get? s.heap.objs.size = some { cls := .type "tuple", data := .seq #[.int i tk, y] } :=
      (sb.2 _ (Nat.ne_of_gt hel)).trans hT
    have new : ObjOk X.prog X.w (upd H s.heap.objs.size (.tup [.int (i : Nat), x])) g s.heap.objs.size (.tup [.int (i : Nat), x]) :=
      ⟨by show 2 ≤ sizeLine; decide, [.int i tk, y], .cons ⟨_, rfl⟩ (.cons ru .nil), ⟨_, hT2, rfl, _, rfl⟩⟩
    have kk : ∀ b ob, b ∉ [e, it] → s.heap.get? b = some ob → g.get? b = some ob := fun b ob hb q => by
      have b1 : b ≠ e := fun z => hb (by simp [z])
      have b2 : b ≠ it := fun z => hb (by simp [z])
      exact (sb.2 b b1).trans (hk b ob b1 b2 q)
    have I1 := I.turnedNew (t' := tk + 1) kk hf (Nat.le_refl _) new
    refine ⟨.ref s.heap.objs.size, _, I1, rfl, ⟨_, x, rfl, I.hok.fresh (Nat.le_refl _), rfl, fun ys hy => ?_⟩, ?_, fun b hb => ?_⟩
    · rw [I.tuple_inj hy hq]
      exact hx
    · refine ⟨⟨y, ?_⟩, st'.1.at (fun o q => (sb.2 it (Ne.symm hne)).trans q), hne, hai, hae⟩
      have e1 : ((i + 1 : Nat) : Int) = (i : Int) + 1 := by omega
      rw [e1]
      exact he'
    · have hb' : b < s.heap.objs.size := by
        rcases (by simpa using hb : b = e ∨ b = it) with z | z <;> (rw [z]; assumption)
      rw [upd_ne (Nat.ne_of_lt hb')]
      exact (hf b hb).1
  done := by
    intro X hP hw hK hc i pins s σ H E I hf st hg
    subst hP hw hK
    obtain ⟨⟨old, he⟩, hit, hne, hai, hae⟩ := st
    obtain ⟨xs, hq, hx⟩ := hg
    obtain ⟨its, rv, p, hz⟩ := I.tuple hq
    obtain ⟨f0, f1, f2, f3, f4, f5⟩ := hf it (by simp)
    have hTu : s.heap.IsTuple a its.toArray := p
    have hn : i = its.toArray.size := by
      have hl := rv.length
      simp
      omega
    have D := Draws.tuple (prog := X.prog) (w := X.w) (A := X.A.in1) (I.ok.hd hc) it a hai its.toArray
    refine wpAny_pyNext_enum_endD D he ⟨hn ▸ hit, hTu⟩ fun h' eb => ?_
    exact ⟨rfl, I.turned (t' := s.toks) (fun b o hb q => eb b o hb q) f0 f1 f3 f4 f5⟩
  self := fun A i s Q E st h => by
    obtain ⟨⟨old, he⟩, _⟩ := st
    exact wpAny_pyIter_enum he h
/-- enumerate(t) is walked -/
def iEnumT (K : PySem.W.Frag) (ta : TA) : TI := fun σ H R => ta σ H fun vs H1 => ∃ a xs, vs = [.ref a] ∧ SqT K H1 a xs ∧ R (ItE K a) H1
theorem pi_enumT {X : Cx} {e : Expr} {ta : TA} {p pos tpos : Pos} {elts : List Expr} {kk : Nat} (hg : Gl X "enumerate")
    (hm : X.mg "enumerate" = none) (ha : PA X [e] ta) (hs : starEach [e] X.env = [(false, eval e X.env)] := by rfl) :
    PI X (.Tuple elts kk tpos) (.Call (.Name "enumerate" p) [e] [] pos) (iEnumT X.K ta) := by
  refine ⟨fun pins s σ H R I h => ?_⟩
  have body : ∀ us s1, AP X pins σ (fun vs H1 => ∃ a xs, vs = [.ref a] ∧ SqT X.K H1 a xs ∧ R (ItE X.K a) H1) us s1 →
      wpAny (model X.prog X.w) X.A (call (.type "enumerate") us) (fun v s2 => wpAny (model X.prog X.w) X.A (pyIter v) (PIE X pins σ (.Tuple elts kk tpos) R) X.xe s2) X.xe s1 := by
    rintro us s1 ⟨vs, H1, I1, r1, a, xs, rfl, hq, q⟩
    obtain ⟨u, rfl, ru⟩ := vals1 r1
    cases ru
    obtain ⟨its, rv, p', hz⟩ := I1.tuple hq
    have hTu : s1.heap.IsTuple a its.toArray := p'
    obtain ⟨oa, hoa, _⟩ := id hTu
    have hal : a < s1.heap.objs.size := Heap.lt_size hoa
    refine my_call_enum hTu fun h' he hit hk => wpAny_pyIter_enum he ?_
    have I2 : Inv X pins σ H1 { s1 with heap := h' } := I1.kept (t' := s1.toks) hk
    refine ⟨s1.heap.objs.size + 1, [s1.heap.objs.size + 1, s1.heap.objs.size], _, _, H1, rfl, I2, turn_enumT a (s1.heap.objs.size + 1) s1.heap.objs.size, ?_, fun b hb => ?_, q⟩
    · exact ⟨⟨.none, he⟩, hit, Nat.succ_ne_self _, Nat.ne_of_lt hal, Nat.ne_of_lt (Nat.lt_succ_of_lt hal)⟩
    · have hle : s1.heap.objs.size ≤ b := by
        rcases (by simpa using hb : b = s1.heap.objs.size + 1 ∨ b = s1.heap.objs.size) with z | z <;> rw [z]
        · exact Nat.le_add_right _ _
        · exact Nat.le_refl _
      exact I1.fpOk hle (I1.hok.fresh hle)
  exact Call_ (ld_blt I hg hm boot_enumerate (PyProof.Rows.callWith_type1 (thn (ha.run pos pins s σ H _ I h) fun us s1 q => body us s1 q) hs rfl))
theorem walk_enumT {K : PySem.W.Frag} {a : Addr} {xs : List V} :
    Walk (ItE K a) xs.length (fun H => SqT K H a xs) (YPair (fun i => some (.int (i : Nat))) (fun i => xs[i]?)) where
  goes := fun i _ hi q => ⟨xs, xs[i], q, by simp [hi]⟩
  stops := fun _ q => ⟨xs, q, rfl⟩
  yields := by
    rintro i H v H' _ q ⟨T, x, h1, h2, h3, h4⟩
    exact ⟨T, .int (i : Nat), x, h1, h2, h3, rfl, h4 xs q⟩
end L2

namespace L2
open PySem PySem.Spec PyProof.Rows
/-! ### data that stand in a heap, and what keeps them -/
/-- tuples stay -/
def TK (K : PySem.W.Frag) (H H' : Hp) : Prop := ∀ a xs, SqT K H a xs → SqT K H' a xs
theorem TK.refl {K : PySem.W.Frag} {H : Hp} : TK K H H := fun _ _ h => h
theorem TK.trans {K : PySem.W.Frag} {H H1 H2 : Hp} (a : TK K H H1) (b : TK K H1 H2) : TK K H H2 := fun c xs h => b c xs (a c xs h)
theorem Same.tk {K : PySem.W.Frag} {H H' : Hp} (e : Same H H') : TK K H H' := fun a xs h => by
  rcases h with (h | ⟨o, h⟩) | h
  · exact .inl (.inl (e _ _ h))
  · exact .inl (.inr ⟨o, e _ _ h⟩)
  · exact .inr h
theorem same_upd {H : Hp} {p : Addr} (h : H p = none) (o : HO) : Same H (upd H p o) := fun b u q => by
  rw [upd_ne (ne_of_none q h)]
  exact q
theorem same_step {H H1 : Hp} {p : Addr} (e : Same H H1) (h : H1 p = none) (o : HO) : Same H (upd H1 p o) := e.trans (same_upd h o)
/-- only tuples, no lists -/
def tupOnly : PyData → Bool
  | .list _ => false
  | .dict _ => false
  | .tuple xs => go xs
  | _ => true
where go : List PyData → Bool
  | [] => true
  | x :: r => tupOnly x && go r
mutual
theorem Dp.keepT {K : PySem.W.Frag} {H H' : Hp} (k : TK K H H') : ∀ (d : PyData) (v : V), tupOnly d = true → Dp K H v d → Dp K H' v d
  | .none, _, _, h => by cases h; exact .non
  | .bool b, _, _, h => by cases h; exact .bl b
  | .int i, _, _, h => by cases h; exact .int i
  | .str x, _, _, h => by cases h; exact .str x
  | .list _, _, t, _ => by cases t
  | .dict _, _, t, _ => by cases t
  | .tuple ds, _, t, h => by
    cases h with
    | tup hs ha => exact .tup (k _ _ hs) (DpAll.keepT k ds _ t ha)
theorem DpAll.keepT {K : PySem.W.Frag} {H H' : Hp} (k : TK K H H') : ∀ (ds : List PyData) (vs : List V), tupOnly.go ds = true → DpAll K H vs ds → DpAll K H' vs ds
  | [], _, _, h => by cases h; exact .nil
  | d :: r, _, t, h => by
    cases h with
    | cons h1 h2 =>
      have t' := Bool.and_eq_true_iff.mp t
      exact .cons (Dp.keepT k d _ t'.1 h1) (DpAll.keepT k r _ t'.2 h2)
end
mutual
theorem Dp.same {K : PySem.W.Frag} {H H' : Hp} (e : Same H H') : ∀ (d : PyData) (v : V), Dp K H v d → Dp K H' v d
  | .none, _, h => by cases h; exact .non
  | .bool b, _, h => by cases h; exact .bl b
  | .int i, _, h => by cases h; exact .int i
  | .str x, _, h => by cases h; exact .str x
  | .dict _, _, h => by cases h
  | .list ds, _, h => by
    cases h with
    | lst hs ha => exact .lst (e.seq hs) (DpAll.same e ds _ ha)
  | .tuple ds, _, h => by
    cases h with
    | tup hs ha => exact .tup (Same.tk e _ _ hs) (DpAll.same e ds _ ha)
theorem DpAll.same {K : PySem.W.Frag} {H H' : Hp} (e : Same H H') : ∀ (ds : List PyData) (vs : List V), DpAll K H vs ds → DpAll K H' vs ds
  | [], _, h => by cases h; exact .nil
  | d :: r, _, h => by
    cases h with
    | cons h1 h2 => exact .cons (Dp.same e d _ h1) (DpAll.same e r _ h2)
end
theorem DpAll.len {K : PySem.W.Frag} {H : Hp} : ∀ {vs : List V} {ds : List PyData}, DpAll K H vs ds → vs.length = ds.length
  | _, _, .nil => rfl
  | _, _, .cons _ h => by simp [DpAll.len h]
theorem DpAll.get {K : PySem.W.Frag} {H : Hp} : ∀ {vs : List V} {ds : List PyData} {i : Nat} {v : V}, DpAll K H vs ds → vs[i]? = some v → ∃ d, ds[i]? = some d ∧ Dp K H v d
  | _, _, _, _, .nil, h => by cases h
  | _, _, 0, _, .cons h1 _, h => by
    cases h
    exact ⟨_, rfl, h1⟩
  | _, _, i + 1, _, .cons _ h2, h => DpAll.get (i := i) h2 h
theorem DpAll.app {K : PySem.W.Frag} {H : Hp} : ∀ {vs us : List V} {ds es : List PyData}, DpAll K H vs ds → DpAll K H us es → DpAll K H (vs ++ us) (ds ++ es)
  | _, _, _, _, .nil, h => h
  | _, _, _, _, .cons h1 h2, h => .cons h1 (DpAll.app h2 h)
theorem DpAll.ints {K : PySem.W.Frag} {H : Hp} : ∀ (ns : List Int), DpAll K H (ns.map V.int) (ns.map PyData.int)
  | [] => .nil
  | n :: r => .cons (.int n) (DpAll.ints r)
theorem DpAll.ints_inv {K : PySem.W.Frag} {H : Hp} : ∀ {ns : List Int} {vs : List V}, DpAll K H vs (ns.map PyData.int) → vs = ns.map V.int
  | [], _, h => by cases h; rfl
  | n :: r, _, h => by
    cases h with
    | cons h1 h2 =>
      cases h1
      rw [DpAll.ints_inv h2]
      rfl
/-- a tuple of ints -/
abbrev dInts (ns : List Int) : PyData := .tuple (ns.map PyData.int)
/-- loops -/
abbrev dLoops (ls : List (List Int)) : PyData := .tuple (ls.map dInts)
theorem Dp.ints {K : PySem.W.Frag} {H : Hp} {v : V} {ns : List Int} (h : Dp K H v (dInts ns)) : ∃ a, v = .ref a ∧ SqT K H a (ns.map V.int) := by
  cases h with
  | tup hs ha =>
    rw [DpAll.ints_inv ha] at hs
    exact ⟨_, rfl, hs⟩
theorem Dp.ofInts {K : PySem.W.Frag} {H : Hp} {a : Addr} {ns : List Int} (h : SqT K H a (ns.map V.int)) : Dp K H (.ref a) (dInts ns) := .tup h (DpAll.ints ns)
theorem Dp.tuple {K : PySem.W.Frag} {H : Hp} {v : V} {ds : List PyData} (h : Dp K H v (.tuple ds)) : ∃ a xs, v = .ref a ∧ SqT K H a xs ∧ DpAll K H xs ds := by
  cases h with
  | tup hs ha => exact ⟨_, _, rfl, hs, ha⟩
theorem to_ints : ∀ ns : List Int, tupOnly.go (ns.map PyData.int) = true
  | [] => rfl
  | n :: r => by
    show (true && tupOnly.go (r.map PyData.int)) = true
    rw [to_ints r]
    rfl
theorem to_loops : ∀ ls : List (List Int), tupOnly.go (ls.map dInts) = true
  | [] => rfl
  | l :: r => by
    show (tupOnly.go (l.map PyData.int) && tupOnly.go (r.map dInts)) = true
    rw [to_loops r, to_ints l]
    rfl
theorem SqT.ty {K : PySem.W.Frag} {H : Hp} {a : Addr} {xs : List V} (h : SqT K H a xs) : TyX K H (.ref a) (.type "tuple") := by
  rcases h with (h | ⟨o, h⟩) | ⟨o, its, n, h1, h2, _⟩
  · exact .base (.tup h)
  · exact .fTuple h
  · exact .kTuple h1 h2
/-! ### the rules with the written part named -/
section
variable {X : Cx} {K : PySem.W.Frag}
theorem k_len (e : X.K = K := by rfl) : CallR X (.builtin "len") (Evl.rLenS K) := by
  subst e
  exact call_len_seq
def rTupS (K : PySem.W.Frag) : List V → Hp → VK → Prop := fun xs H Q => ∃ p ys, xs = [.ref p] ∧ ((SqL K H p ys ∧ ∀ l, H l = none → Q (.ref l) (upd H l (.tup ys))) ∨ (SqT K H p ys ∧ Q (.ref p) H))
theorem k_tuple (e : X.K = K := by rfl) : CallR X (.type "tuple") (rTupS K) := by
  subst e
  exact call_tuple_of
theorem k_list (e : X.K = K := by rfl) : CallR X (.type "list") (Evl.rListS K) := by
  subst e
  exact call_list_of
theorem k_sum (hc : X.calm = true) (e : X.K = K := by rfl) : CallR X (.builtin "sum") (rSum K) := by
  subst e
  exact cr_sum hc
theorem k_isi (e : X.K = K := by rfl) : CallR X (.builtin "isinstance") (rIsi K) := by
  subst e
  exact call_isi
theorem k_slL (e : X.K = K := by rfl) : SlR X (rSlL K) := by
  subst e
  exact sl_list
theorem k_slT (e : X.K = K := by rfl) : SlR X (rSlA K) := by
  subst e
  exact sl_tupA
theorem k_ixL (e : X.K = K := by rfl) : IxR X (rIxL K) := by
  subst e
  exact ix_list
theorem k_ixT (e : X.K = K := by rfl) : IxR X (rIxT K) := by
  subst e
  exact ix_tup
theorem k_eqD (hu : X.A.units + 64 < cLine) (e : X.K = K := by rfl) : OpR X (compareOp .Eq) (rEqD K) := by
  subst e
  exact op_eqD hu
theorem k_neD (hu : X.A.units + 64 < cLine) (e : X.K = K := by rfl) : OpR X (compareOp .NotEq) (rNeD K) := by
  subst e
  exact op_neD hu
theorem k_catT (e : X.K = K := by rfl) : OpR X (binaryOp .Add) (rCatA K) := by
  subst e
  exact op_catA
def rReprD (K : PySem.W.Frag) : List V → Hp → VK → Prop := fun xs H Q => ∃ x d, xs = [x] ∧ Dp K H x d ∧ (isDisplay d = true ∧ d.showable = true ∧ d.hasDict = false ∧ d.depth ≤ 8 ∧ d.shown.length ≤ sizeLine) ∧ Q (.str d.shown) H
theorem k_repr (hu : X.A.units + 64 < cLine) (hg : X.A.guards = some []) (e : X.K = K := by rfl) : CallR X (.builtin "repr") (rReprD K) := by
  subst e
  exact my_repr hu hg
theorem k_piL {tg l : Expr} {tl : TE} (hl : PE X l tl) (e : X.K = K := by rfl) : PI X tg l (iList K tl) := by
  subst e
  exact pi_list hl
theorem k_piT {tg l : Expr} {tl : TE} (hl : PE X l tl) (e : X.K = K := by rfl) : PI X tg l (iTup K tl) := by
  subst e
  exact pi_tup hl
theorem k_piET {e : Expr} {ta : TA} {p pos tpos : Pos} {elts : List Expr} {kk : Nat} (hg : Gl X "enumerate")
    (hm : X.mg "enumerate" = none) (ha : PA X [e] ta) (hs : starEach [e] X.env = [(false, eval e X.env)] := by rfl) (ek : X.K = K := by rfl) :
    PI X (.Tuple elts kk tpos) (.Call (.Name "enumerate" p) [e] [] pos) (iEnumT K ta) := by
  subst ek
  exact pi_enumT hg hm ha hs
theorem k_piEL {e : Expr} {ta : TA} {p pos tpos : Pos} {elts : List Expr} {kk : Nat} (hg : Gl X "enumerate")
    (hm : X.mg "enumerate" = none) (ha : PA X [e] ta) (hs : starEach [e] X.env = [(false, eval e X.env)] := by rfl) (ek : X.K = K := by rfl) :
    PI X (.Tuple elts kk tpos) (.Call (.Name "enumerate" p) [e] [] pos) (iEnum K ta) := by
  subst ek
  exact pi_enum hg hm ha hs
end
end L2
namespace My
open PySem PySem.Spec PyProof.Rows L2
/-! ### the state of the draws -/

abbrev kCells : Key := .inr "cells"
abbrev kLeft : Key := .inr "left"
abbrev kAt : Key := .inr "at"
def mKvs (c l : Addr) (n : Nat) : List (Key × V) := [(kCells, .ref c), (kLeft, .ref l), (kAt, .int (n : Int))]
structure MAt (H : Hp) (m c l : Addr) (n : Nat) : Prop where
  dk : H m = some (.dK (mKvs c l n))
  cs : ∃ cs : List Int, H c = some (.lst (cs.map V.int)) ∧ cs.length ≤ 63
  ls : ∃ ls : List Int, H l = some (.lst (ls.map V.int)) ∧ ls.length ≤ 63 ∧ ∀ z ∈ ls, 0 ≤ z
  cl : c ≠ l
/-- b is a part of the state: the list of the cells, or that of what is left -/
def Lf (H : Hp) (m b : Addr) : Prop := ∃ kvs k, H m = some (.dK kvs) ∧ valV kvs k = some (.ref b)
/-- the state of the draws stands at m, n mixed numbers drawn -/
def MS (H : Hp) (m : Addr) (n : Nat) : Prop := ∃ c l, MAt H m c l n
theorem e12 : ¬ (Str.ofString "cells" = Str.ofString "left") := by decide +kernel
theorem e13 : ¬ (Str.ofString "cells" = Str.ofString "at") := by decide +kernel
theorem e23 : ¬ (Str.ofString "left" = Str.ofString "at") := by decide +kernel
theorem e21 : ¬ (Str.ofString "left" = Str.ofString "cells") := by decide +kernel
theorem e31 : ¬ (Str.ofString "at" = Str.ofString "cells") := by decide +kernel
theorem e32 : ¬ (Str.ofString "at" = Str.ofString "left") := by decide +kernel
theorem k12 : ¬ kCells = kLeft := by decide +kernel
theorem k13 : ¬ kCells = kAt := by decide +kernel
theorem k23 : ¬ kLeft = kAt := by decide +kernel
theorem k21 : ¬ kLeft = kCells := by decide +kernel
theorem k31 : ¬ kAt = kCells := by decide +kernel
theorem k32 : ¬ kAt = kLeft := by decide +kernel
theorem mKvs_cells (c l : Addr) (n : Nat) : valV (mKvs c l n) kCells = some (.ref c) := by
  unfold mKvs
  rw [valV_pos rfl]
theorem mKvs_left (c l : Addr) (n : Nat) : valV (mKvs c l n) kLeft = some (.ref l) := by
  unfold mKvs
  rw [valV_neg k12, valV_pos rfl]
theorem mKvs_at (c l : Addr) (n : Nat) : valV (mKvs c l n) kAt = some (.int (n : Int)) := by
  unfold mKvs
  rw [valV_neg k13, valV_neg k23, valV_pos rfl]
theorem put3_2 {x y z w : V} : putK [(kCells, x), (kLeft, y), (kAt, z)] kLeft w = [(kCells, x), (kLeft, w), (kAt, z)] := by
  simp [putK, e12, e21, e23, e32]
theorem put3_3 {x y z w : V} : putK [(kCells, x), (kLeft, y), (kAt, z)] kAt w = [(kCells, x), (kLeft, y), (kAt, w)] := by
  simp [putK, e13, e31, e23, e32]
theorem merge3 {x y z : V} : mergeK [] [(kCells, x), (kLeft, y), (kAt, z)] = [(kCells, x), (kLeft, y), (kAt, z)] := by
  simp [mergeK, putK, e12, e21, e13, e31, e23, e32]
theorem mKvs_ref {c l b : Addr} {n : Nat} {k : Key} (h : valV (mKvs c l n) k = some (.ref b)) : b = c ∨ b = l := by
  unfold mKvs at h
  by_cases h1 : kCells = k
  · rw [valV_pos h1] at h
    cases h
    exact .inl rfl
  · rw [valV_neg h1] at h
    by_cases h2 : kLeft = k
    · rw [valV_pos h2] at h
      cases h
      exact .inr rfl
    · rw [valV_neg h2] at h
      by_cases h3 : kAt = k
      · rw [valV_pos h3] at h
        cases h
      · rw [valV_neg h3] at h
        cases h
theorem MAt.lf {H : Hp} {m c l : Addr} {n : Nat} (M : MAt H m c l n) {b : Addr} (h : Lf H m b) : b = c ∨ b = l := by
  obtain ⟨kvs, k, h1, h2⟩ := h
  rw [M.dk] at h1
  cases h1
  exact mKvs_ref h2
theorem MAt.ownC {H : Hp} {m c l : Addr} {n : Nat} (M : MAt H m c l n) : Lf H m c := ⟨_, kCells, M.dk, mKvs_cells c l n⟩
theorem MAt.ownL {H : Hp} {m c l : Addr} {n : Nat} (M : MAt H m c l n) : Lf H m l := ⟨_, kLeft, M.dk, mKvs_left c l n⟩
/-- what a draw may change: the state itself and what is left -/
structure Ef (m : Addr) (H H' : Hp) : Prop where
  keep : ∀ b o, H b = some o → b ≠ m → ¬ Lf H m b → H' b = some o
  new : ∀ b, Lf H' m b → Lf H m b ∨ H b = none
  st : ∀ o, H m = some o → ∃ o', H' m = some o'
theorem Ef.trans {m : Addr} {H H1 H2 : Hp} (a : Ef m H H1) (b : Ef m H1 H2) : Ef m H H2 where
  keep := fun c o h h1 h2 => b.keep c o (a.keep c o h h1 h2) h1 fun z => by
    rcases a.new c z with q | q
    · exact h2 q
    · rw [h] at q
      cases q
  new := fun c z => by
    rcases b.new c z with q | q
    · exact a.new c q
    · cases e : H c with
      | none => exact .inr rfl
      | some o =>
        refine .inl (Classical.byContradiction fun w => ?_)
        by_cases cm : c = m
        · subst cm
          obtain ⟨o', e'⟩ := a.st o e
          rw [q] at e'
          cases e'
        · rw [a.keep c o e cm w] at q
          cases q
  st := fun o h => by
    obtain ⟨o1, h1⟩ := a.st o h
    exact b.st o1 h1
theorem Ef.refl {m : Addr} {H : Hp} : Ef m H H := ⟨fun _ _ h _ _ => h, fun _ h => .inl h, fun o h => ⟨o, h⟩⟩
theorem Ef.ofSame {m : Addr} {H H' : Hp} {n : Nat} (M : MS H m n) (e : Same H H') : Ef m H H' where
  keep := fun b o h _ _ => e b o h
  new := fun b z => by
    obtain ⟨c, l, M⟩ := M
    obtain ⟨kvs, k, h1, h2⟩ := z
    rw [e _ _ M.dk] at h1
    cases h1
    exact .inl ⟨_, k, M.dk, h2⟩
  st := fun o h => ⟨o, e _ _ h⟩
theorem MS.same {m : Addr} {H H' : Hp} {n : Nat} (M : MS H m n) (e : Same H H') : MS H' m n := by
  obtain ⟨c, l, dk, ⟨cs, h1, h2⟩, ⟨ls, h3, h4, h5⟩, cl⟩ := M
  exact ⟨c, l, e _ _ dk, ⟨cs, e _ _ h1, h2⟩, ⟨ls, e _ _ h3, h4, h5⟩, cl⟩
theorem Ef.tk {K : PySem.W.Frag} {m : Addr} {H H' : Hp} {n : Nat} (e : Ef m H H') (M : MS H m n) : TK K H H' := fun a xs h => by
  obtain ⟨c, l, M⟩ := M
  obtain ⟨ls, hl, _⟩ := M.ls
  obtain ⟨cs, hc, _⟩ := M.cs
  have go : ∀ u : HO, H a = some u → (∀ kvs, u ≠ .dK kvs) → (∀ ys, u ≠ .lst ys) → H' a = some u := fun u hu h1 h2 => by
    refine e.keep a u hu (fun z => ?_) (fun z => ?_)
    · subst z
      rw [M.dk] at hu
      exact h1 _ (Option.some.inj hu).symm
    · rcases M.lf z with q | q
      · rw [q, hc] at hu
        exact h2 _ (Option.some.inj hu).symm
      · rw [q, hl] at hu
        exact h2 _ (Option.some.inj hu).symm
  rcases h with (h | ⟨o, h⟩) | h
  · exact .inl (.inl (go _ h (by intro _ z; cases z) (by intro _ z; cases z)))
  · exact .inl (.inr ⟨o, go _ h (by intro _ z; cases z) (by intro _ z; cases z)⟩)
  · exact .inr h
theorem Ef.lst {m : Addr} {H H' : Hp} {p : Addr} {xs : List V} {n : Nat} (e : Ef m H H') (M : MS H m n) (h : H p = some (.lst xs)) (nl : ¬ Lf H m p) : H' p = some (.lst xs) ∧ ¬ Lf H' m p := by
  have pm : p ≠ m := fun z => by
    obtain ⟨c, l, M⟩ := M
    rw [z, M.dk] at h
    cases h
  refine ⟨e.keep _ _ h pm nl, fun z => ?_⟩
  rcases e.new _ z with q | q
  · exact nl q
  · rw [h] at q
    cases q
theorem MS.notLf {m : Addr} {H : Hp} {n : Nat} (M : MS H m n) {p : Addr} (h : H p = none) : ¬ Lf H m p := fun z => by
  obtain ⟨c, l, M⟩ := M
  obtain ⟨ls, hl, _⟩ := M.ls
  obtain ⟨cs, hc, _⟩ := M.cs
  rcases M.lf z with q | q
  · rw [q, hc] at h
    cases h
  · rw [q, hl] at h
    cases h
theorem map_int_get {ns : List Int} {i : Nat} {x : V} (h : (ns.map V.int)[i]? = some x) : ∃ z, ns[i]? = some z ∧ x = V.int z := by
  rw [List.getElem?_map] at h
  cases e : ns[i]? with
  | none =>
    rw [e] at h
    cases h
  | some z =>
    rw [e] at h
    exact ⟨z, rfl, (Option.some.inj h).symm⟩
theorem MAt.left {H : Hp} {m c l : Addr} {n : Nat} (M : MAt H m c l n) : DGet H m (.str "left") (some (.ref l)) := by
  have h := DGet.k (k := kLeft) M.dk
  rw [mKvs_left] at h
  exact h
theorem MAt.cells {H : Hp} {m c l : Addr} {n : Nat} (M : MAt H m c l n) : DGet H m (.str "cells") (some (.ref c)) := by
  have h := DGet.k (k := kCells) M.dk
  rw [mKvs_cells] at h
  exact h
theorem MAt.at {H : Hp} {m c l : Addr} {n : Nat} (M : MAt H m c l n) : DGet H m (.str "at") (some (.int (n : Int))) := by
  have h := DGet.k (k := kAt) M.dk
  rw [mKvs_at] at h
  exact h
theorem eqv_nil : ∀ ls : List Int, PyData.eqv (.list (ls.map PyData.int)) (.list []) = ls.isEmpty
  | [] => rfl
  | _ :: _ => rfl
/-- xs != [] -/
theorem rd_ne_nil {K : PySem.W.Frag} {H : Hp} {l : Addr} {ls : List Int} {σ : L2.St} {Q : VK} (hl : H l = some (.lst (ls.map V.int)))
    (k : ∀ p, H p = none → Q (.bl (!ls.isEmpty)) (upd H p (.lst []))) : tLst tNil σ H fun y H2 => rNeD K (.ref l) y H2 Q := by
  refine ⟨(by show 0 ≤ sizeLine; decide), fun p hp => ?_⟩
  have lp : l ≠ p := ne_of_none hl hp
  refine ⟨.list (ls.map PyData.int), .list [], .lst (SqL.of (by rw [upd_ne lp]; exact hl)) (DpAll.ints ls), .lst (SqL.of upd_same) .nil, PySem.W.shaped_ints ls, by decide +kernel, ?_⟩
  rw [eqv_nil]
  exact k p hp
theorem cut_tail (z : Int) (r : List Int) : cutV ((z :: r).map V.int) (some 1) none = r.map V.int := by
  simp only [cutV, HT.sIx, List.map_cons, List.length_cons, List.length_map]
  rw [if_neg (by omega)]
  have e : min (1 : Int).toNat (r.length + 1) = 1 := by
    show min 1 (r.length + 1) = 1
    omega
  rw [e]
  show ((r.map V.int).take (r.length + 1 - 1)) = _
  rw [List.take_of_length_le (by rw [List.length_map]; omega)]
theorem map_int_inj : ∀ {xs ys : List Int}, xs.map V.int = ys.map V.int → xs = ys
  | [], [], _ => rfl
  | [], _ :: _, h => by simp at h
  | _ :: _, [], h => by simp at h
  | x :: xs, y :: ys, h => by
    simp only [List.map_cons, List.cons.injEq, V.int.injEq] at h
    rw [h.1, map_int_inj h.2]
theorem at_zero {x : V} {r : List V} : atI (x :: r) 0 = some x := at_of (j := 0) rfl rfl
/-- what is known of a value and its heap, for all that follows -/
theorem te_cut {te : TE} {σ : L2.St} {H : Hp} {Q : VK} (R : V → Hp → Prop) (h : ∀ Q', (∀ v H', R v H' → Q' v H') → te σ H Q') (k : ∀ v H', R v H' → Q v H') : te σ H Q := h Q k
theorem tt_cut {tt : TT} {σ : L2.St} {H : Hp} {Q : Bool → Hp → Prop} (R : Bool → Hp → Prop) (h : ∀ Q', (∀ b H', R b H' → Q' b H') → tt σ H Q') (k : ∀ b H', R b H' → Q b H') : tt σ H Q := h Q k
theorem MAt.same {m c l : Addr} {H H' : Hp} {n : Nat} (M : MAt H m c l n) (e : Same H H') : MAt H' m c l n := by
  obtain ⟨dk, ⟨cs, h1, h2⟩, ⟨ls, h3, h4, h5⟩, cl⟩ := M
  exact ⟨e _ _ dk, ⟨cs, e _ _ h1, h2⟩, ⟨ls, e _ _ h3, h4, h5⟩, cl⟩
theorem at_mod (k : Int) {xs : List Int} (h : (0 : Int) < ((xs.map V.int).length : Int)) : ∃ v : Int, atI (xs.map V.int) (k.fmod ((xs.map V.int).length : Int)) = some (.int v) := by
  have h1 := Int.fmod_nonneg_of_pos k h
  have h2 := Int.fmod_lt_of_pos k h
  rw [List.length_map] at h h1 h2 ⊢
  have hk : (k.fmod (xs.length : Int)).toNat < xs.length := by omega
  refine ⟨xs[(k.fmod (xs.length : Int)).toNat], at_of (j := (k.fmod (xs.length : Int)).toNat) (by omega) ?_⟩
  rw [List.getElem?_map, List.getElem?_eq_getElem hk]
  all_goals rfl
theorem seq_asg {te : TE} {g : TG} {u : TS} {D : Ends} {σ : L2.St} {H : Hp} (h : te σ H fun x H1 => g x σ H1 (u D)) : tSeq (tAsg te g) u D σ H := h
/-- name = e, what is known of the value told once -/
theorem seq_cut {te : TE} {g : TG} {u : TS} {D : Ends} {σ : L2.St} {H : Hp} (R : V → Hp → Prop) (h : ∀ Q', (∀ v H', R v H' → Q' v H') → te σ H Q')
    (k : ∀ v H', R v H' → g v σ H' (u D)) : tSeq (tAsg te g) u D σ H := h _ k
theorem ret_cut {te : TE} {D : Ends} {σ : L2.St} {H : Hp} (R : V → Hp → Prop) (h : ∀ Q', (∀ v H', R v H' → Q' v H') → te σ H Q') (k : ∀ v H', R v H' → D.rt v H') : tRet te D σ H := h _ k
/-- another list than those of the state is written -/
theorem MS.upd {m : Addr} {H : Hp} {n : Nat} {D : Addr} {xs : List V} {o : HO} (M : MS H m n) (h : H D = some (.lst xs)) (nl : ¬ Lf H m D) : MS (upd H D o) m n := by
  obtain ⟨c, l, M⟩ := M
  have Dm : m ≠ D := fun z => by
    rw [← z, M.dk] at h
    cases h
  have Dc : c ≠ D := fun z => nl (z ▸ M.ownC)
  have Dl : l ≠ D := fun z => nl (z ▸ M.ownL)
  obtain ⟨dk, ⟨cs, h1, h2⟩, ⟨ls, h3, h4, h5⟩, cl⟩ := M
  exact ⟨c, l, by rw [upd_ne Dm]; exact dk, ⟨cs, by rw [upd_ne Dc]; exact h1, h2⟩, ⟨ls, by rw [upd_ne Dl]; exact h3, h4, h5⟩, cl⟩
theorem Lf.upd {m : Addr} {H : Hp} {D b : Addr} {o : HO} (Dm : m ≠ D) (h : Lf (upd H D o) m b) : Lf H m b := by
  obtain ⟨kvs, k, h1, h2⟩ := h
  rw [upd_ne Dm] at h1
  exact ⟨kvs, k, h1, h2⟩
/-- a list that was new at H0 is written -/
theorem Ef.upd {m : Addr} {H0 H : Hp} {D : Addr} {o : HO} (e : Ef m H0 H) (h0 : H0 D = none) (Dm : m ≠ D) : Ef m H0 (upd H D o) where
  keep := fun b u h h1 h2 => by
    rw [upd_ne (ne_of_none h h0)]
    exact e.keep b u h h1 h2
  new := fun b z => e.new b (z.upd Dm)
  st := fun u h => by
    rw [upd_ne Dm]
    exact e.st u h
theorem log_ok {many : Int} (h0 : 0 < many) (h : many ≤ 10 ^ 31) : many.natAbs.log2 < 9000 := by
  have e : many.natAbs < 2 ^ 104 := by
    have : (10 : Int) ^ 31 < 2 ^ 104 := by decide
    omega
  have := (Nat.log2_lt (by omega)).mpr e
  omega
theorem MS.mne {m : Addr} {H : Hp} {n : Nat} (M : MS H m n) {D : Addr} (h : H D = none) : m ≠ D := fun z => by
  obtain ⟨c, l, M⟩ := M
  rw [← z, M.dk] at h
  cases h
theorem MS.mneL {m : Addr} {H : Hp} {n : Nat} (M : MS H m n) {D : Addr} {xs : List V} (h : H D = some (.lst xs)) : m ≠ D := fun z => by
  obtain ⟨c, l, M⟩ := M
  rw [← z, M.dk] at h
  cases h
/-- a list is written: tuples stay -/
theorem tk_upd {K : PySem.W.Frag} {H : Hp} {D : Addr} {xs : List V} {o : HO} (h : H D = some (.lst xs)) : TK K H (upd H D o) := fun a ys q => by
  rcases q with (q | ⟨u, q⟩) | q
  · exact .inl (.inl (by rw [upd_ne (ne_of q h (by intro w; cases w))]; exact q))
  · exact .inl (.inr ⟨u, by rw [upd_ne (ne_of q h (by intro w; cases w))]; exact q⟩)
  · exact .inr q
theorem take_more {α : Type} {l : List α} {i : Nat} {x : α} (h : l[i]? = some x) : l.take (i + 1) = l.take i ++ [x] := by
  rw [List.take_add_one, h]
  rfl
end My

/-! Which data repr tells, and how long its text may be. -/
namespace L2
open PySem PySem.Spec PyProof.Rows
/-- ints of at most k digits, no dict -/
def fits (k : Nat) : PyData → Bool
  | .int i => decide (i.natAbs < 10 ^ k)
  | .none => true
  | .bool _ => true
  | .str x => decide ((reprText x).length ≤ 1000)
  | .list xs => go xs
  | .tuple xs => go xs
  | .dict _ => false
where go : List PyData → Bool
  | [] => true
  | x :: r => fits k x && go r
/-- a bound of the text's length -/
def room (k : Nat) : PyData → Nat
  | .int _ => k + 1
  | .none => 10
  | .bool _ => 10
  | .str _ => 1000
  | .list xs => go xs + 4
  | .tuple xs => go xs + 4
  | .dict _ => 0
where go : List PyData → Nat
  | [] => 0
  | x :: r => room k x + 2 + go r
theorem list_text_le (ts : List Str) : (listText ts).length ≤ piled ts + 4 := by
  cases ts with
  | nil => decide +kernel
  | cons t r =>
    have h := textFrom_length_pos r 1 (("[" : Str) ++ (if (0 : Nat) > 0 then ", " else "" : String) ++ t) (Nat.succ_pos 0)
    have e : (("[" : Str) ++ (if (0 : Nat) > 0 then ", " else "" : String) ++ t).length = 1 + t.length := by
      rw [strLen_append, strLen_append]
      rfl
    have f : (listText (t :: r)).length = (textFrom 1 (("[" : Str) ++ (if (0 : Nat) > 0 then ", " else "" : String) ++ t) r).length + 1 := by
      show (textFrom 0 "[" (t :: r) ++ "]").length = _
      rw [strLen_append]
      rfl
    rw [f, h, e, piled_cons]
    omega
theorem tuple_text_le (ts : List Str) : (tupleText ts).length ≤ piled ts + 4 := by
  have e : (tupleText ts).length ≤ (Str.join ", " ts).length + 3 := by
    unfold tupleText
    rw [strLen_append, strLen_append]
    have e1 : (("(" : String) : Str).length = 1 := by decide +kernel
    have e2 : ((if (ts.length == 1) = true then ",)" else ")" : String) : Str).length ≤ 2 := by
      split
      · decide +kernel
      · decide +kernel
    omega
  cases ts with
  | nil => exact Nat.le_trans e (by decide +kernel)
  | cons t r =>
    have q := join_length_add (t :: r) (by simp)
    omega
mutual
theorem room_ok {k : Nat} (hk : 0 < k) : ∀ d : PyData, fits k d = true → d.shown.length ≤ room k d
  | .none, _ => (by decide +kernel : PyData.none.shown.length ≤ 10)
  | .bool true, _ => (by decide +kernel : (PyData.bool true).shown.length ≤ 10)
  | .bool false, _ => (by decide +kernel : (PyData.bool false).shown.length ≤ 10)
  | .int i, h => by
    have q := int_text_length_le10 hk (of_decide_eq_true h)
    show (Str.ofString (toString i)).length ≤ k + 1
    rw [PySem.ofString_length]
    exact q
  | .str x, h => of_decide_eq_true h
  | .list xs, h => by
    have q := rooms_ok hk xs h
    exact Nat.le_trans (list_text_le _) (Nat.add_le_add_right q 4)
  | .tuple xs, h => by
    have q := rooms_ok hk xs h
    exact Nat.le_trans (tuple_text_le _) (Nat.add_le_add_right q 4)
  | .dict _, h => by cases h
theorem rooms_ok {k : Nat} (hk : 0 < k) : ∀ ds : List PyData, fits.go k ds = true → piled (PyData.shownAll ds) ≤ room.go k ds
  | [], _ => Nat.le_refl _
  | d :: r, h => by
    have h' := Bool.and_eq_true_iff.mp h
    have q1 := room_ok hk d h'.1
    have q2 := rooms_ok hk r h'.2
    show piled (d.shown :: PyData.shownAll r) ≤ room k d + 2 + room.go k r
    rw [piled_cons]
    omega
end
mutual
theorem fits_show {k : Nat} (hk : k ≤ 500) : ∀ d : PyData, fits k d = true → d.showable = true ∧ d.hasDict = false
  | .none, _ => ⟨rfl, rfl⟩
  | .bool _, _ => ⟨rfl, rfl⟩
  | .int i, h => by
    refine ⟨decide_eq_true ?_, rfl⟩
    have h1 : i.natAbs < 10 ^ k := of_decide_eq_true h
    have h2 : (10 : Nat) ^ k ≤ 10 ^ 500 := Nat.pow_le_pow_right (by decide) hk
    have h3 : (10 : Nat) ^ 500 < 2 ^ 1900 := by decide +kernel
    by_cases z : i.natAbs = 0
    · rw [z]
      decide
    · have := (Nat.log2_lt z).mpr (Nat.lt_trans (Nat.lt_of_lt_of_le h1 h2) h3)
      omega
  | .str _, _ => ⟨rfl, rfl⟩
  | .list xs, h => fits_shows hk xs h
  | .tuple xs, h => fits_shows hk xs h
  | .dict _, h => by cases h
theorem fits_shows {k : Nat} (hk : k ≤ 500) : ∀ ds : List PyData, fits.go k ds = true → PyData.showableAll ds = true ∧ PyData.hasDictAll ds = false
  | [], _ => ⟨rfl, rfl⟩
  | d :: r, h => by
    have h' := Bool.and_eq_true_iff.mp h
    obtain ⟨a, b⟩ := fits_show hk d h'.1
    obtain ⟨a', b'⟩ := fits_shows hk r h'.2
    refine ⟨?_, ?_⟩
    · show (d.showable && PyData.showableAll r) = true
      rw [a, a']
      rfl
    · show (d.hasDict || PyData.hasDictAll r) = false
      rw [b, b']
      rfl
end
/-- what repr asks -/
abbrev Tells (d : PyData) : Prop := isDisplay d = true ∧ d.showable = true ∧ d.hasDict = false ∧ d.depth ≤ 8 ∧ d.shown.length ≤ sizeLine
theorem tells (k : Nat) {d : PyData} (h0 : 0 < k) (h1 : k ≤ 500) (hd : isDisplay d = true) (hf : fits k d = true) (hp : d.depth ≤ 8) (hr : room k d ≤ 16000000) :
    Tells d := by
  obtain ⟨a, b⟩ := fits_show h1 d hf
  refine ⟨hd, a, b, hp, Nat.le_trans (room_ok h0 d hf) (Nat.le_trans hr ?_)⟩
  rw [sizeLine_eq]
  decide
/-! ### ints and loops -/
theorem fits_ints {k : Nat} : ∀ {ns : List Int}, (∀ z ∈ ns, z.natAbs < 10 ^ k) → fits.go k (ns.map PyData.int) = true
  | [], _ => rfl
  | n :: r, h => by
    have q := fits_ints (k := k) (ns := r) fun z hz => h z (List.mem_cons_of_mem _ hz)
    show (decide (n.natAbs < 10 ^ k) && fits.go k (r.map PyData.int)) = true
    rw [q, decide_eq_true (h n List.mem_cons_self)]
    rfl
theorem room_ints (k : Nat) : ∀ ns : List Int, room.go k (ns.map PyData.int) = (k + 3) * ns.length
  | [] => rfl
  | n :: r => by
    have q := room_ints k r
    show (k + 1) + 2 + room.go k (r.map PyData.int) = (k + 3) * (r.length + 1)
    rw [q, Nat.mul_add]
    omega
theorem depth_ints : ∀ ns : List Int, PyData.depthAll (ns.map PyData.int) = 0
  | [] => rfl
  | n :: r => by
    show max 0 (PyData.depthAll (r.map PyData.int)) = 0
    rw [depth_ints r]
    rfl
theorem tells_ints (k : Nat) {ns : List Int} (h0 : 0 < k) (h1 : k ≤ 500) (hz : ∀ z ∈ ns, z.natAbs < 10 ^ k) (hl : (k + 3) * ns.length + 4 ≤ 16000000) :
    Tells (dInts ns) := by
  refine tells k h0 h1 rfl (fits_ints hz) ?_ ?_
  · show PyData.depthAll (ns.map PyData.int) + 1 ≤ 8
    rw [depth_ints]
    decide
  · show room.go k (ns.map PyData.int) + 4 ≤ _
    rw [room_ints]
    exact hl
abbrev dList (ns : List Int) : PyData := .list (ns.map PyData.int)
theorem tells_list (k : Nat) {ns : List Int} (h0 : 0 < k) (h1 : k ≤ 500) (hz : ∀ z ∈ ns, z.natAbs < 10 ^ k) (hl : (k + 3) * ns.length + 4 ≤ 16000000) :
    Tells (dList ns) := by
  refine tells k h0 h1 rfl (fits_ints hz) ?_ ?_
  · show PyData.depthAll (ns.map PyData.int) + 1 ≤ 8
    rw [depth_ints]
    decide
  · show room.go k (ns.map PyData.int) + 4 ≤ _
    rw [room_ints]
    exact hl
theorem fits_loops {k : Nat} : ∀ {ls : List (List Int)}, (∀ l ∈ ls, ∀ z ∈ l, z.natAbs < 10 ^ k) → fits.go k (ls.map dInts) = true
  | [], _ => rfl
  | l :: r, h => by
    have q := fits_loops (k := k) (ls := r) fun z hz => h z (List.mem_cons_of_mem _ hz)
    show (fits.go k (l.map PyData.int) && fits.go k (r.map dInts)) = true
    rw [q, fits_ints (h l List.mem_cons_self)]
    rfl
theorem room_loops (k b : Nat) : ∀ ls : List (List Int), (∀ l ∈ ls, l.length ≤ b) → room.go k (ls.map dInts) ≤ ((k + 3) * b + 6) * ls.length
  | [], _ => Nat.le_refl _
  | l :: r, h => by
    have q := room_loops k b r fun z hz => h z (List.mem_cons_of_mem _ hz)
    have e := Nat.mul_le_mul_left (k + 3) (h l List.mem_cons_self)
    show room.go k (l.map PyData.int) + 4 + 2 + room.go k (r.map dInts) ≤ ((k + 3) * b + 6) * (r.length + 1)
    rw [room_ints, Nat.mul_add]
    omega
theorem depth_loops : ∀ ls : List (List Int), PyData.depthAll (ls.map dInts) ≤ 1
  | [] => by decide
  | l :: r => by
    have q := depth_loops r
    show max (PyData.depthAll (l.map PyData.int) + 1) (PyData.depthAll (r.map dInts)) ≤ 1
    rw [depth_ints]
    omega
theorem tells_loops (k b : Nat) {ls : List (List Int)} (h0 : 0 < k) (h1 : k ≤ 500) (hz : ∀ l ∈ ls, ∀ z ∈ l, z.natAbs < 10 ^ k) (hb : ∀ l ∈ ls, l.length ≤ b) (hl : ((k + 3) * b + 6) * ls.length + 4 ≤ 16000000) :
    Tells (dLoops ls) := by
  refine tells k h0 h1 rfl (fits_loops hz) ?_ ?_
  · have q := depth_loops ls
    show PyData.depthAll (ls.map dInts) + 1 ≤ 8
    omega
  · have q := room_loops k b ls hb
    show room.go k (ls.map dInts) + 4 ≤ _
    omega
end L2

/-! Defs that ask repr of a container: they are called where no repr is under way. -/
namespace L2
open PySem PySem.Spec PyProof.Rows
/-- as FnOk, where no guard stands -/
structure FnG (P : Program) (w : World) (K : PySem.W.Frag) (mg : Str → Option Value) (base : Heap) (k : Nat) (f : Addr) (fd : FuncData)
    (ps : List Str) (sp : Sp) : Prop where
  len : ∀ vs H Q E, sp vs H Q E → vs.length = ps.length
  go : ∀ (A : Around) (outer : List Env) (s : Shared) (H : Hp) (args : Args) (us : List Value) (vs : List V) (Q : VK) (E : XK),
    Room k A → A.guards = some [] → Env0 P w K mg base A outer s H → BindsTo s fd args (ps.zip us) → Vals vs us → sp vs H Q E →
    codeAny (model P w) A (.call (.ref f) args) (CR CX0 outer P w H s Q E) s
section
variable {P : Program} {w : World} {K : PySem.W.Frag} {mg : Str → Option Value} {base : Heap}
/-- a def whose body asks for no guard -/
theorem _root_.L2.Fun.okG {x qual : Str} {st : Stmt} {f : Addr} {fd : FuncData} {N ps : List Str} {k : Nat} {sp : Sp} (F : Fun K x qual st f fd)
    (S : FnScope N ps (defScope st)) (len : ∀ vs H Q E, sp vs H Q E → vs.length = ps.length)
    (body : ∀ (cdv : Value) (A : Around) (outer : List Env) (s : Shared) (H : Hp) (vs : List V) (Q : VK) (E : XK),
      Room k (A.deeper (envOfC qual (defScope st) s.heap.objs.size f cdv)) → A.guards = some [] → sp vs H Q E →
      ∃ t, PSs (cxOf CX0 P w K mg base N qual (defScope st) f cdv A outer s H E).nox (defBody st) t ∧
        t { nx := fun _ H' => Q .non H', rt := Q } (start N vs) H) : FnG P w K mg base (k + 1) f fd ps sp := by
  obtain ⟨oc, od, kV, doc, pm, an, cdv, ct, osl, rfl, lk, hcd⟩ := F.ex
  constructor
  · exact len
  intro A outer s H args us vs Q E room hg env binds rel ask
  have room' := room.deeper (envOfC qual (defScope st) s.heap.objs.size f cdv)
  obtain ⟨t, walk, want⟩ := body cdv A outer s H vs Q E room' hg ask
  have kin : K.In s.heap := env.mod.kin.keeps fun b o e => (env.bs b o e).1
  have kinds : ∀ y ∈ ps.zip us, (defScope st).names.lookup y.1 = some .local ∨
      ((defScope st).names.lookup y.1 = some .cell ∧ ((cellsFrom (s.heap.objs.size + 1) (defScope st).names []).lookup y.1).isSome = true) := by
    rintro ⟨n, v⟩ hy
    have hn := S.par n (List.of_mem_zip hy).1
    rcases hn with q | q
    · exact Or.inl q
    · exact Or.inr ⟨q, PySem.W.cellsFrom_some _ _ _ (Or.inl q)⟩
  refine codeAny_call_function room.depth (kin _ _ lk) rfl S.co S.gen rfl (PySem.W.codeRec_of kin hcd) (binds _ _ _ _ ?_)
  refine wpAny_newFunctionEnv_cells S.kind kinds fun e he s1 begun => ?_
  subst he
  have lim : s.heap.NoLimit := env.mod.nolimit.keeps fun b o e => (env.bs b o e).1
  refine And.intro (lim.keeps begun.toInCall.keep) (codeAny_func ?_)
  have inv := inv_start (CX := CX0) (E := E) S room.hd env (len _ _ _ _ ask) rel begun
  have over : ∀ {σ' : St} {H' : Hp} {v : V} {u : Value} {s' : Shared},
      Inv (cxOf CX0 P w K mg base N qual (defScope st) f cdv A outer s H E) [] σ' H' s' → RelV v u → Q v H' → CE outer P w H s Q u s' :=
    fun J r q => ⟨_, _, J.os, J.bare, J.base, J.hok, r, q⟩
  refine wpAny_mono (walk.nox.run [] s1 (start N vs) H _ inv want) ?_ (fun _ _ z => z)
  intro fl s' ends
  cases fl with
  | next =>
    obtain ⟨_, _, J, q⟩ := ends
    exact over (v := V.non) (u := Value.none) J rfl q
  | ret u =>
    obtain ⟨_, _, _, J, r, q⟩ := ends
    exact over J r q
  | brk =>
    obtain ⟨_, _, _, q⟩ := ends
    cases q
  | cont =>
    obtain ⟨_, _, _, q⟩ := ends
    cases q
/-- a def that keeps a promise everywhere keeps it where no guard stands -/
theorem FnOk.toG {k : Nat} {f : Addr} {fd : FuncData} {ps : List Str} {sp : Sp} (F : FnOk P w K mg base CX0 k f fd ps sp) : FnG P w K mg base k f fd ps sp :=
  ⟨F.len, fun A outer s H args us vs Q E r _ => F.run A outer s H args us vs Q E r⟩
end
section
variable {X : Cx} {k : Nat} {f : Addr} {fd : FuncData} {ps : List Str} {sp : Sp} {dvs : List V} {ds : List Value} {E : XK} {x : Str}
/-- f(e, ..), f such a def -/
theorem pe_callG {p pos : Pos} {e : Expr} {es : List Expr} {t : TA} (F : FnG X.prog X.w X.K X.mg X.base k f fd ps sp) (hr : Room k X.A) (hG : X.A.guards = some [])
    (hg : Gl X x) (hm : X.mg x = some (.ref f)) (hk : PySem.W.keepIn X.K (.ref f) = true) (hb : Binds X.K fd ps ds) (hd : Vals dvs ds) (hx : Passes CX0 X E)
    (ha : PA X (e :: es) t) (hdb : (x == ("__debug__" : Str)) = false := by decide)
    (he : starEach (e :: es) X.env = (false, eval e X.env) :: starEach es X.env := by rfl) (hpl : (backTo pos (starEach es X.env)).any (·.1) = false := by rfl) :
    PE X (.Call (.Name x p) (e :: es) [] pos) (tCall sp dvs E t) := by
  constructor
  intro pins s σ H Q I h
  have run : ∀ us s1, AP X pins σ (fun vs H1 => sp (vs ++ dvs) H1 Q E) us s1 →
      X.K.In s1.heap ∧ wpAny (model X.prog X.w) X.A (call (.ref f) us) (EP X pins σ Q) X.xe s1 := by
    rintro us s1 ⟨vs, H1, I1, r, q⟩
    have r2 := r.append hd
    have hl : (us ++ ds).length = ps.length := by
      rw [← r2.length]
      exact F.len _ _ _ _ q
    refine ⟨I1.kIn, wpAny_call (codeAny_mono (F.go X.A X.stack s1 H1 ⟨us, []⟩ (us ++ ds) (vs ++ dvs) Q E hr hG I1.env0 (hb s1 us I1.kIn hl) r2 q) ?_)⟩
    intro res s2 z
    cases res with
    | error er => exact hx pins σ H1 s1 er s2 I1 z
    | ok fl =>
      cases fl with
      | ret u => exact I1.after z
      | next => cases z
      | brk => cases z
      | cont => cases z
  exact wpAny_Call_Name_kw (ld_glob I hg hm (PySem.W.callWith_K (h₀ := X.base) I.ok.mod.kin hk
    (thn (ha.run pos pins s σ H _ I h) fun us s1 q => run us s1 q) he hpl) hdb)
end
end L2

/-! A law's end where its def asks repr of a container. -/
namespace L2
open PySem PySem.Spec PyProof.Rows
section
variable {P : Program} {w : World} {K : PySem.W.Frag} {mg mb : Str → Option Value} {k : Nat} {fa a : Addr} {fd : FuncData} {x : Str} {sp : Sp}
  {z : Shared} {vs : List Value} {ns : List Int}
def endsTrue (z : Shared) (r : Result) (s' : Shared) : Prop :=
  r = .ok (.ret (.bool true)) ∧ OldK z.heap s'.heap ∧ s'.os = z.os ∧ AllBare s'.gens
/-- from an abstract heap that tracks the script at most -/
theorem my_core (kin : K.In z.heap) (hns : z.heap.Ns mainGlobals mg) (hb : z.heap.Ns builtinsNs mb) (hbb : ∀ x : Str, x ≠ "__name__" → mb x = bootBuiltins x)
    (hlim : z.heap.NoLimit) (hg : z.gens = #[]) (ha : z.heap.get? a = some { cls := .type "list", data := .seq vs.toArray }) (hr : Room k callerA)
    (F : ∀ base : Heap, K.In base → base.Ns mainGlobals mg → FnG P w K mg base k fa fd [x] sp) (bind : ∀ (s : Shared) (u : Value), BindsTo s fd ⟨[u], []⟩ [(x, u)])
    (H : Hp) (ask : sp [.ref a] H (fun v _ => v = .bl true) fun _ _ _ => False) (ok : HOk P w H z.heap) (only : Only H) (atA : ∀ b, H b ≠ none → b = a)
    (notK : H a ≠ none → K.lookup a = none) : codeAny (model P w) callerA (.call (.ref fa) ⟨[.ref a], []⟩) (endsTrue z) z := by
  -- the base: all that H does not track
  have stays : ∀ {b : Addr} {o : Obj}, z.heap.get? b = some o → (b ≠ a ∨ H a = none) → (hidT z.heap H).get? b = some o := by
    intro b o e h
    refine hidT_get e ?_
    cases q : H b with
    | none => rfl
    | some u =>
      have eb := atA b (by rw [q]; exact Option.some_ne_none u)
      rcases h with h | h
      · exact absurd eb h
      · rw [eb, h] at q
        cases q
  have names : ∀ {b : Addr} {m : Str → Option Value}, z.heap.Ns b m → (hidT z.heap H).Ns b m := by
    rintro b m ⟨o, es, ep, e, d, r⟩
    refine ⟨o, es, ep, stays e (.inl fun eb => ?_), d, r⟩
    rw [eb, ha] at e
    cases e
    cases d
  have kinB : K.In (hidT z.heap H) := by
    intro b o e
    refine stays (kin b o e) ?_
    by_cases eb : b = a
    · refine .inr ?_
      cases q : H a with
      | none => rfl
      | some u =>
        rw [eb, notK (by rw [q]; exact Option.some_ne_none u)] at e
        cases e
    · exact .inl eb
  obtain ⟨mc, l1, l2⟩ := hlim
  have M : Mod K mg (hidT z.heap H) := ⟨kinB, names hns, ⟨mb, names hb, hbb⟩, ⟨mc, names l1, l2⟩⟩
  have env : Env0 P w K mg (hidT z.heap H) callerA [] z H := by
    refine ⟨rfl, M, fun b o e => of_hidT e, Nat.le_of_eq (hidT_size _ _), trivial, ?_, ok, .of_eq hg⟩
    intro b hm
    cases hm
  refine codeAny_mono ((F _ kinB (names hns)).go callerA [] z H ⟨[.ref a], []⟩ [.ref a] [.ref a] _ _ hr rfl env (bind z (.ref a)) (.cons rfl .nil) ask) ?_
  intro r s' res
  cases r with
  | error e => cases res
  | ok fl =>
    cases fl with
    | ret u =>
      obtain ⟨v, H', os, bare, un, ok', rel, ev⟩ := res
      have ev' : v = .bl true := ev
      subst ev'
      have eu : u = Value.bool true := rel
      subst eu
      refine ⟨rfl, OldK.of_keep fun b o e => ?_, os, bare⟩
      rcases only b with q | ⟨ob, xs, q⟩
      · exact un.keep b o e q (fun m => by cases m) (fun m => by cases m)
      · obtain ⟨e1, _⟩ := ok b _ q
        obtain ⟨e2, _⟩ := ok' b _ (un.frzs b ob _ q)
        rw [e] at e1
        cases e1
        exact e2
    | next => cases res
    | brk => cases res
    | cont => cases res
theorem my_law_call (kin : K.In z.heap) (hns : z.heap.Ns mainGlobals mg) (hb : z.heap.Ns builtinsNs mb) (hbb : ∀ x : Str, x ≠ "__name__" → mb x = bootBuiltins x)
    (hlim : z.heap.NoLimit) (hg : z.gens = #[]) (ha : z.heap.get? a = some { cls := .type "list", data := .seq vs.toArray }) (hi : IntsAre vs ns) (hl : ns.length ≤ sizeLine)
    (hr : Room k callerA) (F : ∀ base : Heap, K.In base → base.Ns mainGlobals mg → FnG P w K mg base k fa fd [x] sp)
    (bind : ∀ (s : Shared) (u : Value), BindsTo s fd ⟨[u], []⟩ [(x, u)])
    (ask : ∀ H : Hp, Only H → SqL K H a (ns.map V.int) → sp [.ref a] H (fun v _ => v = .bl true) fun _ _ _ => False) :
    codeAny (model P w) callerA (.call (.ref fa) ⟨[.ref a], []⟩) (endsTrue z) z := by
  have rv := vals_ints hi
  have lv := hi.length
  cases hk : K.lookup a with
  | none =>
    let H0 : Hp := fun b => if b = a then some (.frz { cls := .type "list", data := .seq vs.toArray } (.lst (ns.map V.int))) else none
    have at0 : H0 a = some (.frz { cls := .type "list", data := .seq vs.toArray } (.lst (ns.map V.int))) := if_pos rfl
    have else0 : ∀ b, b ≠ a → H0 b = none := fun b h => if_neg h
    have only : Only H0 := fun b => by
      by_cases h : b = a
      · rw [h]
        exact .inr ⟨_, _, at0⟩
      · exact .inl (else0 b h)
    refine my_core kin hns hb hbb hlim hg ha hr F bind H0 (ask H0 only (.inl (.inr ⟨_, at0⟩))) ?_ only ?_ (fun _ => hk)
    · intro b u h
      by_cases hba : b = a
      · subst hba
        rw [at0] at h
        cases h
        exact ⟨ha, by rw [List.length_map]; exact hl, vs, _, rv, ha⟩
      · rw [else0 b hba] at h
        cases h
    · intro b h
      exact Classical.byContradiction fun n => h (else0 b n)
  | some o =>
    have e := kin a o hk
    rw [ha] at e
    cases e
    have only : Only fun _ => none := fun _ => .inl rfl
    refine my_core kin hns hb hbb hlim hg ha hr F bind (fun _ => none) (ask _ only ?_) ?_ only ?_ ?_
    · exact .inr ⟨_, vs.toArray, _, hk, rfl, rfl, rfl, by rw [List.size_toArray, lv]; exact hl, by simpa using rv⟩
    · intro b u h
      cases h
    · intro b h
      exact absurd rfl h
    · intro h
      exact absurd rfl h
end
theorem my_walk {l : PySem.W.OpenLaw} {k : Nat} {q : Program} {loose : List Str} {XP : (Str → Option Value) → Heap → Prop} {YP : World → Heap → Prop} {d : DefRec}
    {K : Params → PySem.W.Frag} {sp : PySem.W.Frag → Sp} (hn : l.most = some 63) (hdf : d.params.defaults = []) (hr : Room k callerA)
    (hY : ∀ (w : World) (h : Heap), YP w h → (K w.params).In h)
    (F : ∀ (w : World) (mg : Str → Option Value) (fa : Addr) (h : Heap), (K w.params).In h → h.Ns mainGlobals mg → mg d.name = some (.ref fa) →
      ∃ fd : FuncData, (∀ (s : Shared) (u : Value), BindsTo s fd ⟨[u], []⟩ [("script", u)]) ∧
        ∀ base : Heap, (K w.params).In base → base.Ns mainGlobals mg → FnG l.prog w (K w.params) mg base k fa fd ["script"] (sp (K w.params)))
    (ask : ∀ (K : PySem.W.Frag) (H : Hp) (a : Addr) (ns : List Int), ns.length ≤ 63 → SqL K H a (ns.map V.int) → sp K [.ref a] H (fun v _ => v = .bl true) fun _ _ _ => False) :
    PySem.W.WalkO q loose XP YP l.row.toRowW d [] (fun f vs => PySem.call f vs) := by
  refine Att.attach_call hn hdf fun w s0 z mg mb fa o pm cd doc a vs ns G Y ho hd hcd hmg hobj hints hlen hg => ?_
  have kin := hY w _ Y
  obtain ⟨fd, bind, hF⟩ := F w mg fa _ kin G.T.g hmg
  exact my_law_call kin G.T.g G.T.b G.T.builtins G.T.nolimit hg hobj hints (Nat.le_trans hlen (by decide)) hr hF bind
    fun H only hS => ask (K w.params) H a ns hlen hS
end L2

/-! Data compared, cut, and told. -/
namespace L2
open PySem PySem.Spec PyProof.Rows
theorem eqv_ints : ∀ xs ys : List Int, PyData.eqvAll (xs.map PyData.int) (ys.map PyData.int) = decide (xs = ys)
  | [], [] => rfl
  | [], _ :: _ => rfl
  | _ :: _, [] => rfl
  | x :: xs, y :: ys => by
    have q := eqv_ints xs ys
    show ((x == y) && PyData.eqvAll (xs.map PyData.int) (ys.map PyData.int)) = decide (x :: xs = y :: ys)
    rw [q]
    by_cases h : x = y
    · subst h
      by_cases h2 : xs = ys
      · subst h2
        simp
      · simp [h2]
    · simp [h]
theorem eqv_dInts (xs ys : List Int) : PyData.eqv (dInts xs) (dInts ys) = decide (xs = ys) := eqv_ints xs ys
theorem shaped_dInts (ns : List Int) : SeqAt.shaped (dInts ns) = true := by
  have e : SeqAt.shaped (dInts ns) = SeqAt.shaped (.list (ns.map PyData.int)) := rfl
  rw [e]
  exact PySem.W.shaped_ints ns
/-- a list of ints that stands -/
theorem Dp.ofList {K : PySem.W.Frag} {H : Hp} {a : Addr} {ns : List Int} (h : H a = some (.lst (ns.map V.int))) : Dp K H (.ref a) (dList ns) :=
  .lst (SqL.of h) (DpAll.ints ns)
def cutD (ds : List PyData) (lo hi : Option Int) : List PyData := (ds.drop (HT.sIx ds.length 0 lo)).take (HT.sIx ds.length ds.length hi - HT.sIx ds.length 0 lo)
theorem DpAll.drop {K : PySem.W.Frag} {H : Hp} : ∀ {vs : List V} {ds : List PyData} (n : Nat), DpAll K H vs ds → DpAll K H (vs.drop n) (ds.drop n)
  | _, _, 0, h => h
  | _, _, _ + 1, .nil => .nil
  | _, _, n + 1, .cons _ h => DpAll.drop n h
theorem DpAll.take {K : PySem.W.Frag} {H : Hp} : ∀ {vs : List V} {ds : List PyData} (n : Nat), DpAll K H vs ds → DpAll K H (vs.take n) (ds.take n)
  | _, _, 0, _ => .nil
  | _, _, _ + 1, .nil => .nil
  | _, _, n + 1, .cons h1 h => .cons h1 (DpAll.take n h)
/-- t[lo:hi] of a tuple of data -/
theorem rd_cut {K : PySem.W.Frag} {H : Hp} {v : V} {ds : List PyData} {lo hi : Option Int} {Q : VK} (h : Dp K H v (.tuple ds))
    (k : ∀ w H', Same H H' → Dp K H' w (.tuple (cutD ds lo hi)) → Q w H') : rSlA K v lo hi H Q := by
  obtain ⟨a, xs, rfl, hT, hX⟩ := h.tuple
  have hl := hX.len
  have hc : DpAll K H (cutV xs lo hi) (cutD ds lo hi) := by
    unfold cutV cutD
    rw [← hl]
    exact (hX.drop _).take _
  refine ⟨a, xs, rfl, hT, fun w => ?_, fun _ p hp => ?_⟩
  · refine k _ H (Same.refl H) (.tup hT ?_)
    have e : cutV xs lo hi = xs := by
      unfold cutV
      rw [w.1, w.2, List.drop_zero, Nat.sub_zero, List.take_length]
    rw [e] at hc
    exact hc
  · exact k _ _ (same_upd hp _) (.tup (SqT.of upd_same) (DpAll.same (same_upd hp _) _ _ hc))
theorem cutD_map {α : Type} (f : α → PyData) (xs : List α) (n : Nat) : cutD (xs.map f) none (some (n : Int)) = (xs.take n).map f := by
  unfold cutD
  rw [HT.sIx_none, HT.sIx_nat, List.drop_zero, Nat.sub_zero, List.length_map, ← List.map_take]
  congr 1
  by_cases h : n ≤ xs.length
  · rw [Nat.min_eq_left h]
  · rw [Nat.min_eq_right (by omega), List.take_length, List.take_of_length_le (by omega)]
end L2

/-! The promises of the defs that several laws share, and what is known of them. -/
namespace My
open PySem PySem.Spec PyProof.Rows L2
def sp__law_begun (K : PySem.W.Frag) : Sp := fun vs H Q _ => ∃ (a : Addr) (ns : List Int), vs = [.ref a] ∧ SqL K H a (ns.map V.int) ∧ ns.length ≤ 63 ∧
  ∀ m H', Same H H' → MS H' m 0 → Q (.ref m) H'
def sp__law_next (K : PySem.W.Frag) : Sp := fun vs H Q _ => ∃ (m : Addr) (many : Int) (n : Nat), vs = [.ref m, .int many] ∧ MS H m n ∧ 0 < many ∧ many ≤ 10 ^ 31 ∧ n < 2 ^ 40 ∧
  ∀ (r : Int) (n' : Nat) H', 0 ≤ r → r < many → n' ≤ n + 1 → MS H' m n' → Ef m H H' → Q (.int r) H'
def NB (r : Int) : Prop := -(10 ^ 30) ≤ r ∧ r ≤ 10 ^ 30
def sp__law_number (K : PySem.W.Frag) : Sp := fun vs H Q _ => ∃ (m : Addr) (n : Nat), vs = [.ref m] ∧ MS H m n ∧ n + 2 ≤ 2 ^ 40 ∧
  ∀ (r : Int) (n' : Nat) H', NB r → n' ≤ n + 2 → MS H' m n' → Ef m H H' → Q (.int r) H'
def sp__law_lengths (K : PySem.W.Frag) : Sp := fun vs H Q _ => ∃ (m : Addr) (many most : Int) (n : Nat), vs = [.ref m, .int many, .int most] ∧ MS H m n ∧ 0 ≤ many ∧ many ≤ 100 ∧ 1 ≤ most ∧ most ≤ 1000 ∧ n + 200 ≤ 2 ^ 40 ∧
  ∀ (v : V) (ls : List Int) (n' : Nat) H', Dp K H' v (dInts ls) → (ls.length : Int) ≤ many → (∀ z ∈ ls, 1 ≤ z ∧ z ≤ most) → n' ≤ n + 200 → MS H' m n' → Ef m H H' → Q v H'
def sp__law_loops_of (K : PySem.W.Frag) : Sp := fun vs H Q _ => ∃ (m : Addr) (v : V) (lens : List Int) (n : Nat), vs = [.ref m, v] ∧ Dp K H v (dInts lens) ∧ lens.length ≤ 100 ∧ (∀ z ∈ lens, 0 ≤ z ∧ z ≤ 1000) ∧ MS H m n ∧ n + 300000 ≤ 2 ^ 40 ∧
  ∀ (v : V) (ls : List (List Int)) (n' : Nat) H', Dp K H' v (dLoops ls) → ls.map (fun l => (l.length : Int)) = lens → (∀ l ∈ ls, ∀ z ∈ l, NB z) → n' ≤ n + 200000 → MS H' m n' → Ef m H H' → Q v H'
def sp_is_whole (K : PySem.W.Frag) : Sp := fun vs H Q _ => ∃ (x : V) (t : Value) (b1 b2 : Bool), vs = [x] ∧ TyX K H x t ∧ PySem.W.kitOne K t (.type "int") = some b1 ∧ PySem.W.kitOne K t (.type "bool") = some b2 ∧ Q (.bl (b1 && !b2)) H
def sp_is_tick (K : PySem.W.Frag) : Sp := fun vs H Q _ => ∃ (i : Int), vs = [.int i] ∧ Q (.bl (decide (0 ≤ i) && decide (i ≤ 10 ^ 30))) H
def sp_need_tick (K : PySem.W.Frag) : Sp := fun vs H Q _ => ∃ (i : Int), vs = [.int i] ∧ 0 ≤ i ∧ i ≤ 10 ^ 30 ∧ Q .non H
def sp_need_many (K : PySem.W.Frag) : Sp := fun vs H Q _ => ∃ (i : Int), vs = [.int i] ∧ 0 ≤ i ∧ i ≤ 1000 ∧ Q .non H
def OkL (ls : List (List Int)) : Prop := ls.length ≤ 6 ∧ ∀ l ∈ ls, 1 ≤ l.length ∧ l.length ≤ 64
def sp_need_loops (K : PySem.W.Frag) : Sp := fun vs H Q _ => ∃ (v : V) (ls : List (List Int)), vs = [v] ∧ Dp K H v (dLoops ls) ∧ OkL ls ∧ ∀ H', Same H H' → Q v H'
def hAt (l : List Int) (t : Int) : Int := l.getD (t.fmod (l.length : Int)).toNat 0
def hd (ls : List (List Int)) (t : Int) : Int := (ls.map fun l => hAt l t).sum
def hrow (ls : List (List Int)) (t : Int) (n : Nat) : List Int := (List.range n).map fun i => hd ls (t + (i : Nat))
def sp_sum_at (K : PySem.W.Frag) : Sp := fun vs H Q _ => ∃ (v : V) (ls : List (List Int)) (t : Int), vs = [v, .int t] ∧ Dp K H v (dLoops ls) ∧ OkL ls ∧ ∀ H', Same H H' → Q (.int (hd ls t)) H'
def sp__law_heard (K : PySem.W.Frag) : Sp := fun vs H Q _ => ∃ (v : V) (ls : List (List Int)) (t : Int), vs = [v, .int t] ∧ Dp K H v (dLoops ls) ∧ OkL ls ∧ ∀ H', Same H H' → Q (.int (hd ls t)) H'
def sp_heard (K : PySem.W.Frag) : Sp := fun vs H Q _ => ∃ (v : V) (ls : List (List Int)) (t : Int), vs = [v, .int t] ∧ Dp K H v (dLoops ls) ∧ OkL ls ∧ 0 ≤ t ∧ t ≤ 10 ^ 30 ∧ ∀ H', Same H H' → Q (.int (hd ls t)) H'
def sp_heard_row (K : PySem.W.Frag) : Sp := fun vs H Q _ => ∃ (v : V) (ls : List (List Int)) (t n : Int), vs = [v, .int t, .int n] ∧ Dp K H v (dLoops ls) ∧ OkL ls ∧ 0 ≤ t ∧ t ≤ 10 ^ 30 ∧ 0 ≤ n ∧ n ≤ 1000 ∧
  ∀ w H', Same H H' → Dp K H' w (dInts (hrow ls t n.toNat)) → Q w H'
def sp__law_heard_row (K : PySem.W.Frag) : Sp := fun vs H Q _ => ∃ (v : V) (ls : List (List Int)) (t n : Int), vs = [v, .int t, .int n] ∧ Dp K H v (dLoops ls) ∧ OkL ls ∧ 0 ≤ n ∧ n ≤ 1000 ∧
  ∀ w H', Same H H' → Dp K H' w (dInts (hrow ls t n.toNat)) → Q w H'
theorem loops_get {K : PySem.W.Frag} {H : Hp} {xs : List V} {ls : List (List Int)} {i : Nat} {x : V} (h : DpAll K H xs (ls.map dInts)) (hx : xs[i]? = some x) :
    ∃ l a, ls[i]? = some l ∧ x = .ref a ∧ SqT K H a (l.map V.int) := by
  obtain ⟨d, hd, hD⟩ := h.get hx
  rw [List.getElem?_map] at hd
  cases e : ls[i]? with
  | none =>
    rw [e] at hd
    cases hd
  | some l =>
    rw [e] at hd
    cases hd
    obtain ⟨a, rfl, hT⟩ := hD.ints
    exact ⟨l, a, rfl, rfl, hT⟩
theorem iteP {p A B : Prop} [Decidable p] (h : p) (a : A) : if decide p = true then A else B := by
  rw [decide_eq_true h]
  exact iteT a
theorem iteN {p A B : Prop} [Decidable p] (h : ¬ p) (b : B) : if decide p = true then A else B := by
  rw [decide_eq_false h]
  exact iteF b
theorem kit_ii {K : PySem.W.Frag} : PySem.W.kitOne K (.type "int") (.type "int") = some true := kit_ty (by decide +kernel)
theorem kit_ib {K : PySem.W.Frag} : PySem.W.kitOne K (.type "int") (.type "bool") = some false := kit_ty (by decide +kernel)
theorem kit_tt {K : PySem.W.Frag} : PySem.W.kitOne K (.type "tuple") (.type "tuple") = some true := kit_ty (by decide +kernel)
theorem _root_.L2.Dp.same_at {K : PySem.W.Frag} {H H' : Hp} {v : V} {d : PyData} (h : Dp K H v d) (e : Same H H') : Dp K H' v d := Dp.same e d v h
theorem hAt_ix {l : List Int} (t : Int) (h : 1 ≤ l.length) : atI (l.map V.int) (t.fmod ((l.map V.int).length : Int)) = some (.int (hAt l t)) := by
  rw [List.length_map]
  have hp : (0 : Int) < (l.length : Int) := by omega
  have h1 := Int.fmod_nonneg_of_pos t hp
  have h2 := Int.fmod_lt_of_pos t hp
  have hk : (t.fmod (l.length : Int)).toNat < l.length := by omega
  refine at_of (j := (t.fmod (l.length : Int)).toNat) (by omega) ?_
  rw [List.getElem?_map, List.getElem?_eq_getElem hk]
  unfold hAt
  rw [List.getD_eq_getElem?_getD, List.getElem?_eq_getElem hk]
  rfl
theorem hrow_len (ls : List (List Int)) (t : Int) (n : Nat) : (hrow ls t n).length = n := by
  unfold hrow
  rw [List.length_map, List.length_range]
theorem hrow_more (ls : List (List Int)) (t : Int) (n : Nat) : hrow ls t (n + 1) = hrow ls t n ++ [hd ls (t + (0 + (n : Int)))] := by
  unfold hrow
  rw [List.range_succ, List.map_append, Int.zero_add]
  rfl
def sp_law (K : PySem.W.Frag) : Sp := fun vs H Q _ => ∃ (a : Addr) (ns : List Int), vs = [.ref a] ∧ SqL K H a (ns.map V.int) ∧ ns.length ≤ 63 ∧ ∀ H', Q (.bl true) H'
def NBL (ls : List (List Int)) : Prop := ∀ l ∈ ls, ∀ z ∈ l, NB z
theorem hAt_nb {l : List Int} (t : Int) (h : ∀ z ∈ l, NB z) : NB (hAt l t) := by
  unfold hAt
  rw [List.getD_eq_getElem?_getD]
  cases e : l[(t.fmod (l.length : Int)).toNat]? with
  | none => exact ⟨by decide, by decide⟩
  | some z => exact h z (List.mem_of_getElem? e)
theorem hd_nb : ∀ {ls : List (List Int)} (t : Int), NBL ls → -(10 ^ 30) * (ls.length : Int) ≤ hd ls t ∧ hd ls t ≤ 10 ^ 30 * (ls.length : Int)
  | [], _, _ => ⟨(by decide : -(10 ^ 30) * ((0 : Nat) : Int) ≤ 0), (by decide : (0 : Int) ≤ 10 ^ 30 * ((0 : Nat) : Int))⟩
  | l :: r, t, h => by
    have q := hd_nb (ls := r) t fun x hx => h x (List.mem_cons_of_mem _ hx)
    have e : hd (l :: r) t = hAt l t + hd r t := by
      unfold hd
      rw [List.map_cons, List.sum_cons]
    obtain ⟨a, b⟩ := hAt_nb t (h l List.mem_cons_self)
    rw [e, List.length_cons]
    obtain ⟨c, d⟩ := q
    constructor <;> omega
theorem hd_small {ls : List (List Int)} (t : Int) (h : NBL ls) (hl : ls.length ≤ 6) : (hd ls t).natAbs < 10 ^ 40 := by
  obtain ⟨a, b⟩ := hd_nb t h
  have c : ((ls.length : Nat) : Int) ≤ 6 := by omega
  have e : (10 : Int) ^ 30 * (ls.length : Int) ≤ 10 ^ 31 := by omega
  have f : -(10 ^ 31) ≤ -(10 : Int) ^ 30 * (ls.length : Int) := by omega
  have g : (10 : Nat) ^ 40 = 10000000000000000000000000000000000000000 := by decide
  omega
theorem hrow_small {ls : List (List Int)} (t : Int) (n : Nat) (h : NBL ls) (hl : ls.length ≤ 6) : ∀ z ∈ hrow ls t n, z.natAbs < 10 ^ 40 := by
  intro z hz
  unfold hrow at hz
  obtain ⟨i, _, rfl⟩ := List.mem_map.mp hz
  exact hd_small _ h hl
theorem nb_small {z : Int} (h : NB z) : z.natAbs < 10 ^ 40 := by
  obtain ⟨a, b⟩ := h
  have g : (10 : Nat) ^ 40 = 10000000000000000000000000000000000000000 := by decide
  omega
theorem tells_row {ls : List (List Int)} (t : Int) (n : Nat) (h : NBL ls) (hl : ls.length ≤ 6) (hn : n ≤ 1000) : Tells (dInts (hrow ls t n)) :=
  tells_ints (ns := hrow ls t n) 40 (by decide) (by decide) (hrow_small t n h hl) (by rw [hrow_len]; omega)
theorem tells_two {x : Int} (h : x.natAbs < 10 ^ 40) : Tells (dList [x, x]) := tells_list (ns := [x, x]) 40 (by decide) (by decide)
  (by intro z hz; simp at hz; rw [hz]; exact h) (by show (40 + 3) * 2 + 4 ≤ 16000000; decide)
theorem tells_ok {ls : List (List Int)} (h : NBL ls) (ok : OkL ls) : Tells (dLoops ls) := tells_loops (ls := ls) 40 64 (by decide) (by decide)
  (fun l hl z hz => nb_small (h l hl z hz)) (fun l hl => (ok.2 l hl).2) (by have := ok.1; omega)
/-- one of two -/
theorem pick2 {x y : Int} {r : Int} (h0 : 0 ≤ r) (h1 : r < 2) : ∃ b : Int, atI ([x, y].map V.int) r = some (.int b) ∧ (b = x ∨ b = y) := by
  rcases (by omega : r = 0 ∨ r = 1) with e | e
  · rw [e]
    exact ⟨x, at_of (j := 0) rfl rfl, .inl rfl⟩
  · rw [e]
    exact ⟨y, at_of (j := 1) rfl rfl, .inr rfl⟩
theorem pick3 {x y w : Int} {r : Int} (h0 : 0 ≤ r) (h1 : r < 3) : ∃ b : Int, atI ([x, y, w].map V.int) r = some (.int b) ∧ (b = x ∨ b = y ∨ b = w) := by
  rcases (by omega : r = 0 ∨ r = 1 ∨ r = 2) with e | e | e
  · rw [e]
    exact ⟨x, at_of (j := 0) rfl rfl, .inl rfl⟩
  · rw [e]
    exact ⟨y, at_of (j := 1) rfl rfl, .inr (.inl rfl)⟩
  · rw [e]
    exact ⟨w, at_of (j := 2) rfl rfl, .inr (.inr rfl)⟩
theorem min4 (z : Int) (h : 0 ≤ z) : 0 ≤ (if (4 : Int) < z then 4 else z) ∧ (if (4 : Int) < z then 4 else z) ≤ 4 := by
  split <;> omega
abbrev farL : List (List Int) := [[(10 ^ 62) ^ 16, 1 - (10 ^ 62) ^ 16], [5]]
theorem far_row : hrow farL (10 ^ 30) 2 = [(10 ^ 62) ^ 16 + 5, 6 - (10 ^ 62) ^ 16] := by decide +kernel
theorem iteB {b : Bool} {A B : Prop} (h : b = true) (k : B) : if (!b) = true then A else B := by
  rw [h]
  exact iteF k
theorem far_eq : PyData.eqv (dInts (hrow farL (10 ^ 30) 2)) (dInts [(10 ^ 62) ^ 16 + 5, 6 - (10 ^ 62) ^ 16]) = true := by
  rw [eqv_dInts, far_row]
  exact decide_eq_true rfl
theorem far_ok : OkL farL := by
  refine ⟨by decide, fun l hl => ?_⟩
  simp at hl
  rcases hl with h | h <;> (rw [h]; decide)
theorem OkL.take {ls : List (List Int)} (h : OkL ls) (n : Nat) : OkL (ls.take n) :=
  ⟨by rw [List.length_take]; have := h.1; omega, fun l hl => h.2 l (List.mem_of_mem_take hl)⟩
theorem NBL.take {ls : List (List Int)} (h : NBL ls) (n : Nat) : NBL (ls.take n) := fun l hl => h l (List.mem_of_mem_take hl)
/-! ### loops turned -/
def turnL (l : List Int) (k : Nat) : List Int := l.drop k ++ l.take k
def lat (ls : List (List Int)) (t : Int) : List (List Int) := ls.map fun l => turnL l (t.fmod (l.length : Int)).toNat
def lensI (ls : List (List Int)) : List Int := ls.map fun l => (l.length : Int)
def sp_lengths_of (K : PySem.W.Frag) : Sp := fun vs H Q _ => ∃ (v : V) (ls : List (List Int)), vs = [v] ∧ Dp K H v (dLoops ls) ∧ OkL ls ∧ ∀ w H', Same H H' → Dp K H' w (dInts (lensI ls)) → Q w H'
def sp_begun_at (K : PySem.W.Frag) : Sp := fun vs H Q _ => ∃ (v : V) (l : List Int) (i : Int), vs = [v, .int i] ∧ Dp K H v (dInts l) ∧ 0 ≤ i ∧ i < (l.length : Int) ∧ l.length ≤ 64 ∧ ∀ w H', Same H H' → Dp K H' w (dInts (turnL l i.toNat)) → Q w H'
def sp__law_turned (K : PySem.W.Frag) : Sp := fun vs H Q _ => ∃ (v : V) (l : List Int) (t : Int), vs = [v, .int t] ∧ Dp K H v (dInts l) ∧ 1 ≤ l.length ∧ l.length ≤ 64 ∧ ∀ w H', Same H H' → Dp K H' w (dInts (turnL l (t.fmod (l.length : Int)).toNat)) → Q w H'
def sp_later (K : PySem.W.Frag) : Sp := fun vs H Q _ => ∃ (v : V) (ls : List (List Int)) (t : Int), vs = [v, .int t] ∧ Dp K H v (dLoops ls) ∧ OkL ls ∧ 0 ≤ t ∧ t ≤ 10 ^ 30 ∧ ∀ w H', Same H H' → Dp K H' w (dLoops (lat ls t)) → Q w H'
theorem fm {t : Int} {n : Nat} (h : 1 ≤ n) : t.fmod (n : Int) = t % (n : Int) := Int.fmod_eq_emod_of_nonneg t (by omega)
theorem fm_lt {t : Int} {n : Nat} (h : 1 ≤ n) : (t.fmod (n : Int)).toNat < n := by
  have a := Int.fmod_nonneg_of_pos t (show (0 : Int) < (n : Int) by omega)
  have b := Int.fmod_lt_of_pos t (show (0 : Int) < (n : Int) by omega)
  omega
theorem turn_len (l : List Int) (k : Nat) : (turnL l k).length = l.length := by
  unfold turnL
  rw [List.length_append, List.length_drop, List.length_take]
  omega
theorem turn_get {l : List Int} {k i : Nat} (hk : k < l.length) (hi : i < l.length) : (turnL l k)[i]? = l[(k + i) % l.length]? := by
  unfold turnL
  by_cases h : i < l.length - k
  · rw [List.getElem?_append_left (by rw [List.length_drop]; exact h), List.getElem?_drop, Nat.mod_eq_of_lt (by omega)]
  · rw [List.getElem?_append_right (by rw [List.length_drop]; omega), List.length_drop, List.getElem?_take_of_lt (by omega)]
    congr 1
    rw [Nat.mod_eq_sub_mod (by omega), Nat.mod_eq_of_lt (by omega)]
    omega
theorem turn_turn {l : List Int} {a b : Nat} (ha : a < l.length) (hb : b < l.length) : turnL (turnL l a) b = turnL l ((a + b) % l.length) := by
  refine List.ext_getElem? fun i => ?_
  by_cases hi : i < l.length
  · rw [turn_get (by rw [turn_len]; exact hb) (by rw [turn_len]; exact hi), turn_len, turn_get ha (Nat.mod_lt _ (by omega)), turn_get (Nat.mod_lt _ (by omega)) hi]
    congr 1
    rw [Nat.add_mod_mod, Nat.mod_add_mod, Nat.add_assoc]
  · rw [List.getElem?_eq_none (by rw [turn_len, turn_len]; omega), List.getElem?_eq_none (by rw [turn_len]; omega)]
theorem fm_add {a b : Int} {n : Nat} (h : 1 ≤ n) : ((a.fmod (n : Int)).toNat + (b.fmod (n : Int)).toNat) % n = ((a + b).fmod (n : Int)).toNat := by
  rw [fm h, fm h, fm h]
  have a0 := Int.emod_nonneg a (show (n : Int) ≠ 0 by omega)
  have b0 := Int.emod_nonneg b (show (n : Int) ≠ 0 by omega)
  have c0 := Int.emod_nonneg (a + b) (show (n : Int) ≠ 0 by omega)
  have e : ((((a % (n : Int)).toNat + (b % (n : Int)).toNat) % n : Nat) : Int) = (a + b) % (n : Int) := by
    rw [Int.natCast_emod, Int.natCast_add, Int.toNat_of_nonneg a0, Int.toNat_of_nonneg b0, ← Int.add_emod]
  omega
theorem hAt_turn {l : List Int} (a t : Int) (h : 1 ≤ l.length) : hAt (turnL l (a.fmod (l.length : Int)).toNat) t = hAt l (a + t) := by
  unfold hAt
  rw [turn_len, List.getD_eq_getElem?_getD, List.getD_eq_getElem?_getD, turn_get (fm_lt h) (fm_lt h), fm_add h]
theorem hd_lat {ls : List (List Int)} (a t : Int) (h : ∀ l ∈ ls, 1 ≤ l.length) : hd (lat ls a) t = hd ls (a + t) := by
  unfold hd lat
  rw [List.map_map]
  congr 1
  exact List.map_congr_left fun l hl => hAt_turn a t (h l hl)
theorem lat_lat {ls : List (List Int)} (a b : Int) (h : ∀ l ∈ ls, 1 ≤ l.length) : lat (lat ls a) b = lat ls (a + b) := by
  unfold lat
  rw [List.map_map]
  refine List.map_congr_left fun l hl => ?_
  show turnL (turnL l (a.fmod (l.length : Int)).toNat) (b.fmod ((turnL l (a.fmod (l.length : Int)).toNat).length : Int)).toNat = _
  rw [turn_len, turn_turn (fm_lt (h l hl)) (fm_lt (h l hl)), fm_add (h l hl)]
theorem lat_id {ls : List (List Int)} (a : Int) (h : ∀ l ∈ ls, 1 ≤ l.length ∧ a % (l.length : Int) = 0) : lat ls a = ls := by
  unfold lat
  have e : ls.map (fun l => turnL l (a.fmod (l.length : Int)).toNat) = ls.map fun l => l := by
    refine List.map_congr_left fun l hl => ?_
    rw [fm (h l hl).1, (h l hl).2]
    show l.drop 0 ++ l.take 0 = l
    rw [List.drop_zero, List.take_zero, List.append_nil]
  rw [e, List.map_id']
theorem lat_ok {ls : List (List Int)} (a : Int) (h : OkL ls) : OkL (lat ls a) := by
  refine ⟨by unfold lat; rw [List.length_map]; exact h.1, fun l hl => ?_⟩
  obtain ⟨l', hl', rfl⟩ := List.mem_map.mp hl
  rw [turn_len]
  exact h.2 l' hl'
theorem lat_nb {ls : List (List Int)} (a : Int) (h : NBL ls) : NBL (lat ls a) := fun l hl z hz => by
  obtain ⟨l', hl', rfl⟩ := List.mem_map.mp hl
  unfold turnL at hz
  rcases List.mem_append.mp hz with q | q
  · exact h l' hl' z (List.mem_of_mem_drop q)
  · exact h l' hl' z (List.mem_of_mem_take q)
theorem lens_lat (ls : List (List Int)) (a : Int) : lensI (lat ls a) = lensI ls := by
  unfold lensI lat
  rw [List.map_map]
  exact List.map_congr_left fun l _ => by rw [Function.comp, turn_len]
theorem hrow_lat {ls : List (List Int)} (a t : Int) (n : Nat) (h : ∀ l ∈ ls, 1 ≤ l.length) : hrow (lat ls a) t n = hrow ls (a + t) n := by
  unfold hrow
  refine List.map_congr_left fun i _ => ?_
  rw [hd_lat a _ h, Int.add_assoc]
/-- two tuples of data, one behind the other -/
theorem rd_cat {K : PySem.W.Frag} {H : Hp} {v u : V} {ds es : List PyData} {Q : VK} (h1 : Dp K H v (.tuple ds)) (h2 : Dp K H u (.tuple es)) (hz : ds.length + es.length ≤ sizeLine)
    (k : ∀ w H', Same H H' → Dp K H' w (.tuple (ds ++ es)) → Q w H') : rCatA K v u H Q := by
  obtain ⟨a, xs, rfl, hT, hX⟩ := h1.tuple
  obtain ⟨b, ys, rfl, hU, hY⟩ := h2.tuple
  have l1 := hX.len
  have l2 := hY.len
  refine ⟨a, b, xs, ys, rfl, rfl, hT, hU, by rw [l1, l2]; exact hz, fun e => ?_, fun _ e => ?_, fun _ _ p hp => ?_⟩
  · subst e
    cases hX
    exact k _ H (Same.refl H) (.tup hU hY)
  · subst e
    cases hY
    rw [List.append_nil] at k
    exact k _ H (Same.refl H) (.tup hT hX)
  · exact k _ _ (same_upd hp _) (.tup (SqT.of upd_same) (DpAll.same (same_upd hp _) _ _ (hX.app hY)))
theorem cutD_from {α : Type} (f : α → PyData) (xs : List α) {i : Int} (h : 0 ≤ i) (h2 : i ≤ (xs.length : Int)) : cutD (xs.map f) (some i) none = (xs.drop i.toNat).map f := by
  have e : i = ((i.toNat : Nat) : Int) := by omega
  rw [e]
  unfold L2.cutD
  rw [HT.sIx_none, HT.sIx_nat, List.length_map, Int.toNat_natCast, Nat.min_eq_left (by omega), ← List.map_drop]
  rw [List.take_of_length_le (by rw [List.length_map, List.length_drop]; omega)]
theorem cutD_to {α : Type} (f : α → PyData) (xs : List α) {i : Int} (h : 0 ≤ i) : cutD (xs.map f) none (some i) = (xs.take i.toNat).map f := by
  have e : i = ((i.toNat : Nat) : Int) := by omega
  rw [e, cutD_map, Int.toNat_natCast]
end My

/-! A tuple times any int; a tuple compared with the empty one. -/
namespace L2
open PySem PySem.Spec PyProof.Rows
section
theorem my_mul_same (l : Addr) (items : Array Value) (n : Nat) (dd : Option Addr) (sl : Array (Option Value)) (x : Int) (u : Tok)
    (c0 : (decide (x < -(2 ^ 63)) || decide (x ≥ 2 ^ 63)) = false) (c1 : (items.isEmpty || x == 1) = true) :
    Meets (Builtin.«tuple.__mul__» ⟨[.ref l, .int x u], []⟩) (fun _ R s =>
      s.heap.get? l = some { cls := .type "tuple", dict := dd, data := .seq items n, slots := sl } ∧ R (.ok (.ret (Value.ref l))) s) :=
  .of_wp fun prog w A R s h => by
    obtain ⟨hp, g, d, tk, os⟩ := s
    obtain ⟨hl, h⟩ := h
    have f1 := AutoSeq1.idx_int
    have c1' := c1
    wp_walk using wpAny_loadPart' hl
    refine wpAny_ite_false (decide_eq_false (by rw [c0]; exact Bool.false_ne_true)) ?_
    wp_walk using wpAny_loadPart' hl
    exact ⟨_, rfl, h⟩
theorem my_mul_none (l : Addr) (items : Array Value) (n : Nat) (dd : Option Addr) (sl : Array (Option Value)) (x : Int) (u : Tok)
    (c0 : (decide (x < -(2 ^ 63)) || decide (x ≥ 2 ^ 63)) = false) (c1 : (items.isEmpty || x == 1) = false) (c2 : (decide (x ≤ 0) || items.isEmpty) = true) :
    Meets (Builtin.«tuple.__mul__» ⟨[.ref l, .int x u], []⟩) (fun _ R s =>
      s.heap.get? l = some { cls := .type "tuple", dict := dd, data := .seq items n, slots := sl } ∧
      R (.ok (.ret (Value.ref s.heap.objs.size))) { s with heap := s.heap.push { cls := Value.type "tuple", data := Data.seq #[] } }) :=
  .of_wp fun prog w A R s h => by
    obtain ⟨hp, g, d, tk, os⟩ := s
    obtain ⟨hl, h⟩ := h
    have f1 := AutoSeq1.idx_int
    wp_walk using wpAny_loadPart' hl
    repeat (first
      | exact ⟨_, rfl, h⟩
      | (refine wpAny_ite_false (decide_eq_false (by rw [c0]; decide)) ?_; wp_walk using wpAny_loadPart' hl)
      | (refine wpAny_ite_false (decide_eq_false (by rw [c1]; decide)) ?_; wp_walk using wpAny_loadPart' hl)
      | (refine wpAny_ite_true (decide_eq_true c2) ?_; wp_walk using wpAny_loadPart' hl))
end
/-- t * k, any t, any k -/
def rRepA (K : PySem.W.Frag) : R2 := fun x y H Q => ∃ l k xs, x = .ref l ∧ y = .int k ∧ SqT K H l xs ∧ -1000 ≤ k ∧ k ≤ 1000 ∧ xs.length ≤ 1000 ∧
  ((xs = [] ∨ k = 1) → Q (.ref l) H) ∧ (¬ (xs = [] ∨ k = 1) → ∀ p, H p = none → Q (.ref p) (upd H p (.tup (List.replicate k.toNat xs).flatten)))
theorem op_repA {X : Cx} {K : PySem.W.Frag} (e : X.K = K := by rfl) : OpR X (binaryOp .Mult) (rRepA K) := by
  subst e
  intro pins s σ H x y v u Q I rx ry h
  obtain ⟨l, k, xs, rfl, rfl, hT, h1, h2, hz, q0, q1⟩ := h
  by_cases same : xs = [] ∨ k = 1
  · have q := q0 same
    cases rx
    obtain ⟨t, rfl⟩ := ry
    obtain ⟨its, r, ⟨⟨cls, dd, data, sl⟩, ho, hc, n, hd⟩, hs⟩ := I.tuple hT
    simp only at hc hd
    subst hc hd
    have c0 : (decide (k < -(2 ^ 63)) || decide (k ≥ 2 ^ 63)) = false := by
      rw [decide_eq_false (by omega), decide_eq_false (by omega)]
      rfl
    have c1 : (its.toArray.isEmpty || k == 1) = true := by
      rcases same with e | e
      · subst e
        cases r
        rfl
      · subst e
        simp
    refine wpAny_binaryOp_repeat_ref (T := "tuple") (U := "int") (by decide) ⟨_, ho, rfl⟩ (fun s' => typeIs_int s' k t) noFill_tuple_mul F.fills_int_mul F.slot_int_rmul repeat_tuple F.slot_int_index.lookup
      (call_meets F.slot_int_rmul (typeIs_int s k t) F.entry_int_rmul (F.args_int_rmul_2 _ _) (int_rmul_tuple k t l its.toArray n dd sl) ⟨ho, rfl, ⟨_, ho, rfl⟩, ?_⟩)
    exact call_meets F.slot_tuple_mul ⟨_, ho, rfl⟩ F.entry_tuple_mul (F.args_tuple_mul_2 _ _) (my_mul_same l its.toArray n dd sl k t c0 c1) ⟨ho, .ref l, H, I, rfl, q⟩
  · have q := q1 same
    have hne : xs ≠ [] := fun z => same (.inl z)
    by_cases h3 : 2 ≤ k
    · exact op_repT pins s σ H (.ref l) (.int k) v u Q I rx ry ⟨l, k, xs, rfl, rfl, hT, hne, h3, h2, hz, q⟩
    · cases rx
      obtain ⟨t, rfl⟩ := ry
      obtain ⟨its, r, ⟨⟨cls, dd, data, sl⟩, ho, hc, n, hd⟩, hs⟩ := I.tuple hT
      simp only at hc hd
      subst hc hd
      have k0 : k ≤ 0 := by
        have : k ≠ 1 := fun z => same (.inr z)
        omega
      have c0 : (decide (k < -(2 ^ 63)) || decide (k ≥ 2 ^ 63)) = false := by
        rw [decide_eq_false (by omega), decide_eq_false (by omega)]
        rfl
      have c1 : (its.toArray.isEmpty || k == 1) = false := by
        have e1 : its.toArray.isEmpty = false := by
          cases r with
          | nil => exact absurd rfl hne
          | cons _ _ => rfl
        rw [e1, Bool.false_or]
        exact beq_eq_false_iff_ne.mpr (by omega)
      have c2 : (decide (k ≤ 0) || its.toArray.isEmpty) = true := by
        rw [decide_eq_true k0]
        rfl
      have ek : k.toNat = 0 := by omega
      rw [ek] at q
      refine wpAny_binaryOp_repeat_ref (T := "tuple") (U := "int") (by decide) ⟨_, ho, rfl⟩ (fun s' => typeIs_int s' k t) noFill_tuple_mul F.fills_int_mul F.slot_int_rmul repeat_tuple F.slot_int_index.lookup
        (call_meets F.slot_int_rmul (typeIs_int s k t) F.entry_int_rmul (F.args_int_rmul_2 _ _) (int_rmul_tuple k t l its.toArray n dd sl) ⟨ho, rfl, ⟨_, ho, rfl⟩, ?_⟩)
      refine call_meets F.slot_tuple_mul ⟨_, ho, rfl⟩ F.entry_tuple_mul (F.args_tuple_mul_2 _ _) (my_mul_none l its.toArray n dd sl k t c0 c1 c2) ⟨ho, ?_⟩
      have J : Inv X pins σ (upd H s.heap.objs.size (.tup [])) { s with heap := s.heap.push { cls := .type "tuple", data := .seq #[] } } :=
        I.laid (t' := s.toks) (fun b ob z => Heap.get?_push_of_some _ z) (Nat.le_refl _) ⟨Nat.zero_le _, [], .nil, IsTup.new _ _⟩
      exact ⟨.ref s.heap.objs.size, _, J, rfl, q _ (I.hok.fresh (Nat.le_refl _))⟩
end L2

/-! Own errors with one field; things of many kinds. -/
namespace L2
open PySem PySem.Spec PyProof.Rows
/-! ### t == () -/
def rEqT0 (K : PySem.W.Frag) : R2 := fun x y H Q => ∃ a b xs, x = .ref a ∧ y = .ref b ∧ SqT K H a xs ∧ SqT K H b [] ∧ Q (.bl xs.isEmpty) H
theorem op_eqT0 {X : Cx} {K : PySem.W.Frag} (hu : X.A.units + 64 < cLine) (ek : X.K = K := by rfl) : OpR X (compareOp .Eq) (rEqT0 K) := by
  subst ek
  intro pins s σ H x y v u Q I rx ry h
  obtain ⟨a, b, xs, rfl, rfl, ha, hb, q⟩ := h
  cases rx
  cases ry
  obtain ⟨us, r1, p1, z1⟩ := I.tuple ha
  obtain ⟨ws, r2, p2, z2⟩ := I.tuple hb
  have t1 : s.heap.IsTuple a us.toArray := p1
  have t2 : s.heap.IsTuple b ws.toArray := p2
  have l1 := r1.length
  cases r2
  have go := SeqAt.RcAt.tuples (A := X.A) (e := fun _ => true) t1 t2 (by omega) (fun j _ h2 => absurd h2 (by simp))
  refine go X.prog X.w _ _ ⟨.bl _, H, I, ?_, q⟩
  show Value.bool _ = Value.bool _
  cases xs with
  | nil =>
    cases r1
    rfl
  | cons x r =>
    cases r1
    rfl
/-! ### (a, b) = t, the written part named -/
theorem k_pgt {X : Cx} {K : PySem.W.Frag} {es : List Expr} {k : Nat} {t : TGs} {n : Nat} {pos : Pos} (hc : X.calm = true) (h : PGs X es t)
    (hn : (assignEach es X.env).length = n := by rfl) (hst : (assignEach es X.env).findIdx? (·.1) = none := by rfl)
    (e : X.K = K := by rfl) : PG X (.Tuple es k pos) (gTup K n t) := by
  subst e
  exact pg_tup hc h hn hst
/-! ### repr of data, of None and ints too -/
def TellsA (d : PyData) : Prop := Tells d ∨ d = .none ∨ ∃ i : Int, d = .int i ∧ i.natAbs.log2 < 1920
def rReprA (K : PySem.W.Frag) : List V → Hp → VK → Prop := fun xs H Q => ∃ x d, xs = [x] ∧ Dp K H x d ∧ TellsA d ∧ Q (.str d.shown) H
theorem k_reprA {X : Cx} {K : PySem.W.Frag} (hu : X.A.units + 64 < cLine) (hg : X.A.guards = some []) (e : X.K = K := by rfl) : CallR X (.builtin "repr") (rReprA K) := by
  intro pins s σ H xs us Q I r h
  obtain ⟨x, d, rfl, hd, ht, q⟩ := h
  rcases ht with ht | rfl | ⟨i, rfl, hi⟩
  · exact k_repr hu hg e pins s σ H [x] us Q I r ⟨x, d, rfl, hd, ht, q⟩
  · obtain ⟨u, rfl, ru⟩ := vals1 r
    cases hd
    cases ru
    exact PySem.P.repr_of_none ⟨.str _, H, I.tok _, ⟨_, rfl⟩, q⟩
  · obtain ⟨u, rfl, ru⟩ := vals1 r
    cases hd
    obtain ⟨t, rfl⟩ := ru
    exact PySem.P.repr_of_int hi ⟨.str _, H, I.tok _, ⟨_, rfl⟩, q⟩
end L2
namespace My
open PySem PySem.Spec PyProof.Rows L2
/-! ### an own error whose __init__ keeps its one argument -/
def sp_exc (C : Addr) (fld : Str) : Sp := fun vs H Q _ => ∃ (a : Addr) (w : V), vs = [.ref a, w] ∧ H a = some (exo a C none) ∧
  ∀ dx, H dx = none → dx ≠ a → Q .non (upd (upd H dx (exd dx [(fld, w)])) a (exo a C (some dx)))
structure ExcT (K : PySem.W.Frag) (mg : Str → Option Value) (name qual fld : Str) (st : Stmt) where
  C : Addr
  f : Addr
  d : FuncData
  m : mg name = some (.ref C)
  ox : OexC K C
  iC : PySem.W.findIn K (.ref C) "__init__" = some (some (.ref f))
  tI : PySem.W.typeIn K (.ref f) = some (.type "function")
  F : Fun K "__init__" qual st f d
  b : Binds K d ["self", fld] []
  nf : PySem.W.findIn K (.ref C) fld = some none
  xf : XfC K C
  te : PySem.W.exmOne K (.ref C) (.ref C) = some true
theorem exm_me {K : PySem.W.Frag} {C : Addr} (h1 : PySem.W.subIn K (.ref C) (.type "BaseException") = some true) (h2 : PySem.W.isClsIn K C = true)
    (h3 : PySem.W.typeIn K (.ref C) = some (.type "type")) (h4 : PySem.W.subIn K (.ref C) (.ref C) = some true) : PySem.W.exmOne K (.ref C) (.ref C) = some true := by
  have h2' : (PySem.W.clsIn K C).isSome = true := h2
  simp [PySem.W.exmOne, PySem.W.kitCls, h1, h2', h3, h4]
/-- what the top has written of such a class -/
def exc_mk {K : PySem.W.Frag} {h : Heap} {mg : Str → Option Value} {name qual fld : Str} {st : Stmt} (X : K.In h) (G : h.Ns mainGlobals mg) {C f : Addr} {d : FuncData} {nm q : Str} {N : Addr} {bs : List Value} {sn : List Str} {sub : List Value}
    {ab : Bool} {col : Option Bool} {dd : Option Addr} {m0 m1 m2 m3 m5 : Option Value} (F : Fun K "__init__" qual st f d) (b : Binds K d ["self", fld] [])
    (aC : PySem.W.nsIn K mainGlobals name = some (some (.ref C)))
    (xL : K.lookup C = some (excClassObj nm q C N bs [.type "ValueError", .type "Exception", .type "BaseException", .type "object"] true sn sub ab col dd m0 m1 m2 m3 m5 "ValueError.__new__"))
    (sa : PySem.W.findIn K (.ref C) "__setattr__" = some (some (.builtin "object.__setattr__")))
    (ga : PySem.W.findIn K (.ref C) "__getattribute__" = some (some (.builtin "BaseException.__getattribute__")))
    (gg : PySem.W.findIn K (.ref C) "__getattr__" = some none) (nb : PySem.W.findIn K (.ref C) fld = some none)
    (a1 : PySem.W.findIn K (.ref C) "__init__" = some (some (.ref f))) (t1 : PySem.W.typeIn K (.ref f) = some (.type "function"))
    (kC : PySem.W.keepIn K (.ref C) = true) (eC : PySem.W.subIn K (.ref C) (.type "BaseException") = some true) (tC : PySem.W.typeIn K (.ref C) = some (.type "type"))
    (hC : PySem.W.hasDictIn K C = true) (iC : PySem.W.isClsIn K C = true) (sC : PySem.W.subIn K (.ref C) (.ref C) = some true) : ExcT K mg name qual fld st where
  C := C
  f := f
  d := d
  m := PySem.W.mg_of X G aC
  ox := ⟨⟨nm, q, N, bs, _, sn, sub, ab, col, dd, m0, m1, m2, m3, m5, xL, by decide +kernel⟩, sa, eC, tC, kC⟩
  iC := a1
  tI := t1
  F := F
  b := b
  nf := nb
  xf := ⟨ga, gg, eC, hC⟩
  te := exm_me eC iC tC sC
/-- such an error made: what its maker wants -/
theorem exc_made {C : Addr} {fld : Str} {w : V} {H : Hp} {Q : XK} (k : ∀ d H', Same H H' → H' d = some (.xd [(fld, w)]) → Q (.ref C) (some d) H') :
    ∀ a, H a = none → sp_exc C fld (.ref a :: ([w] ++ [])) (upd H a (exo a C none)) (fun v H2 => v = .non ∧ ∃ (d : Addr) (fs : List (Str × V)),
      H2 a = some (exo a C (some d)) ∧ H2 d = some (exd d fs) ∧ H d = none ∧ Q (.ref C) (some d) (upd (del H2 a) d (.xd fs))) (fun _ _ _ => False) := by
  intro a ha
  refine ⟨a, w, rfl, upd_same, fun dx hdx hne => ⟨rfl, dx, [(fld, w)], upd_same, by rw [upd_ne hne, upd_same], ?_, ?_⟩⟩
  · rw [upd_ne hne] at hdx
    exact hdx
  · rw [upd_ne hne] at hdx
    refine k dx _ (fun b o q => ?_) upd_same
    have b1 := ne_of_none q ha
    have b2 := ne_of_none q hdx
    rw [upd_ne b2, del_ne b1, upd_ne b1, upd_ne b2, upd_ne b1]
    exact q
/-! ### things of many kinds -/
inductive Dt where
  | int (i : Int)
  | oth (n : String)
  | tup (ds : List Dt)
def tyOf : Dt → String
  | .int _ => "int"
  | .oth n => n
  | .tup _ => "tuple"
mutual
/-- v is a thing d; lists and dicts in it lie at allowed places -/
inductive Rp (K : PySem.W.Frag) (H : Hp) (ok : Addr → Prop) : V → Dt → Prop
  | int (i : Int) (h : i.natAbs < 10 ^ 40) : Rp K H ok (.int i) (.int i)
  | bl (b : Bool) : Rp K H ok (.bl b) (.oth "bool")
  | non : Rp K H ok .non (.oth "NoneType")
  | str (x : Str) : Rp K H ok (.str x) (.oth "str")
  | lst {a : Addr} {xs : List V} (h : H a = some (.lst xs)) (ho : ok a) : Rp K H ok (.ref a) (.oth "list")
  | dct {a : Addr} {kvs : List (Key × V)} (h : H a = some (.dK kvs)) (ho : ok a) : Rp K H ok (.ref a) (.oth "dict")
  | tup {a : Addr} {xs : List V} {ds : List Dt} (h : SqT K H a xs) (hx : RpAll K H ok xs ds) : Rp K H ok (.ref a) (.tup ds)
inductive RpAll (K : PySem.W.Frag) (H : Hp) (ok : Addr → Prop) : List V → List Dt → Prop
  | nil : RpAll K H ok [] []
  | cons {v : V} {vs : List V} {d : Dt} {ds : List Dt} (h : Rp K H ok v d) (r : RpAll K H ok vs ds) : RpAll K H ok (v :: vs) (d :: ds)
end
variable {K : PySem.W.Frag} {H H' : Hp} {ok ok' : Addr → Prop}
mutual
theorem Rp.keep (tk : TK K H H') (kp : ∀ a o, ok a → H a = some o → H' a = some o) (oo : ∀ a o, H a = some o → ok a → ok' a) : ∀ (d : Dt) (v : V), Rp K H ok v d → Rp K H' ok' v d
  | .int i, _, h => by
    cases h with
    | int _ h => exact .int i h
  | .oth _, _, h => by
    cases h with
    | bl b => exact .bl b
    | non => exact .non
    | str x => exact .str x
    | lst h ho => exact .lst (kp _ _ ho h) (oo _ _ h ho)
    | dct h ho => exact .dct (kp _ _ ho h) (oo _ _ h ho)
  | .tup ds, _, h => by
    cases h with
    | tup h hx => exact .tup (tk _ _ h) (RpAll.keep tk kp oo ds _ hx)
theorem RpAll.keep (tk : TK K H H') (kp : ∀ a o, ok a → H a = some o → H' a = some o) (oo : ∀ a o, H a = some o → ok a → ok' a) : ∀ (ds : List Dt) (vs : List V), RpAll K H ok vs ds → RpAll K H' ok' vs ds
  | [], _, h => by
    cases h
    exact .nil
  | d :: r, _, h => by
    cases h with
    | cons h1 h2 => exact .cons (Rp.keep tk kp oo d _ h1) (RpAll.keep tk kp oo r _ h2)
end
theorem Rp.same {v : V} {d : Dt} (h : Rp K H ok v d) (e : Same H H') : Rp K H' ok v d := Rp.keep (Same.tk e) (fun a o _ q => e a o q) (fun _ _ _ q => q) d v h
theorem RpAll.same {vs : List V} {ds : List Dt} (h : RpAll K H ok vs ds) (e : Same H H') : RpAll K H' ok vs ds := RpAll.keep (Same.tk e) (fun a o _ q => e a o q) (fun _ _ _ q => q) ds vs h
theorem Rp.any {v : V} {d : Dt} (h : Rp K H ok v d) : Rp K H (fun _ => True) v d := Rp.keep TK.refl (fun _ _ _ q => q) (fun _ _ _ _ => trivial) d v h
theorem RpAll.len : ∀ {vs : List V} {ds : List Dt}, RpAll K H ok vs ds → vs.length = ds.length
  | _, _, .nil => rfl
  | _, _, .cons _ h => by simp [RpAll.len h]
theorem RpAll.get : ∀ {vs : List V} {ds : List Dt} {i : Nat} {v : V}, RpAll K H ok vs ds → vs[i]? = some v → ∃ d, ds[i]? = some d ∧ Rp K H ok v d
  | _, _, _, _, .nil, h => by cases h
  | _, _, 0, _, .cons h1 _, h => by
    cases h
    exact ⟨_, rfl, h1⟩
  | _, _, i + 1, _, .cons _ h2, h => RpAll.get (i := i) h2 h
theorem RpAll.app : ∀ {vs us : List V} {ds es : List Dt}, RpAll K H ok vs ds → RpAll K H ok us es → RpAll K H ok (vs ++ us) (ds ++ es)
  | _, _, _, _, .nil, h => h
  | _, _, _, _, .cons h1 h2, h => .cons h1 (RpAll.app h2 h)
theorem RpAll.take : ∀ {vs : List V} {ds : List Dt} (n : Nat), RpAll K H ok vs ds → RpAll K H ok (vs.take n) (ds.take n)
  | _, _, 0, _ => .nil
  | _, _, _ + 1, .nil => .nil
  | _, _, n + 1, .cons h1 h => .cons h1 (RpAll.take n h)
theorem RpAll.drop : ∀ {vs : List V} {ds : List Dt} (n : Nat), RpAll K H ok vs ds → RpAll K H ok (vs.drop n) (ds.drop n)
  | _, _, 0, h => h
  | _, _, _ + 1, .nil => .nil
  | _, _, n + 1, .cons _ h => RpAll.drop n h
theorem RpAll.rep {vs : List V} {ds : List Dt} (h : RpAll K H ok vs ds) : ∀ k : Nat, RpAll K H ok (List.replicate k vs).flatten (List.replicate k ds).flatten
  | 0 => .nil
  | k + 1 => by
    rw [List.replicate_succ, List.replicate_succ, List.flatten_cons, List.flatten_cons]
    exact h.app (RpAll.rep h k)
theorem Rp.ty {v : V} {d : Dt} (h : Rp K H ok v d) : TyX K H v (.type (tyOf d)) := by
  cases h with
  | int i _ => exact .base (.int i)
  | bl b => exact .base (.bl b)
  | non => exact .base .non
  | str x => exact .base (.str x)
  | lst h _ => exact .base (.lst h)
  | dct h _ => exact .base (.dK h)
  | tup h _ => exact h.ty
def isTup : Dt → Bool
  | .tup _ => true
  | _ => false
def isNum : Dt → Bool
  | .int _ => true
  | _ => false
theorem Rp.kitTup {v : V} {d : Dt} (h : Rp K H ok v d) : PySem.W.kitOne K (.type (tyOf d)) (.type "tuple") = some (isTup d) := by
  cases h
  · exact (kit_ty (a := "int") (b := "tuple") (r := false) (by decide +kernel))
  · exact (kit_ty (a := "bool") (b := "tuple") (r := false) (by decide +kernel))
  · exact (kit_ty (a := "NoneType") (b := "tuple") (r := false) (by decide +kernel))
  · exact (kit_ty (a := "str") (b := "tuple") (r := false) (by decide +kernel))
  · exact (kit_ty (a := "list") (b := "tuple") (r := false) (by decide +kernel))
  · exact (kit_ty (a := "dict") (b := "tuple") (r := false) (by decide +kernel))
  · exact (kit_ty (a := "tuple") (b := "tuple") (r := true) (by decide +kernel))
theorem Rp.kitInt {v : V} {d : Dt} (h : Rp K H ok v d) : ∃ b1 b2, PySem.W.kitOne K (.type (tyOf d)) (.type "int") = some b1 ∧ PySem.W.kitOne K (.type (tyOf d)) (.type "bool") = some b2 ∧ (b1 && !b2) = isNum d := by
  cases h
  · exact ⟨true, false, (kit_ty (a := "int") (b := "int") (by decide +kernel)), (kit_ty (a := "int") (b := "bool") (by decide +kernel)), rfl⟩
  · exact ⟨true, true, (kit_ty (a := "bool") (b := "int") (by decide +kernel)), (kit_ty (a := "bool") (b := "bool") (by decide +kernel)), rfl⟩
  · exact ⟨false, false, (kit_ty (a := "NoneType") (b := "int") (by decide +kernel)), (kit_ty (a := "NoneType") (b := "bool") (by decide +kernel)), rfl⟩
  · exact ⟨false, false, (kit_ty (a := "str") (b := "int") (by decide +kernel)), (kit_ty (a := "str") (b := "bool") (by decide +kernel)), rfl⟩
  · exact ⟨false, false, (kit_ty (a := "list") (b := "int") (by decide +kernel)), (kit_ty (a := "list") (b := "bool") (by decide +kernel)), rfl⟩
  · exact ⟨false, false, (kit_ty (a := "dict") (b := "int") (by decide +kernel)), (kit_ty (a := "dict") (b := "bool") (by decide +kernel)), rfl⟩
  · exact ⟨false, false, (kit_ty (a := "tuple") (b := "int") (by decide +kernel)), (kit_ty (a := "tuple") (b := "bool") (by decide +kernel)), rfl⟩
theorem Rp.tuple {v : V} {ds : List Dt} (h : Rp K H ok v (.tup ds)) : ∃ a xs, v = .ref a ∧ SqT K H a xs ∧ RpAll K H ok xs ds := by
  cases h with
  | tup h hx => exact ⟨_, _, rfl, h, hx⟩
/-! ### what is wrong of things -/
def badLoop : Dt → Bool
  | .tup ds => !(decide (1 ≤ ds.length) && decide (ds.length ≤ 64))
  | _ => true
def badNum (d : Dt) : Bool := !isNum d
def firstBad : Dt → Option Nat
  | .tup xs => xs.findIdx? badNum
  | _ => none
def faultOf : Dt → Option (List Nat)
  | .tup ds => if 6 < ds.length then some [] else match ds.findIdx? badLoop with
    | some k => some [k]
    | none => match ds.findIdx? (fun d => (firstBad d).isSome) with
      | some k => some [k, ((ds[k]?).bind firstBad).getD 0]
      | none => none
  | _ => some []
theorem fi_some {p : Dt → Bool} : ∀ {xs : List Dt} {i : Nat} {x : Dt}, xs[i]? = some x → p x = true → (∀ (j : Nat) (y : Dt), j < i → xs[j]? = some y → p y = false) → xs.findIdx? p = some i
  | [], i, x, h, _, _ => by simp at h
  | a :: r, 0, x, h, hp, _ => by
    simp at h
    subst h
    simp [List.findIdx?_cons, hp]
  | a :: r, i + 1, x, h, hp, hb => by
    have h0 := hb 0 a (Nat.succ_pos i) rfl
    have ih := fi_some (p := p) (xs := r) (i := i) (x := x) h hp fun j y hj hy => hb (j + 1) y (Nat.succ_lt_succ hj) hy
    simp [List.findIdx?_cons, h0, ih]
theorem fi_none {p : Dt → Bool} : ∀ {xs : List Dt}, (∀ (j : Nat) (y : Dt), xs[j]? = some y → p y = false) → xs.findIdx? p = none
  | [], _ => rfl
  | a :: r, hb => by
    have h0 := hb 0 a rfl
    have ih := fi_none (p := p) (xs := r) fun j y hy => hb (j + 1) y hy
    simp [List.findIdx?_cons, h0, ih]
abbrev placeD (p : List Nat) : PyData := dInts (p.map fun n : Nat => (n : Int))
/-! ### things cut and put together -/
def cutT (ds : List Dt) (lo hi : Option Int) : List Dt := (ds.drop (HT.sIx ds.length 0 lo)).take (HT.sIx ds.length ds.length hi - HT.sIx ds.length 0 lo)
theorem rd_cutR {v : V} {ds : List Dt} {lo hi : Option Int} {Q : VK} (h : Rp K H ok v (.tup ds)) (k : ∀ w H', Same H H' → Rp K H' ok w (.tup (cutT ds lo hi)) → Q w H') : rSlA K v lo hi H Q := by
  obtain ⟨a, xs, rfl, hT, hX⟩ := h.tuple
  have hl := hX.len
  have hc : RpAll K H ok (cutV xs lo hi) (cutT ds lo hi) := by
    unfold cutV cutT
    rw [← hl]
    exact (hX.drop _).take _
  refine ⟨a, xs, rfl, hT, fun w => ?_, fun _ p hp => ?_⟩
  · refine k _ H (Same.refl H) (.tup hT ?_)
    have e : cutV xs lo hi = xs := by
      unfold cutV
      rw [w.1, w.2, List.drop_zero, Nat.sub_zero, List.take_length]
    rw [e] at hc
    exact hc
  · exact k _ _ (same_upd hp _) (.tup (SqT.of upd_same) (hc.same (same_upd hp _)))
theorem rd_catR {v u : V} {ds es : List Dt} {Q : VK} (h1 : Rp K H ok v (.tup ds)) (h2 : Rp K H ok u (.tup es)) (hz : ds.length + es.length ≤ sizeLine)
    (k : ∀ w H', Same H H' → Rp K H' ok w (.tup (ds ++ es)) → Q w H') : rCatA K v u H Q := by
  obtain ⟨a, xs, rfl, hT, hX⟩ := h1.tuple
  obtain ⟨b, ys, rfl, hU, hY⟩ := h2.tuple
  have l1 := hX.len
  have l2 := hY.len
  refine ⟨a, b, xs, ys, rfl, rfl, hT, hU, by rw [l1, l2]; exact hz, fun e => ?_, fun _ e => ?_, fun _ _ p hp => ?_⟩
  · subst e
    cases hX
    exact k _ H (Same.refl H) (.tup hU hY)
  · subst e
    cases hY
    rw [List.append_nil] at k
    exact k _ H (Same.refl H) (.tup hT hX)
  · exact k _ _ (same_upd hp _) (.tup (SqT.of upd_same) ((hX.app hY).same (same_upd hp _)))
theorem rd_repR {v : V} {ds : List Dt} {n : Int} {Q : VK} (h : Rp K H ok v (.tup ds)) (hz : ds.length ≤ 1000) (h0 : -1000 ≤ n) (h1 : n ≤ 1000)
    (k : ∀ w H', Same H H' → Rp K H' ok w (.tup (List.replicate n.toNat ds).flatten) → Q w H') : rRepA K v (.int n) H Q := by
  obtain ⟨a, xs, rfl, hT, hX⟩ := h.tuple
  have hl := hX.len
  refine ⟨a, n, xs, rfl, rfl, hT, h0, h1, by omega, fun w => ?_, fun _ p hp => ?_⟩
  · refine k _ H (Same.refl H) (.tup hT ?_)
    rcases w with w | w
    · subst w
      cases hX
      have e : (List.replicate n.toNat ([] : List Dt)).flatten = [] := by simp
      rw [e]
      exact .nil
    · subst w
      have e : (List.replicate (1 : Int).toNat ds).flatten = ds := by
        show (List.replicate 1 ds).flatten = ds
        simp
      rw [e]
      exact hX
  · exact k _ _ (same_upd hp _) (.tup (SqT.of upd_same) ((hX.rep _).same (same_upd hp _)))
theorem cutT_to (xs : List Dt) {i : Int} (h : 0 ≤ i) : cutT xs none (some i) = xs.take i.toNat := by
  have e : i = ((i.toNat : Nat) : Int) := by omega
  rw [e]
  unfold cutT
  rw [HT.sIx_none, HT.sIx_nat, List.drop_zero, Nat.sub_zero, Int.toNat_natCast]
  by_cases h : i.toNat ≤ xs.length
  · rw [Nat.min_eq_left h]
  · rw [Nat.min_eq_right (by omega), List.take_length, List.take_of_length_le (by omega)]
theorem cutT_from (xs : List Dt) {i : Int} (h : 0 ≤ i) (h2 : i ≤ (xs.length : Int)) : cutT xs (some i) none = xs.drop i.toNat := by
  have e : i = ((i.toNat : Nat) : Int) := by omega
  rw [e]
  unfold cutT
  rw [HT.sIx_none, HT.sIx_nat, Int.toNat_natCast, Nat.min_eq_left (by omega), List.take_of_length_le (by rw [List.length_drop]; omega)]
/-- a new tuple of things -/
theorem Rp.new {a : Addr} {xs : List V} {ds : List Dt} (hp : H a = none) (h : RpAll K H ok xs ds) : Rp K (upd H a (.tup xs)) ok (.ref a) (.tup ds) := .tup (SqT.of upd_same) (h.same (same_upd hp _))
/-- loops are things -/
def loopsT (ls : List (List Int)) : List Dt := ls.map fun l => .tup (l.map Dt.int)
theorem ints_rp : ∀ {ns : List Int}, (∀ z ∈ ns, z.natAbs < 10 ^ 40) → RpAll K H ok (ns.map V.int) (ns.map Dt.int)
  | [], _ => .nil
  | n :: r, h => .cons (.int n (h n List.mem_cons_self)) (ints_rp fun z hz => h z (List.mem_cons_of_mem _ hz))
theorem loops_rp : ∀ {ls : List (List Int)} {xs : List V}, DpAll K H xs (ls.map dInts) → (∀ l ∈ ls, ∀ z ∈ l, z.natAbs < 10 ^ 40) → RpAll K H ok xs (loopsT ls)
  | [], _, h, _ => by
    cases h
    exact .nil
  | l :: r, _, h, hz => by
    cases h with
    | cons h1 h2 =>
      obtain ⟨a, rfl, hT⟩ := h1.ints
      exact .cons (.tup hT (ints_rp (hz l List.mem_cons_self))) (loops_rp h2 fun l hl => hz l (List.mem_cons_of_mem _ hl))
/-- things that are only ints are ints -/
theorem nums_of : ∀ {ds : List Dt} {xs : List V}, RpAll K H ok xs ds → ds.findIdx? badNum = none → ∃ ns : List Int, xs = ns.map V.int ∧ (∀ z ∈ ns, z.natAbs < 10 ^ 40) ∧ ns.length = ds.length
  | [], _, h, _ => by
    cases h
    exact ⟨[], rfl, (by intro z hz; cases hz), rfl⟩
  | d :: r, _, h, hf => by
    cases h with
    | cons h1 h2 =>
      rw [List.findIdx?_cons] at hf
      cases eb : badNum d with
      | true =>
        rw [eb] at hf
        simp at hf
      | false =>
        rw [eb] at hf
        have hf' : r.findIdx? badNum = none := by
          cases q : r.findIdx? badNum with
          | none => rfl
          | some j =>
            rw [q] at hf
            simp at hf
        obtain ⟨ns, rfl, hz, hl⟩ := nums_of h2 hf'
        cases h1 with
        | int i hi =>
          refine ⟨i :: ns, rfl, ?_, by simp [hl]⟩
          intro z hz'
          rcases List.mem_cons.mp hz' with q | q
          · rw [q]
            exact hi
          · exact hz z q
        | bl b => cases eb
        | non => cases eb
        | str x => cases eb
        | lst _ _ => cases eb
        | dct _ _ => cases eb
        | tup _ _ => cases eb
/-- an if whose test is known in part -/
theorem if_cut {c : TT} {t u w : TS} {D : Ends} {σ : L2.St} {H : Hp} (R : Bool → Hp → Prop) (h : ∀ Q' : Bool → Hp → Prop, (∀ b H', R b H' → Q' b H') → c σ H Q')
    (k1 : ∀ H', R true H' → t { D with nx := w D } σ H') (k2 : ∀ H', R false H' → u { D with nx := w D } σ H') : tSeq (tIfS c t u) w D σ H := by
  refine h _ fun b H' r => ?_
  cases b with
  | true => exact iteT (k1 H' r)
  | false => exact iteF (k2 H' r)
/-- places that are no part of the draws' state -/
abbrev off (H : Hp) (m : Addr) : Addr → Prop := fun a => a ≠ m ∧ ¬ Lf H m a
theorem Rp.ef {K : PySem.W.Frag} {H H' : Hp} {m : Addr} {n : Nat} (M : MS H m n) (e : Ef m H H') {v : V} {d : Dt} (h : Rp K H (off H m) v d) : Rp K H' (off H' m) v d := by
  refine Rp.keep (e.tk M) (fun a o q z => e.keep a o z q.1 q.2) (fun a o z q => ⟨q.1, fun w => ?_⟩) d v h
  rcases e.new a w with r | r
  · exact q.2 r
  · rw [z] at r
    cases r
theorem noLf_same {B H : Hp} {m a : Addr} {n : Nat} (M : MS B m n) (s : Same B H) (q : ¬ Lf B m a) : ¬ Lf H m a := fun w => q (by
  obtain ⟨c, l, M0⟩ := M
  obtain ⟨kvs, k, h1, h2⟩ := w
  rw [s _ _ M0.dk] at h1
  cases h1
  exact ⟨_, k, M0.dk, h2⟩)
/-- from a base, behind steps that only lay new things, and draws -/
theorem RpAll.out {K : PySem.W.Frag} {B H H' : Hp} {m : Addr} {n n' : Nat} (MB : MS B m n) (s : Same B H) (M : MS H m n') (e : Ef m H H') {vs : List V} {ds : List Dt} (h : RpAll K H (off B m) vs ds) : RpAll K H' (off H' m) vs ds := by
  have noL : ∀ a, ¬ Lf B m a → ¬ Lf H m a := fun a q w => q (by
    obtain ⟨c, l, M0⟩ := MB
    obtain ⟨kvs, k, h1, h2⟩ := w
    rw [s _ _ M0.dk] at h1
    cases h1
    exact ⟨_, k, M0.dk, h2⟩)
  refine RpAll.keep (e.tk M) (fun a o q z => e.keep a o z q.1 (noL a q.2)) (fun a o z q => ⟨q.1, fun w => ?_⟩) ds vs h
  rcases e.new a w with r | r
  · exact noL a q.2 r
  · rw [z] at r
    cases r
theorem off_new {B H : Hp} {m p : Addr} {n : Nat} (M : MS B m n) (s : Same B H) (hp : H p = none) : off B m p := by
  have b := s.free hp
  refine ⟨fun z => ?_, M.notLf b⟩
  obtain ⟨c, l, M0⟩ := M
  rw [z, M0.dk] at b
  cases b
theorem pickR {K : PySem.W.Frag} {H : Hp} {ok : Addr → Prop} {vs : List V} {ds : List Dt} {r : Int} (h : RpAll K H ok vs ds) (h0 : 0 ≤ r) (h1 : r < (ds.length : Int)) :
    ∃ v d, atI vs r = some v ∧ d ∈ ds ∧ Rp K H ok v d ∧ vs[r.toNat]? = some v ∧ ds[r.toNat]? = some d := by
  have hl := h.len
  have hr : r.toNat < vs.length := by omega
  obtain ⟨d, hd, hR⟩ := h.get (List.getElem?_eq_getElem hr)
  exact ⟨_, d, at_of (j := r.toNat) (by omega) (List.getElem?_eq_getElem hr), List.mem_of_getElem? hd, hR, List.getElem?_eq_getElem hr, hd⟩
theorem Rp.ef' {K : PySem.W.Frag} {B H : Hp} {m : Addr} {n : Nat} {v : V} {d : Dt} (h : Rp K H (off B m) v d) (M : MS B m n) (s : Same B H) : Rp K H (off H m) v d :=
  Rp.keep TK.refl (fun _ _ _ q => q) (fun a o _ q => ⟨q.1, noLf_same M s q.2⟩) d v h
theorem Rp.keep2 {K : PySem.W.Frag} {B H H' : Hp} {m : Addr} {n : Nat} {v : V} {d : Dt} (h : Rp K H (off B m) v d) (M : MS B m n) (s : Same B H') (s2 : Same H H' := by assumption) : Rp K H' (off H' m) v d :=
  (h.same s2).ef' M s
end My

/-! {f for x in xs for y in ys}, whole numbers; len of such a set. -/
namespace L2
open PySem PySem.Spec PyProof.Rows
/-- a set comprehension of two clauses without tests -/
abbrev twoFor (f a0 b0 a1 b1 : Expr) (sc : Scope) (ps : Pos) : Expr := .SetComp f [⟨a0, b0, [], 0⟩, ⟨a1, b1, [], 0⟩] sc ps
def turnBy (p : Pos) (tgt : Expr) (en : Env) (src : Value) (rest : Sem Fin) : Sem Fin := do
  standAt p
  match ← pyNext src with
  | none => pure (.done .next)
  | some v => do
    letOwnedTupleGo tgt src v
    assign tgt en v
    rest
section
variable {P : Program} {w : World} {A : Around} {R : Result → Shared → Prop} {f a0 b0 a1 b1 : Expr} {sc : Scope} {ps : Pos} {src D : Value} {en : Env}
def inner (f a0 b0 a1 b1 : Expr) (sc : Scope) (ps : Pos) (src D : Value) (en : Env) : Sem Fin := do
  let x ← eval b1 en
  standAt b1.pos
  let x ← foldedSetIterable b1 en x
  let _ ← runOwn (.compStart (twoFor f a0 b0 a1 b1 sc ps) 1 (← holding [x] (pyIter x)) D en) en
  again (.compLoop (twoFor f a0 b0 a1 b1 sc ps) 0 src D en)
def added (f a0 b0 a1 b1 : Expr) (sc : Scope) (ps : Pos) (src D : Value) (en : Env) : Sem Fin := do
  (do let v ← eval f en; standAt f.pos; let _ ← call (.builtin "set.add") [D, v])
  again (.compLoop (twoFor f a0 b0 a1 b1 sc ps) 1 src D en)
theorem turn0_eq : compTurn (twoFor f a0 b0 a1 b1 sc ps) 0 src D en = turnBy b0.pos a0 en src (inner f a0 b0 a1 b1 sc ps src D en) := by rfl
theorem turn1_eq : compTurn (twoFor f a0 b0 a1 b1 sc ps) 1 src D en = turnBy b1.pos a1 en src (added f a0 b0 a1 b1 sc ps src D en) := by rfl
abbrev Hurt (P : Program) (w : World) (A : Around) (R : Result → Shared → Prop) (en : Env) : Value → Shared → Prop := notedBy (model P w) A en fun x s' => R (.error x) s'
abbrev Goes2 (R : Result → Shared → Prop) (c : Code) (J : Nat → Shared → Prop) (n : Nat) : Fin → Shared → Prop := fun fin s' => match fin with
  | .done z => R (.ok z) s'
  | .again c' => c' = c ∧ ∃ m, m < n ∧ J m s'
theorem loopBy {k : Nat} {p : Pos} {tgt : Expr} {rest : Sem Fin} {s : Shared} (e : compTurn (twoFor f a0 b0 a1 b1 sc ps) k src D en = turnBy p tgt en src rest) (J : Nat → Shared → Prop)
    (turn : ∀ n s, J n s → wpAny (model P w) A (pyNext src) (fun r s1 => match r with
      | none => R (.ok .next) s1
      | some v => wpAny (model P w) A (letOwnedTupleGo tgt src v) (fun _ s2 => wpAny (model P w) A (assign tgt en v) (fun _ s3 =>
          wpAny (model P w) A rest (Goes2 R (.compLoop (twoFor f a0 b0 a1 b1 sc ps) k src D en) J n) (Hurt P w A R en) s3) (Hurt P w A R en) s2) (Hurt P w A R en) s1) (Hurt P w A R en) s)
    (n : Nat) (h : J n s) : codeAny (model P w) A (.compLoop (twoFor f a0 b0 a1 b1 sc ps) k src D en) R s := by
  refine codeAny_loop rfl J (fun n s hJ => ?_) n h
  show wpAny _ A ((compTurn _ k src D en).onRaise _) _ _ s
  refine wpAny_noted ?_
  rw [e]
  unfold turnBy
  refine wpAny_bind (wpAny_standAt (wpAny_bind (wpAny_mono (turn n s hJ) (fun r s1 h1 => ?_) fun _ _ z => z)))
  cases r with
  | none => exact wpAny_pure h1
  | some v => exact wpAny_bind (wpAny_mono h1 (fun _ s2 h2 => wpAny_bind (wpAny_mono h2 (fun _ s3 h3 => h3) fun _ _ z => z)) fun _ _ z => z)
theorem inner_ok {n : Nat} {J : Nat → Shared → Prop} {s : Shared} (hs : ∀ x, foldedSetIterable b1 en x = pure x)
    (h : wpAny (model P w) A (eval b1 en) (fun x s1 => wpAny (model P w) A (pyIter x) (fun i1 s2 =>
      codeAny (model P w) A (.compStart (twoFor f a0 b0 a1 b1 sc ps) 1 i1 D en) (fun r s' => match r with
        | .ok _ => ∃ m, m < n ∧ J m s'
        | .error _ => False) s2) (Hurt P w A R en) s1) (Hurt P w A R en) s) :
    wpAny (model P w) A (inner f a0 b0 a1 b1 sc ps src D en) (Goes2 R (.compLoop (twoFor f a0 b0 a1 b1 sc ps) 0 src D en) J n) (Hurt P w A R en) s := by
  unfold inner
  refine wpAny_bind (wpAny_mono h (fun x s1 h1 => ?_) fun _ _ z => z)
  refine wpAny_bind (wpAny_standAt (wpAny_bind (wpAny_of_eq (hs x) ?_)))
  refine wpAny_bind (wpAny_holding (wpAny_mono h1 (fun i1 s2 h2 => ?_) fun _ _ z => z))
  refine wpAny_bind (wpAny_runOwn ?_)
  rw [Around.mark_none]
  refine codeAny_mono h2 fun r s' hr => ?_
  cases r with
  | ok z =>
    first
      | exact wpAny_pure ⟨rfl, hr⟩
      | exact wpAny_bind (wpAny_pure (wpAny_pure ⟨rfl, hr⟩))
  | error z => exact hr.elim
theorem added_ok {n : Nat} {J : Nat → Shared → Prop} {s : Shared}
    (h : wpAny (model P w) A (eval f en) (fun x s1 => wpAny (model P w) A (call (.builtin "set.add") [D, x]) (fun _ s2 => ∃ m, m < n ∧ J m s2) (Hurt P w A R en) s1) (Hurt P w A R en) s) :
    wpAny (model P w) A (added f a0 b0 a1 b1 sc ps src D en) (Goes2 R (.compLoop (twoFor f a0 b0 a1 b1 sc ps) 1 src D en) J n) (Hurt P w A R en) s := by
  unfold added
  refine wpAny_bind (wpAny_bind (wpAny_mono h (fun x s1 h1 => ?_) fun _ _ z => z))
  refine wpAny_bind (wpAny_standAt (wpAny_bind (wpAny_mono h1 (fun _ s2 h2 => ?_) fun _ _ z => z)))
  exact wpAny_pure (wpAny_pure ⟨rfl, h2⟩)
/-- where clause k starts -/
theorem started {k : Nat} {b : Expr} {s : Shared} (hk : (clausesOf (twoFor f a0 b0 a1 b1 sc ps))[k]? = some ⟨a0, b, [], 0⟩ ∨ (clausesOf (twoFor f a0 b0 a1 b1 sc ps))[k]? = some ⟨a1, b, [], 0⟩)
    (h0 : codeAny (model P w) A (.compLoop (twoFor f a0 b0 a1 b1 sc ps) k src D en) R s)
    (h : wpAny (model P w) A (pyIter src) (fun i s' => codeAny (model P w) A (.compLoop (twoFor f a0 b0 a1 b1 sc ps) k i D en) R s') (Hurt P w A R en) s) :
    codeAny (model P w) A (.compStart (twoFor f a0 b0 a1 b1 sc ps) k src D en) R s := by
  refine codeAny_of_tree ?_
  show wpAny _ _ ((compStart _ k src D en).onRaise _) _ _ s
  refine wpAny_notedAt ?_
  unfold compStart
  have hq : (((clausesOf (twoFor f a0 b0 a1 b1 sc ps))[k]?).elim false (·.is_async != 0)) = false := by
    rcases hk with z | z <;> rw [z] <;> rfl
  rw [hq]
  show wpAny _ _ (ask >>= _) _ _ s
  refine wpAny_bind (wpAny_askSetting (wpAny_ite ?_))
  split
  · first
      | exact wpAny_bind (wpAny_pure (wpAny_pure (And.intro rfl h0)))
      | exact wpAny_pure (And.intro rfl h0)
  · refine wpAny_bind (wpAny_rule ?_)
    rcases hk with z | z <;> rw [z]
    · exact wpAny_bind (wpAny_standAt (wpAny_bind (wpAny_mono h (fun i s' h' => wpAny_pure (And.intro rfl h')) fun _ _ x => x)))
    · exact wpAny_bind (wpAny_standAt (wpAny_bind (wpAny_mono h (fun i s' h' => wpAny_pure (And.intro rfl h')) fun _ _ x => x)))
end
end L2

/-! {f for x in xs for y in ys}: the rule. -/
namespace L2
open PySem PySem.Spec PyProof.Rows
def putI (w : World) (H : Hp) (D : Addr) (S : Int → Bool) (n : Nat) (c : Int) : Hp := upd H D (SetO w D (fun j => S j || decide (j = c)) (if S c = true then n else n + 1))
abbrev noneI (w : World) (H : Hp) (D : Addr) : Hp := upd H D (SetO w D (fun _ => false) 0)
/-- a walk: Wk is what holds ahead of each turn; stop, and step, which leads to the next -/
def Wlk (J : It) (St : Hp → Prop) (Go : (Hp → Prop) → V → Hp → Prop) (H0 : Hp) : Prop := ∃ Wk : Nat → Nat → Hp → Prop, (∃ m, Wk 0 m H0) ∧ ∀ i m H, Wk i m H →
  (J.stop i H ∧ St H) ∨ (J.go i H ∧ ∃ Nx : Hp → Prop, (∀ H', Nx H' → ∃ m', m' < m ∧ Wk (i + 1) m' H') ∧ ∀ x H', J.yld i H x H' → Go Nx x H')
def tSc2 (w : World) (wa : TI) (ga : TG) (wb : TI) (gb : TG) (tf : TE) (vs us : List Nat) : TE := fun σ H Q => wa σ H fun J H1 => ∀ D, H1 D = none →
  Wlk J (fun H => Q (.ref D) H) (fun Nx x H => ga x (wipe σ vs) H fun σ2 H2 => wipe σ2 vs = wipe σ vs ∧ wb σ2 H2 fun J1 H4 =>
    Wlk J1 Nx (fun Nx1 x1 H => gb x1 (wipe σ2 us) H fun σ3 H5 => wipe σ3 us = wipe σ2 us ∧ tf σ3 H5 fun y H7 =>
      ∃ (c : Int) (S : Int → Bool) (n : Nat), y = .int c ∧ H7 D = some (SetO w D S n) ∧ n + 1 < scanBound ∧ Nx1 (putI w H7 D S n c)) H4) (noneI w H1 D)
section
variable {X : Cx}
theorem addI_ok {pins : List (Addr × Obj)} {σ : St} {H : Hp} {s : Shared} {E : Value → Shared → Prop} {D : Addr} {S : Int → Bool} {n : Nat} {c : Int} {v : Value} {Q : Value → Shared → Prop} (I : Inv X pins σ H s) (hD : H D = some (SetO X.w D S n)) (hr : n + 1 < scanBound) (rv : RelV (.int c) v)
    (h : ∀ s', Inv X pins σ (putI X.w H D S n c) s' → Q .none s') : wpAny (model X.prog X.w) X.A (call (.builtin "set.add") [.ref D, v]) Q E s := by
  obtain ⟨tk, rfl⟩ := rv
  refine setR_add (setO_get I hD) hr fun g sb new => ?_
  have he : ∃ u, g.get? D = some u := let ⟨o, _, _, _, ho, _⟩ := new; ⟨o, ho⟩
  exact h _ (I.write (e := D) (t' := s.toks + 1) (by rw [hD]; trivial) (.inl rfl) (fun b u hb z => (sb.2 b hb).trans z) he (setO_new new))
variable {pins : List (Addr × Obj)} {s : Shared} {σ : St} {H : Hp} {Q : VK} {f ta sa tb sb : Expr} {sc : Scope} {own : List (Str × Nat)} {us : List Nat} {ps : Pos} {wa wb : TI} {ga gb : TG} {tf : TE}
/-- what is asked of a part within the block -/
abbrev InBlk (X : Cx) (sc : Scope) (p : Cx → Prop) : Prop := ∀ (s : Shared) (H : Hp) (C : Addr) (cl : List (Str × Addr)) (fp : List Addr), p (X.blk s H sc (compEnvC sc cl C X.env) fp)
theorem pe_sc2 (hc : X.calm = true) (hN : X.N.Nodup) (hi : PI X ta sa wa) (ok : BlkOk X.N X.env.scope sc own) (hv : ∀ i ∈ us, i ∈ own.map (·.2))
    (hga : InBlk X sc fun Y => PG Y ta ga) (hib : InBlk X sc fun Y => PI Y tb sb wb) (hgb : InBlk X sc fun Y => PG Y tb gb) (hf : InBlk X sc fun Y => PE Y f tf)
    (fa : ∀ x, foldedSetIterable sa X.env x = pure x := by intro _; rfl) (fb : ∀ en x, foldedSetIterable sb en x = pure x := by intro _ _; rfl) :
    PE X (twoFor f ta sa tb sb sc ps) (tSc2 X.w wa ga wb gb tf (own.map (·.2)) us) := by
  refine ⟨fun pins s σ H Q I h => ?_⟩
  rw [PpSet.eval_SetComp]
  have free : ∀ y ∈ sc.names, y.2 = .free → ∃ c, X.env.cells.lookup y.1 = some c := fun y hy e => (ok.free y hy e).elim (fun z => I.ok.has _ (.inl z)) (fun z => I.ok.has _ (.inr z))
  refine wpAny_comprehension_free (use := none) rfl fa (closure_ok free) ok.kind (fun y hy e => by rw [ok.uniq y hy, e]) ?_
  refine thn (hi.run pins s σ H _ I h) fun xv s1 hx => thn hx fun itv s2 h2 => ?_
  obtain ⟨it, fp, tn, J, H2, rfl, I2, T, st2, f2, q⟩ := h2
  refine PpSet.newSet_ok (newEnv_comp ?_)
  generalize hD : s2.heap.objs.size = D
  obtain ⟨Wk, ⟨m0, w0⟩, turn⟩ := q D (I2.hok.fresh (Nat.le_of_eq hD))
  -- the set is laid, then the block begins
  generalize es3 : ({ s2 with heap := s2.heap.push { cls := .type "set", dict := none, data := .set #[] 0 (.fresh 0 0 (!X.w.params.followText "set-order")) } } : Shared) = s3
  have old3 : ∀ b o, s2.heap.get? b = some o → s3.heap.get? b = some o := fun b o e => by rw [← es3]; exact Heap.get?_push_of_some _ e
  have I3 : Inv X pins σ (noneI X.w H2 D) s3 := by
    rw [← es3, ← hD]
    exact I2.laid (t' := s2.toks) (fun b o e => Heap.get?_push_of_some _ e) (Nat.le_refl _) (setO_new (setR_fresh X.w))
  have size3 : s3.heap.objs.size = s2.heap.objs.size + 1 := by rw [← es3]; exact Heap.size_push ..
  have f3 : ∀ b ∈ fp, FpOk X pins (noneI X.w H2 D) b ∧ b < s3.heap.objs.size := fun b hb => by
    obtain ⟨o, e, _⟩ := T.obj _ _ st2 b hb
    have lt := Heap.lt_size e
    refine ⟨⟨?_, (f2 b hb).2⟩, by rw [size3]; exact Nat.lt_succ_of_lt lt⟩
    show upd _ _ _ b = none
    rw [upd_ne (fun z => Nat.lt_irrefl _ (by rw [z, ← hD] at lt; exact lt))]
    exact (f2 b hb).1
  have I4 := block_start I3 ok hN f3
  generalize ecl : cellsFrom (s3.heap.objs.size + 1) sc.names (cloFrom X.env.cells sc.names []) = cl at I4
  have pga := hga s3 (noneI X.w H2 D) s3.heap.objs.size cl fp
  have pib := hib s3 (noneI X.w H2 D) s3.heap.objs.size cl fp
  have pgb := hgb s3 (noneI X.w H2 D) s3.heap.objs.size cl fp
  have pf := hf s3 (noneI X.w H2 D) s3.heap.objs.size cl fp
  generalize es4 : ({ s3 with heap := pushCells (s3.heap.push { cls := .type "dict", data := .dict #[] }) sc.names } : Shared) = s4 at I4
  have old4 : ∀ b o, s3.heap.get? b = some o → s4.heap.get? b = some o := fun b o e => by rw [← es4]; exact pushCells_keeps _ _ _ _ (Heap.get?_push_of_some _ e)
  have st4 : tn 0 s4.heap := T.keep _ _ _ st2 fun b _ o e => old4 b o (old3 b o e)
  have nfp : ∀ b ∈ fp, (noneI X.w H2 D) b = none := fun b hb => (f3 b hb).1.1
  show codeAny _ _ (.compStart (twoFor f ta sa tb sb sc ps) 0 (.ref it) (.ref D) (compEnvC sc cl s3.heap.objs.size X.env)) (compPost (model X.prog X.w) X.A X.xe none (EP X pins σ Q) (.ref D) s3.heap.objs.size) s4
  have cL : (compEnvC sc cl s3.heap.objs.size X.env).locals = s3.heap.objs.size := rfl
  generalize compEnvC sc cl s3.heap.objs.size X.env = ce at I4 pga pib pgb pf cL ⊢
  generalize noneI X.w H2 D = H3 at I3 I4 pga pib pgb pf w0 nfp f3
  generalize eY : X.blk s3 H3 sc ce fp = Y at I4 pga pib pgb pf
  have still : ∀ {σ' : St} {H' : Hp} {s' : Shared}, Inv Y [] σ' H' s' → (∀ b ∈ fp, H' b = none) → ∀ b ∈ fp, FpOk Y [] H' b := by
    subst eY
    exact fun {σ' H' s'} I' hn b hb => ⟨hn b hb, (I'.ok.exf b hb).1, I'.ok.exfs b hb, .inl hb, fun x c e => (I'.ok.exf b hb).2 x c e, fun p hp => absurd (show p ∈ ([] : List (Addr × Obj)) ++ [] from hp) (by simp)⟩
  have eP : Y.prog = X.prog := by rw [← eY]
  have eW : Y.w = X.w := by rw [← eY]
  have eK : Y.K = X.K := by rw [← eY]
  have eA : Y.A = X.A := by rw [← eY]
  have eE : Y.env = ce := by rw [← eY]
  have hcY : Y.calm = true := by rw [← eY]; exact hc
  have outer : codeAny (model X.prog X.w) X.A (.compLoop (twoFor f ta sa tb sb sc ps) 0 (.ref it) (.ref D) ce) (compPost (model X.prog X.w) X.A X.xe none (EP X pins σ Q) (.ref D) s3.heap.objs.size) s4 := by
    refine loopBy turn0_eq (fun n s' => ∃ i H', Inv Y [] (wipe σ (own.map (·.2))) H' s' ∧ tn i s'.heap ∧ (∀ b ∈ fp, H' b = none) ∧ Wk i n H') ?_ m0 ⟨0, H3, I4, st4, nfp, w0⟩
    rintro n s5 ⟨i, H5, I5, st5, n5, w5⟩
    rcases turn i n H5 w5 with ⟨stop, qq⟩ | ⟨go, Nx, hNx, step⟩
    · subst eY
      refine thnF (T.done (X.blk s3 H3 sc ce fp) rfl rfl rfl hc i [] s5 _ H5 (fun _ _ => False) I5 (still I5 n5) st5 stop) fun r s6 ⟨hr, I6⟩ => ?_
      subst hr
      have I7 : Inv X pins σ H5 s6 := I3.call' (ch := fp) I6.os I6.base I6.hok I6.bare fun b hb => ⟨(f3 b hb).1.2.2.2.1, (f3 b hb).1.2.1, (f3 b hb).1.2.2.2.2.1, (f3 b hb).1.2.2.2.2.2⟩
      have nC : H5 s3.heap.objs.size = none := by
        have z : H5 ce.locals = none := I6.free
        rwa [cL] at z
      obtain ⟨m, hn, _⟩ := I6.loc
      have hn : s6.heap.Ns ce.locals m := hn
      rw [cL] at hn
      obtain ⟨g0, g1, g2, g3, g4, g5⟩ := I3.fpOk (Nat.le_refl _) nC
      exact ⟨m, hn, fun h'' sb => ⟨.ref D, H5, I7.turned (t' := s6.toks) (fun b o hb e => (sb.2 b hb).trans e) g0 g1 g3 g4 g5, rfl, qq⟩⟩
    · subst eY
      refine thnF (T.item (X.blk s3 H3 sc ce fp) rfl rfl rfl hc i [] s5 _ H5 (fun _ _ => False) I5 (still I5 n5) st5 go) fun r s6 ⟨u, hr, h6⟩ => ?_
      subst hr
      refine thnF h6 fun _ s7 ⟨x, H7, I7, r7, y7, st7, n7⟩ => ?_
      have J7 := I7.pinned (still I7 n7) (T.obj _ _ st7)
      refine thnF (pga.run _ s7 _ H7 x u _ J7 r7 (step x H7 y7)) fun _ s8 ⟨σ8, H8, I8, hw8, q8⟩ => ?_
      have len8 : (wipe σ (own.map (·.2))).length = σ8.length := by rw [← hw8, wipe_length]
      have sub8 : ∀ (j : Nat) v, (wipe σ (own.map (·.2)))[j]? = some (some v) → (wipe σ8 us)[j]? = some (some v) := fun j v e => by
        rw [← hw8] at e
        have z := wipe_some e
        rw [wipe_out fun m => z.2 (hv j m)]
        exact z.1
      -- the turn's end
      have back : ∀ {s' : Shared} {H' : Hp}, Inv (X.blk s3 H3 sc ce fp) ([] ++ pinsAt fp s7.heap) (wipe σ8 us) H' s' → Nx H' →
          ∃ m, m < n ∧ ∃ i H', Inv (X.blk s3 H3 sc ce fp) [] (wipe σ (own.map (·.2))) H' s' ∧ tn i s'.heap ∧ (∀ b ∈ fp, H' b = none) ∧ Wk i m H' := fun {s' H'} I' nx => by
        obtain ⟨m', hm, w'⟩ := hNx H' nx
        have kept : ∀ b ∈ fp, ∀ o, s7.heap.get? b = some o → s'.heap.get? b = some o ∧ H' b = none := fun b hb o e => by
          have z := I'.pin (b, o) (List.mem_append_right _ (List.mem_append_right _ (mem_pinsAt hb e)))
          exact ⟨z.1, z.2.1⟩
        refine ⟨m', hm, i + 1, H', (I'.unpinned (pins := [])).weak (len8.trans (wipe_length σ8 us).symm) sub8, T.keep _ _ _ st7 fun b hb o e => (kept b hb o e).1, fun b hb => ?_, w'⟩
        obtain ⟨o, e, _⟩ := T.obj _ _ st7 b hb
        exact (kept b hb o e).2
      refine inner_ok (fb ce) ?_
      refine thnF (pib.run _ s8 σ8 H8 _ I8 q8) fun xv s10 hx => thnF hx fun itv s11 h11 => ?_
      obtain ⟨ib, fq, tm, Jb, H11, rfl, I11, T1, st11, f11, W1, ⟨m1, w1⟩, turn1⟩ := h11
      have still1 : ∀ {H' : Hp}, (∀ b ∈ fq, H' b = none) → ∀ b ∈ fq, FpOk (X.blk s3 H3 sc ce fp) ([] ++ pinsAt fp s7.heap) H' b := fun z b hb => ⟨z b hb, (f11 b hb).2⟩
      have within : codeAny (model X.prog X.w) X.A (.compLoop (twoFor f ta sa tb sb sc ps) 1 (.ref ib) (.ref D) ce) (fun r s' => match r with
          | .ok _ => ∃ m, m < n ∧ ∃ i H', Inv (X.blk s3 H3 sc ce fp) [] (wipe σ (own.map (·.2))) H' s' ∧ tn i s'.heap ∧ (∀ b ∈ fp, H' b = none) ∧ Wk i m H'
          | .error _ => False) s11 := by
        refine loopBy turn1_eq (fun k s' => ∃ j H', Inv (X.blk s3 H3 sc ce fp) ([] ++ pinsAt fp s7.heap) (wipe σ8 us) H' s' ∧ tm j s'.heap ∧ (∀ b ∈ fq, H' b = none) ∧ W1 j k H') ?_ m1
          ⟨0, H11, I11.weak (wipe_length _ _) (fun j v e => (wipe_some e).1), st11, fun b hb => (f11 b hb).1, w1⟩
        rintro k s12 ⟨j, H12, I12, st12, n12, w12⟩
        rcases turn1 j k H12 w12 with ⟨stop1, nx1⟩ | ⟨go1, Nx1, hNx1, step1⟩
        · refine thnF (T1.done (X.blk s3 H3 sc ce fp) rfl rfl rfl hc j _ s12 _ H12 (fun _ _ => False) I12 (still1 n12) st12 stop1) fun r s13 ⟨hr, I13⟩ => ?_
          subst hr
          exact back I13 nx1
        · refine thnF (T1.item (X.blk s3 H3 sc ce fp) rfl rfl rfl hc j _ s12 _ H12 (fun _ _ => False) I12 (still1 n12) st12 go1) fun r s13 ⟨u1, hr, h13⟩ => ?_
          subst hr
          refine thnF h13 fun _ s14 ⟨x1, H14, I14, r14, y14, st14, n14⟩ => ?_
          have J14 := I14.pinned (still1 n14) (T1.obj _ _ st14)
          refine thnF (pgb.run _ s14 _ H14 x1 u1 _ J14 r14 (step1 x1 H14 y14)) fun _ s15 ⟨σ15, H15, I15, hw15, q15⟩ => ?_
          refine added_ok (thnF (pf.run _ s15 σ15 H15 _ I15 q15) fun z s17 ⟨yv, H17, I17, r17, c, S, nn, ey, hD17, hz17, nx⟩ => ?_)
          subst ey
          refine addI_ok (X := X.blk s3 H3 sc ce fp) I17 hD17 hz17 r17 fun s18 I18 => ?_
          obtain ⟨m', hm, w'⟩ := hNx1 _ nx
          have kept : ∀ b ∈ fq, ∀ o, s14.heap.get? b = some o → s18.heap.get? b = some o ∧ (putI X.w H17 D S nn c) b = none := fun b hb o e => by
            have z := I18.pin (b, o) (List.mem_append_right _ (List.mem_append_right _ (mem_pinsAt hb e)))
            exact ⟨z.1, z.2.1⟩
          refine ⟨m', hm, j + 1, _, I18.unpinned.weak (by rw [← hw15, wipe_length]) (fun j v e => by rw [← hw15] at e; exact (wipe_some e).1), T1.keep _ _ _ st14 fun b hb o e => (kept b hb o e).1, fun b hb => ?_, w'⟩
          obtain ⟨o, e, _⟩ := T1.obj _ _ st14 b hb
          exact (kept b hb o e).2
      exact started (b := sb) (.inr rfl) within (T1.self X.A 0 _ _ _ st11 within)
  exact started (b := sa) (.inl rfl) outer (T.self X.A 0 _ _ _ st4 outer)
end
end L2

/-! Walks within a set comprehension; sets by the list of their members; len. -/
namespace L2
open PySem PySem.Spec PyProof.Rows
section
variable {K : PySem.W.Frag} {a : Addr} {xs : List V} {St : Hp → Prop} {Go : (Hp → Prop) → V → Hp → Prop} {H0 : Hp}
theorem wlk_tup (Pv : Nat → Hp → Prop) (h0 : Pv 0 H0) (hl : ∀ i H, i ≤ xs.length → Pv i H → SqT K H a xs) (hs : ∀ i x H, xs[i]? = some x → Pv i H → Go (Pv (i + 1)) x H) (hd : ∀ H, Pv xs.length H → St H) : Wlk (Itt K a) St Go H0 := by
  refine ⟨fun i m H => m = xs.length - i ∧ i ≤ xs.length ∧ Pv i H, ⟨_, rfl, Nat.zero_le _, h0⟩, ?_⟩
  rintro i m H ⟨rfl, hi, p⟩
  have q := hl i H hi p
  rcases Nat.lt_or_ge i xs.length with lt | ge
  · refine .inr ⟨⟨xs, xs[i], q, by simp [lt]⟩, Pv (i + 1), fun H' p' => ⟨_, by omega, rfl, lt, p'⟩, fun x H' y => ?_⟩
    obtain ⟨rfl, y⟩ := y
    exact hs i x _ (y xs q) p
  · obtain rfl : i = xs.length := Nat.le_antisymm hi ge
    exact .inl ⟨⟨xs, q, Nat.le_refl _⟩, hd H p⟩
theorem wlk_rng {lo : Int} {n : Nat} (Pv : Nat → Hp → Prop) (h0 : Pv 0 H0) (hs : ∀ i H, i < n → Pv i H → Go (Pv (i + 1)) (.int (lo + i)) H) (hd : ∀ H, Pv n H → St H) : Wlk (Itr lo n) St Go H0 := by
  refine ⟨fun i m H => m = n - i ∧ i ≤ n ∧ Pv i H, ⟨_, rfl, Nat.zero_le _, h0⟩, ?_⟩
  rintro i m H ⟨rfl, hi, p⟩
  rcases Nat.lt_or_ge i n with lt | ge
  · refine .inr ⟨lt, Pv (i + 1), fun H' p' => ⟨_, by omega, rfl, lt, p'⟩, fun x H' y => ?_⟩
    obtain ⟨rfl, rfl⟩ := y
    exact hs i _ lt p
  · obtain rfl : i = n := Nat.le_antisymm hi ge
    exact .inl ⟨Nat.le_refl _, hd H p⟩
end
/-! ### sets by the list of their members -/
def ins {α : Type} [DecidableEq α] (L : List α) (c : α) : List α := if c ∈ L then L else c :: L
def fset {α : Type} [DecidableEq α] (L : List α) : List α := L.foldl ins []
def memb (L : List Int) : Int → Bool := fun j => decide (j ∈ L)
abbrev SetL (w : World) (a : Addr) (L : List Int) : HO := SetO w a (memb L) L.length
theorem noneI_eq {w : World} {H : Hp} {D : Addr} : noneI w H D = upd H D (SetL w D []) := by
  have e : memb [] = fun _ => false := funext fun j => decide_eq_false (by simp)
  show _ = upd H D (SetO w D (memb []) 0)
  rw [e]
theorem putI_eq {w : World} {H : Hp} {D : Addr} {L : List Int} {c : Int} : putI w H D (memb L) L.length c = upd H D (SetL w D (ins L c)) := by
  have e : (fun j => memb L j || decide (j = c)) = memb (ins L c) := funext fun j => by
    show (decide (j ∈ L) || decide (j = c)) = decide (j ∈ ins L c)
    rw [← Bool.decide_or]
    refine decide_eq_decide.mpr ?_
    unfold ins
    by_cases h : c ∈ L
    · rw [if_pos h]
      exact ⟨fun z => z.elim id fun e => e ▸ h, .inl⟩
    · rw [if_neg h, List.mem_cons]
      exact Or.comm
  have n : (if memb L c = true then L.length else L.length + 1) = (ins L c).length := by
    unfold ins
    by_cases h : c ∈ L
    · rw [if_pos h, if_pos (show memb L c = true from decide_eq_true h)]
    · rw [if_neg h, if_neg (fun z : memb L c = true => h (of_decide_eq_true z))]
      rfl
  unfold putI
  rw [e, n]
theorem ins_le {α : Type} [DecidableEq α] {L : List α} {c : α} : (ins L c).length ≤ L.length + 1 := by
  unfold ins
  split
  · omega
  · exact Nat.le_refl _
def rLenSet (w : World) : List V → Hp → VK → Prop := fun xs H Q => ∃ (a : Addr) (S : Int → Bool) (n : Nat), xs = [.ref a] ∧ H a = some (SetO w a S n) ∧ Q (.int (n : Nat)) H
theorem k_lenSet {X : Cx} {w : World} (e : X.w = w := by rfl) : CallR X (.builtin "len") (rLenSet w) := by
  subst e
  intro pins s σ H xs us Q I r h
  obtain ⟨a, S, n, rfl, ha, q⟩ := h
  obtain ⟨u, rfl, rx⟩ := vals1 r
  obtain rfl : u = .ref a := rx
  obtain ⟨o, es, ep, t, ho, hex, hd, _, _, _, hb, hf, hn, _⟩ := setO_get I ha
  refine call_len_set ho hex hd hf (by unfold scanBound at hb; omega) ?_
  rw [hn]
  exact ⟨.int (n : Nat), H, I.tok _, ⟨_, rfl⟩, q⟩
end L2

/-! t[::-1], t a tuple. -/
namespace L2
open PySem PySem.Spec PyProof.Rows HT
section
variable {prog : Program} {w : World} {A : Around} {E : Value → Shared → Prop} {s : Shared}
theorem adjust_back (n : Nat) : Builtin.Slice.sliceAdjust none none (-1) (n : Int) = ((n : Int) - 1, -1) := by
  unfold Builtin.Slice.sliceAdjust
  rfl
theorem places_back (n : Nat) : Builtin.Slice.slicePlaces ((n : Int) - 1) (-1) (-1) = n := by
  unfold Builtin.Slice.slicePlaces
  have h1 : ¬ (-1 : Int) > 0 := by omega
  simp only [h1, if_false, Int.neg_neg, Int.ediv_one]
  split <;> omega
theorem applied_back {sl : Addr} {tk : Tok} {n : Nat} {Q : Int × Int × Nat → Shared → Prop} (hs : s.heap.IsSliceOf sl .none .none (.int (-1) tk)) (h : Q ((n : Int) - 1, -1, n) s) :
    wpAny (model prog w) A (Builtin.Slice.sliceApplied (.ref sl) (pure (n : Int))) Q E s := by
  obtain ⟨os, hos, hcs, hds⟩ := id hs
  unfold Builtin.Slice.sliceApplied Builtin.Slice.sliceFields
  refine wpAny_bind (wpAny_bind (wpAny_field hos hds (x := .none) rfl ?_))
  refine wpAny_bind (wpAny_field hos hds (x := .none) rfl ?_)
  refine wpAny_bind (wpAny_field hos hds (x := .int (-1) tk) rfl (wpAny_pure ?_))
  refine wpAny_bind (slicePart_ (.int (-1) tk) ?_)
  show wpAny _ _ (if ((-1 : Int) == 0) = true then _ else _) _ _ s
  rw [if_neg (by decide)]
  refine wpAny_bind (slicePart_ .none (wpAny_bind (slicePart_ .none ?_)))
  refine wpAny_bind (wpAny_pure ?_)
  show wpAny _ _ (match Builtin.Slice.sliceAdjust none none (-1) (n : Int) with | (lo, hi) => pure (lo, (-1 : Int), Builtin.Slice.slicePlaces lo hi (-1))) _ _ s
  rw [adjust_back]
  show wpAny _ _ (pure ((n : Int) - 1, (-1 : Int), Builtin.Slice.slicePlaces ((n : Int) - 1) (-1) (-1))) _ _ s
  rw [places_back]
  exact wpAny_pure h
theorem back_go {α : Type} (xs : Array α) : ∀ k, k ≤ xs.size → (List.range k).filterMap (fun (m : Nat) => xs[((xs.size : Int) - 1 + (m : Int) * -1).toNat]?) = xs.toList.reverse.take k
  | 0, _ => rfl
  | k + 1, h => by
    rw [List.range_succ, List.filterMap_append, back_go xs k (by omega), List.take_add_one]
    have e : ((xs.size : Int) - 1 + (k : Int) * -1).toNat = xs.size - 1 - k := by omega
    congr 1
    have l : k < xs.toList.reverse.length := by rw [List.length_reverse, Array.length_toList]; omega
    have g : xs.toList.reverse[k]? = xs[xs.size - 1 - k]? := by
      rw [List.getElem?_reverse (by rw [Array.length_toList]; omega), Array.getElem?_toList, Array.length_toList]
    rw [g]
    show (match xs[((xs.size : Int) - 1 + (k : Int) * -1).toNat]? with | none => [] | some b => [b]) = _
    rw [e]
    cases xs[xs.size - 1 - k]? <;> rfl
theorem back_all (xs : Array Value) : ((List.range xs.size).filterMap (fun (m : Nat) => xs[((xs.size : Int) - 1 + (m : Int) * -1).toNat]?)).toArray = xs.toList.reverse.toArray := by
  rw [back_go xs xs.size (Nat.le_refl _), List.take_of_length_le (by rw [List.length_reverse, Array.length_toList]; exact Nat.le_refl _)]
theorem getItem_back {t sl : Addr} {items : Array Value} {tk : Tok} {Q : Value → Shared → Prop} (ht : IsTup s.heap t items) (hs : s.heap.IsSliceOf sl .none .none (.int (-1) tk))
    (h : Q (.ref s.heap.objs.size) { s with heap := s.heap.push { cls := .type "tuple", data := .seq items.toList.reverse.toArray } }) (hsz : items.size ≤ sizeLine) : wpAny (model prog w) A (getItem (.ref t) (.ref sl)) Q E s := by
  have fits : sizeOk (.seq items.toList.reverse.toArray) := by
    show items.toList.reverse.toArray.size ≤ sizeLine
    rw [List.size_toArray, List.length_reverse, Array.length_toList]
    exact hsz
  obtain ⟨os, hos, hcs, hds⟩ := id hs
  have hTs : s.TypeIs (.ref sl) "slice" := ⟨os, hos, hcs⟩
  unfold getItem
  try with_reducible refine wpAny_holding ?_
  first
    | refine wpAny_bind (wpAny_pure ?_)
    | skip
  refine wpAny_bind (wpAny_sequenceKey ht.typeIs (by decide) ?_)
  have sg := PyProof.Rows.slot_tuple_getitem
  refine wpAny_bind (wpAny_callSpecial?_slot (name := Str.ofString "__getitem__") ht.typeIs sg (wpAny_call_entry sg ht.typeIs entry_tuple_getitem ?_ (args_tuple_getitem _ _)))
  show wpAny _ _ (Builtin.Tuple.tupleItemsOf (.ref t) >>= _) _ _ s
  refine wpAny_bind (tupleItemsOf_ ht (wpAny_bind (wpAny_typeOf hTs ?_)))
  rw [if_pos (by decide)]
  refine wpAny_bind (applied_back hs ?_)
  show wpAny _ _ (if ((((items.size : Int) - 1) == 0 && (-1 : Int) == 1 && items.size == items.size) = true) then _ else _) _ _ s
  rw [if_neg (by simp), back_all]
  first
    | exact wpAny_bind (m := Builtin.Tuple.tupleExact _) (wpAny_newObj_type (wpAny_pure ⟨_, rfl, wpAny_pure h⟩) fits)
    | exact wpAny_bind (m := Builtin.Tuple.tupleExact _) (wpAny_newObj_type (wpAny_bind (wpAny_pure (wpAny_pure ⟨_, rfl, wpAny_pure h⟩))) fits)
    | exact wpAny_bind (wpAny_bind (m := Builtin.Tuple.tupleExact _) (wpAny_newObj_type (wpAny_pure (wpAny_pure ⟨_, rfl, wpAny_pure h⟩)) fits))
    | exact wpAny_bind (wpAny_bind (m := Builtin.Tuple.tupleExact _) (wpAny_newObj_type (wpAny_pure ⟨_, rfl, wpAny_pure h⟩) fits))
end
theorem vals_rev : ∀ {xs : List V} {us : List Value}, Vals xs us → Vals xs.reverse us.reverse
  | _, _, .nil => .nil
  | _, _, .cons r t => by
    rw [List.reverse_cons, List.reverse_cons]
    exact (vals_rev t).append (.cons r .nil)
def tBack (K : PySem.W.Frag) (te ts : TE) : TE := fun σ H Q => te σ H fun x H1 => ts σ H1 fun y H2 => y = .int (-1) ∧ ∃ (a : Addr) (xs : List V), x = .ref a ∧ SqT K H2 a xs ∧ ∀ p, H2 p = none → Q (.ref p) (upd H2 p (.tup xs.reverse))
theorem pe_back {X : Cx} {K : PySem.W.Frag} {e st : Expr} {te ts : TE} {p2 pos : Pos} (he : PE X e te) (hst : PE X st ts) (ek : X.K = K := by rfl) : PE X (.Subscript e (.Slice none none (some st) p2) pos) (tBack K te ts) := by
  subst ek
  refine ⟨fun pins s σ H Q I h => ?_⟩
  refine Subscript_ (thn (he.run pins s σ H _ I h) fun v s1 ⟨x, H1, I1, r1, q1⟩ => ?_)
  refine wpAny_Slice ?_
  rw [evalPart_none, evalPart_some]
  refine wpAny_pure (wpAny_pure (thn (hst.run pins s1 σ H1 _ I1 q1) fun vs s3 ⟨y, H3, I3, ry, ey, a, xs, ex, hx, q⟩ => ?_))
  subst ey ex
  obtain ⟨tk, rfl⟩ := ry
  cases r1
  have I4 : Inv X pins σ H3 { s3 with heap := s3.heap.push { cls := .type "slice", data := .fields #[.none, .none, .int (-1) tk] } } := I3.kept (t' := s3.toks) fun b ob q => Heap.get?_push_of_some _ q
  obtain ⟨its, r, ht, hz⟩ := I4.tuple hx
  have hlen : its.toArray.size = xs.length := by rw [List.size_toArray]; exact r.length.symm
  show wpAny (model X.prog X.w) X.A (subscriptTail e (.Slice none none (some st) p2) (.ref a) (.ref s3.heap.objs.size)) (EP X pins σ Q) X.xe { s3 with heap := s3.heap.push { cls := .type "slice", data := .fields #[.none, .none, .int (-1) tk] } }
  refine tail_any (T := "tuple") (ops := [.ref a, .ref s3.heap.objs.size]) ht.typeIs PyProof.Rows.slot_tuple_getitem.lookup (getItem_back ht (Heap.IsSliceOf.new ..) ?_ (by rw [hlen]; exact hz)) (by with_unfolding_all rfl)
  refine ⟨.ref _, _, I4.laid (t' := s3.toks) (o := .tup xs.reverse) (fun b ob z => Heap.get?_push_of_some _ z) (Nat.le_refl _) ?_, rfl, q _ (I4.hok.fresh (Nat.le_refl _))⟩
  exact ⟨by rw [List.length_reverse]; exact hz, its.reverse, vals_rev r, IsTup.new _ _⟩
end L2

/-! zip of tuples, all and any named, three comparisons in a chain, tuples of data times ints, repr of truth values. -/
namespace L2
open PySem PySem.Spec PyProof.Rows
section
variable {X : Cx} {K : PySem.W.Frag}
theorem k_all (hc : X.calm = true) (ek : X.K = K := by rfl) : CallR X (.builtin "all") (rAll K) := by
  subst ek
  exact cr_all hc
theorem k_any (hc : X.calm = true) (ek : X.K = K := by rfl) : CallR X (.builtin "any") (rAny K) := by
  subst ek
  exact cr_any hc
theorem k_piZA {e e2 : Expr} {ta : TA} {p pos tpos : Pos} {elts : List Expr} {kk : Nat} (hg : Gl X "zip") (hm : X.mg "zip" = none) (ha : PA X [e, e2] ta)
    (hs : starEach [e, e2] X.env = (false, eval e X.env) :: starEach [e2] X.env := by rfl)
    (hpl : (backTo pos (starEach [e2] X.env)).any (·.1) = false := by rfl) (ek : X.K = K := by rfl) :
    PI X (.Tuple elts kk tpos) (.Call (.Name "zip" p) [e, e2] [] pos) (RZ.iZipA K ta) := by
  subst ek
  exact RZ.pi_zipA hg hm ha hs hpl
end
theorem walk_zipT {K : PySem.W.Frag} {a b : Addr} {xs ys : List V} (hn : xs.length = ys.length) :
    Walk (RZ.ItzT K a b) xs.length (fun H => SqT K H a xs ∧ SqT K H b ys) (YPair (fun i => xs[i]?) (fun i => ys[i]?)) where
  goes := fun i _ hi q => ⟨xs, ys, xs[i], ys[i]'(by omega), q.1, q.2, by simp [hi], by simp [show i < ys.length by omega]⟩
  stops := fun _ q => ⟨xs, ys, q.1, q.2, .inl (Nat.le_refl _)⟩
  yields := fun i H v H' _ q y => by
    obtain ⟨T, x, z, e1, e2, e3, e4, e5⟩ := y
    exact ⟨T, x, z, e1, e2, e3, e4 xs q.1, e5 ys q.2⟩
/-! ### a < b < c < d as a test -/
def tChain3 (r r' r2 : R2) (ta tb tc td : TE) : TE := fun σ H Q => ta σ H fun x H1 => tb σ H1 fun y H2 => r x y H2 fun z H3 => ∃ k, z = .bl k ∧
  (if k = true then tc σ H3 fun y2 H4 => r' y y2 H4 fun z2 H5 => ∃ k2, z2 = .bl k2 ∧ (if k2 = true then td σ H5 fun y3 H6 => r2 y2 y3 H6 Q else Q (.bl false) H5) else Q (.bl false) H3)
theorem pt_chain3 {X : Cx} {a b c d : Expr} {ta tb tc td : TE} {pos : Pos} {o1 o2 o3 : CmpOp} {r r' r2 : R2} (h1 : OpR X (compareOp o1) r) (h2 : OpR X (compareOp o2) r') (h3 : OpR X (compareOp o3) r2)
    (ha : PE X a ta) (hb : PE X b tb) (hc : PE X c tc) (hd : PE X d td) (hm : lastMarks [o1, o2, o3] [b, c, d] = false := by with_unfolding_all rfl) :
    PT X (.Compare a [o1, o2, o3] [b, c, d] pos) (tTest (tChain3 r r' r2 ta tb tc td)) := by
  refine ⟨fun pins s σ H Q I h => ?_⟩
  refine isTrue_chain (thn (ha.run pins s σ H _ I h) fun v1 s1 ⟨x, H1, I1, r1, q1⟩ => ?_) hm
  refine test_link (thn (hb.run pins s1 σ H1 _ I1 q1) fun v2 s2 ⟨y, H2, I2, r2', q2⟩ => ?_)
  refine thn (h1 pins s2 σ H2 x y v1 v2 _ I2 r1 r2' q2) fun b1 s3 ⟨z, H3, I3, r3, k, ez, q3⟩ => ?_
  subst ez
  cases r3
  refine wpAny_truthy_bool ?_
  cases k with
  | false =>
    obtain ⟨_, e0, q0⟩ := q3
    cases e0
    exact ite_ff ⟨H3, I3, q0⟩
  | true =>
    refine ite_tt (test_link (thn (hc.run pins s3 σ H3 _ I3 q3) fun v4 s4 ⟨y2, H4, I4, r4, q4⟩ => ?_))
    refine thn (h2 pins s4 σ H4 y y2 v2 v4 _ I4 r2' r4 q4) fun b2 s5 ⟨z2, H5, I5, r5, k2, ez2, q5⟩ => ?_
    subst ez2
    cases r5
    refine wpAny_truthy_bool ?_
    cases k2 with
    | false =>
      obtain ⟨_, e0, q0⟩ := q5
      cases e0
      exact ite_ff ⟨H5, I5, q0⟩
    | true =>
      refine ite_tt (test_last (thn (hd.run pins s5 σ H5 _ I5 q5) fun v6 s6 ⟨y3, H6, I6, r6, q6⟩ => ?_))
      refine thn (h3 pins s6 σ H6 y2 y3 v4 v6 _ I6 r4 r6 q6) fun b3 s7 ⟨z3, H7, I7, r7, k3, ez3, q7⟩ => ?_
      subst ez3
      cases r7
      exact wpAny_truthy_bool ⟨H7, I7, q7⟩
/-! ### repr of a truth value -/
def rReprB : List V → Hp → VK → Prop := fun xs H Q => ∃ b, xs = [.bl b] ∧ Q (.str (if b then "True" else "False" : String)) H
theorem k_reprB {X : Cx} : CallR X (.builtin "repr") rReprB := by
  intro pins s σ H xs us Q I r h
  obtain ⟨b, rfl, q⟩ := h
  obtain ⟨u, rfl, ru⟩ := vals1 r
  cases ru
  refine PySem.P.repr_of_bool ?_
  cases b
  · exact ⟨.str _, H, I.tok _, ⟨_, rfl⟩, q⟩
  · exact ⟨.str _, H, I.tok _, ⟨_, rfl⟩, q⟩
end L2
namespace My
open PySem PySem.Spec PyProof.Rows L2
/-- a tuple of data, times an int -/
theorem rd_repD {K : PySem.W.Frag} {H : Hp} {v : V} {ds : List PyData} {n : Int} {Q : VK} (h : Dp K H v (.tuple ds)) (hz : ds.length ≤ 1000) (h0 : -1000 ≤ n) (h1 : n ≤ 1000)
    (k : ∀ w H', Same H H' → Dp K H' w (.tuple (List.replicate n.toNat ds).flatten) → Q w H') : rRepA K v (.int n) H Q := by
  obtain ⟨a, xs, rfl, hT, hX⟩ := h.tuple
  have hl := hX.len
  have go : ∀ m : Nat, DpAll K H (List.replicate m xs).flatten (List.replicate m ds).flatten := fun m => by
    induction m with
    | zero => exact .nil
    | succ m ih =>
      rw [List.replicate_succ, List.replicate_succ, List.flatten_cons, List.flatten_cons]
      exact hX.app ih
  refine ⟨a, n, xs, rfl, rfl, hT, h0, h1, by omega, fun w => ?_, fun _ p hp => ?_⟩
  · refine k _ H (Same.refl H) (.tup hT ?_)
    rcases w with w | w
    · subst w
      cases hX
      have e : (List.replicate n.toNat ([] : List PyData)).flatten = [] := by simp
      rw [e]
      exact .nil
    · subst w
      have e : (List.replicate (1 : Int).toNat ds).flatten = ds := by
        show (List.replicate 1 ds).flatten = ds
        simp
      rw [e]
      exact hX
  · exact k _ _ (same_upd hp _) (.tup (SqT.of upd_same) (DpAll.same (same_upd hp _) _ _ (go _)))
end My

/-! Own errors whose __init__ keeps no field. -/
namespace L2
open PySem PySem.Spec PyProof.Rows
section
variable {X : Cx} {pins : List (Addr × Obj)} {σ : St} {H1 H2 : Hp} {Q : XK} {a C : Addr}
/-- such an error is let go -/
theorem end_bare {A0 A1 A2 : Heap} {ga gb : Array GenState} {da db : Drawn} {ta tb : Nat} {oa ob : OsState} (hR : Raises X (.ref C)) (I1 : Inv X pins σ H1 ⟨A0, ga, da, ta, oa⟩) (big : A0.objs.size ≤ a)
    (k : ∀ b o, A0.get? b = some o → A1.get? b = some o) (un : Un (frs X.stack) [] (upd H1 a (exo a C none)) H2 A1 A2) (hok : HOk X.prog X.w H2 A2) (ho : ob = oa) (hb : AllBare gb) (ea : H2 a = some (exo a C none))
    (q : Q (.ref C) none (del H2 a)) : MkP X pins σ Q (.ref a) ⟨A2, gb, db, tb, ob⟩ := by
  obtain ⟨t0, at0⟩ := exo_at hok ea
  have none1 : H1 a = none := I1.hok.fresh big
  obtain ⟨G, in1, out1⟩ := restrict A2 fun b => decide (b ≠ a)
  have same : ∀ b, b ≠ a → G.get? b = A2.get? b := fun b hb => in1 b (decide_eq_true hb)
  have gone : G.get? a = none := out1 a (by simp)
  have ne : ∀ {b : Addr} {o : Obj}, A0.get? b = some o → b ≠ a := fun {b o} z e => by
    have q := Heap.lt_size z
    rw [e] at q
    exact Nat.lt_irrefl _ (Nat.lt_of_lt_of_le q big)
  have free1 : ∀ {b : Addr}, b ≠ a → H1 b = none → upd H1 a (exo a C none) b = none := fun {b} hb n => (upd_ne hb).trans n
  have U : Un (frs X.stack) [] H1 (del H2 a) A0 G := by
    refine ⟨fun b o z n hf hx => ?_, fun b o z n hf hx => ?_, fun b o z n hx => ?_, fun b o z hx => ?_, fun b xs z => ?_, fun b o u z => ?_, fun b ps z => ?_⟩
    · exact (same b (ne z)).trans (un.keep b o (k b o z) (free1 (ne z) n) hf hx)
    · obtain ⟨sl, e⟩ := un.slot b o (k b o z) (free1 (ne z) n) hf hx
      exact ⟨sl, (same b (ne z)).trans e⟩
    · exact (del_ne (ne z)).trans (un.free b o (k b o z) (free1 (ne z) n) hx)
    · obtain ⟨o', e⟩ := un.there b o (k b o z) hx
      exact ⟨o', (same b (ne z)).trans e⟩
    · have b1 : b ≠ a := ne_of_none z none1
      exact (del_ne b1).trans (un.tups b xs ((upd_ne b1).trans z))
    · have b1 : b ≠ a := ne_of_none z none1
      exact (del_ne b1).trans (un.frzs b o u ((upd_ne b1).trans z))
    · have b1 : b ≠ a := ne_of_none z none1
      obtain ⟨more, e⟩ := un.tbls b ps ((upd_ne b1).trans z)
      exact ⟨more, (del_ne b1).trans e⟩
  have hok3 : HOk X.prog X.w (del H2 a) G := fun b o z => by
    have b1 : b ≠ a := fun e => by
      subst e
      rw [del_same] at z
      cases z
    rw [del_ne b1] at z
    have own1 : ∀ {c : Addr}, H2 c = some (.own b) → c ≠ a := fun {c} hc => at_ne ea hc exo_own
    refine (hok b o z).stay (fun c v hc y => ?_) (fun c hc => (del_ne (own1 hc)).trans hc) (fun c xs hc => (del_ne (at_ne ea hc exo_tup)).trans hc)
    have c1 : c ≠ a := by
      rcases hc with e | e
      · rw [e]
        exact b1
      · exact own1 e
    exact (same c c1).trans y
  have J : Inv X pins σ (del H2 a) ⟨G, gb, db, tb, ob⟩ := I1.call' (ch := []) ho U hok3 hb (fun b z => absurd z (by simp))
  refine ⟨a, _, _, ⟨G, gb, db, tb, ob⟩, _, .ref C, none, rfl, J, fun b o z => ?_, gone, at0, ⟨rfl, rfl⟩, rfl, rfl, del_same, rfl, hb, hR, q⟩
  by_cases b1 : b = a
  · subst b1
    rw [gone] at z
    cases z
  · exact (same b b1).symm.trans z
end
def tMkN (C : Addr) (sp : Sp) (ta : TA) : St → Hp → XK → Prop := fun σ H Q => ta σ H fun vs H1 => vs.length ≤ 1000 ∧ ∀ a, H1 a = none → sp (.ref a :: (vs ++ [])) (upd H1 a (exo a C none))
  (fun v H2 => v = .non ∧ H2 a = some (exo a C none) ∧ Q (.ref C) none (del H2 a)) (fun _ _ _ => False)
section
variable {X : Cx} {e : Expr} {es : List Expr} {ta : TA} {p pos : Pos}
theorem pmk_bare {CX : CXT} {x : Str} {C fI : Addr} {k : Nat} {fd : FuncData} {ps : List Str} {sp : Sp} (T : OexC X.K C) (iC : PySem.W.findIn X.K (.ref C) "__init__" = some (some (.ref fI)))
    (tI : PySem.W.typeIn X.K (.ref fI) = some (.type "function")) (F1 : FnOk X.prog X.w X.K X.mg X.base CX k fI fd ps sp) (hr : Room (k + 1) X.A) (hb : Binds X.K fd ps []) (hx : Passes CX X (fun _ _ _ => False)) (hg : Gl X x)
    (hm : X.mg x = some (.ref C)) (ha : PA X (e :: es) ta) (hdb : (x == ("__debug__" : Str)) = false := by decide) (he : starEach (e :: es) X.env = (false, eval e X.env) :: starEach es X.env := by rfl)
    (hpl : (backTo pos (starEach es X.env)).any (·.1) = false := by rfl) : PMk X (.Call (.Name x p) (e :: es) [] pos) (tMkN C sp ta) := by
  intro pins s σ H Q I h
  obtain ⟨c1, c2, c3, c4, c5, c6, c7, c8, c9, ca, cb, cc, cd, ce, cf, atC, bases⟩ := T.cls
  refine wpAny_Call_Name_kw (ld_glob I hg hm (PySem.W.callWith_K (h₀ := X.base) I.ok.mod.kin T.kC (thn (ha.run pos pins s σ H _ I h) fun us s1 hh => ?_) he hpl) hdb)
  obtain ⟨vs, H1, I1, r1, hz, q1⟩ := hh
  refine ⟨I1.kIn, ?_⟩
  show wpAny _ _ (call (.ref C) us) _ _ _
  obtain ⟨A0, g, dr, tk, os⟩ := s1
  have big : A0.objs.size ≤ A0.objs.size + 1 := Nat.le_succ _
  have hq := q1 (A0.objs.size + 1) (I1.hok.fresh big)
  have kk : ∀ b o, A0.get? b = some o → ((A0.push (PySem.W.kdv_tup us)).push (PySem.HandSPX.excO C A0.objs.size)).get? b = some o := fun b o z => Heap.get?_push_of_some _ (Heap.get?_push_of_some _ z)
  have at1 : ((A0.push (PySem.W.kdv_tup us)).push (PySem.HandSPX.excO C A0.objs.size)).get? (A0.objs.size + 1) = some (PySem.HandSPX.excO C A0.objs.size) := by heap_get
  have I2 : Inv X pins σ (upd H1 (A0.objs.size + 1) (exo (A0.objs.size + 1) C none)) ⟨(A0.push (PySem.W.kdv_tup us)).push (PySem.HandSPX.excO C A0.objs.size), g, dr, tk, os⟩ :=
    I1.laid (t' := tk) (a := A0.objs.size + 1) (o := exo (A0.objs.size + 1) C none) (h' := (A0.push (PySem.W.kdv_tup us)).push (PySem.HandSPX.excO C A0.objs.size)) kk big (exo_ok at1)
  have r2 : Vals (V.ref (A0.objs.size + 1) :: (vs ++ [])) (Value.ref (A0.objs.size + 1) :: (us ++ [])) := .cons rfl (r1.append .nil)
  have len2 : (Value.ref (A0.objs.size + 1) :: us ++ []).length = ps.length := r2.length.symm.trans (F1.len _ _ _ _ hq)
  have bb := hb ⟨(A0.push (PySem.W.kdv_tup us)).push (PySem.HandSPX.excO C A0.objs.size), g, dr, tk, os⟩ (Value.ref (A0.objs.size + 1) :: us) I2.kIn len2
  rw [List.cons_append] at bb
  have small : us.length ≤ sizeLine := by
    have e1 := Paired.length r1
    rw [sizeLine_eq]
    omega
  refine wpAny_call (PySem.HandSPX.call_own F.excBase_ValueError (fun Y => PySem.HandSPX.refsVE_contains Y c5 bases) (I1.kIn _ _ atC) (PySem.W.looks_findIn I1.kIn iC) (fun self => PySem.W.bind_fn I1.kIn self tI) small (codeAny_mono (F1.run _ X.stack _ _ ⟨Value.ref (A0.objs.size + 1) :: us, []⟩ (Value.ref (A0.objs.size + 1) :: (us ++ [])) _ _ (fun _ _ _ => False) (hr.make C us []) (I2.env0.make C us []) bb r2 hq) fun r s' hq' => ?_))
  match r, hq' with
  | .error er, z => exact hx pins σ _ _ er s' I2 z
  | .ok (.ret u), ⟨v, H2, os2, bare2, un2, hok2, rv, ev, ea, q2⟩ =>
    subst ev
    obtain ⟨A2, g2, d2, t2, os'⟩ := s'
    exact ⟨rv, end_bare (raises_own T.exC T.tyC) I1 big kk un2 hok2 os2 bare2 ea q2⟩
  | .ok .next, z => exact z.elim
  | .ok .brk, z => exact z.elim
  | .ok .cont, z => exact z.elim
end
end L2
namespace My
open PySem PySem.Spec PyProof.Rows L2
def sp_excN (C : Addr) : Sp := fun vs H Q _ => ∃ (a : Addr) (w : V), vs = [.ref a, w] ∧ H a = some (exo a C none) ∧ Q .non H
theorem made_bare {C : Addr} {w : V} {H : Hp} {Q : XK} (k : ∀ H', Same H H' → Q (.ref C) none H') :
    ∀ a, H a = none → sp_excN C (.ref a :: ([w] ++ [])) (upd H a (exo a C none)) (fun v H2 => v = .non ∧ H2 a = some (exo a C none) ∧ Q (.ref C) none (del H2 a)) (fun _ _ _ => False) := by
  intro a ha
  refine ⟨a, w, rfl, upd_same, rfl, upd_same, k _ fun b o q => ?_⟩
  have b1 := ne_of_none q ha
  rw [del_ne b1, upd_ne b1]
  exact q
end My

/-! Own errors right under OverflowError or LookupError. -/
namespace L2
open PySem PySem.Spec PyProof.Rows
/-- a class of Python's that an own error may stand right under: its maker, its starter, all above -/
structure Under (nw ini : String) (tl : List Value) : Prop where
  base : ∃ B, ExcBaseFacts B nw ini tl
  pass : ∀ me : Value, refuseLoop me (Str.ofString "__setattr__") tl = pure ()
  has : tl.contains (.type "object") = true
abbrev tlOv : List Value := [.type "OverflowError", .type "ArithmeticError", .type "Exception", .type "BaseException", .type "object"]
abbrev tlLk : List Value := [.type "LookupError", .type "Exception", .type "BaseException", .type "object"]
theorem underOv : Under "OverflowError.__new__" "OverflowError.__init__" tlOv := ⟨⟨_, F.excBase_OverflowError⟩, fun me => F.store_OverflowError.passes me, by decide +kernel⟩
theorem underLk : Under "LookupError.__new__" "LookupError.__init__" tlLk := ⟨⟨_, F.excBase_LookupError⟩, fun me => F.store_LookupError.passes me, by decide +kernel⟩
/-- what the written part says of such a class -/
structure OvC (K : PySem.W.Frag) (C : Addr) (nw : String) (tl : List Value) : Prop where
  at_ : ∃ nm q N bs sn sub ab col dd c0 c1 c2 c3 c5, K.lookup C = some (excClassObj nm q C N bs tl true sn sub ab col dd c0 c1 c2 c3 c5 nw)
  sa : PySem.W.findIn K (.ref C) "__setattr__" = some (some (.builtin "object.__setattr__"))
  exC : PySem.W.subIn K (.ref C) (.type "BaseException") = some true
  tyC : PySem.W.typeIn K (.ref C) = some (.type "type")
  kC : PySem.W.keepIn K (.ref C) = true
section
open PySem.W PySem.Calls PySem.HandSPX Builtin Builtin.ObjectAttr
variable {prog : Program} {w : World} {A : Around} {R : Result → Shared → Prop} {h0 : Heap} {ga : Array GenState} {dr : Drawn} {tk : Nat} {os : OsState}
theorem field_first {K : PySem.W.Frag} {f : Str} {tok : Tok} {val : Value} {e C : Addr} {ps : Array Value} {cd : ClassData} {tl : List Value} (X : K.In h0) (ate : h0.get? e = some { cls := .ref C, data := .fields ps }) (hc : PySem.W.clsIn K C = some cd)
    (pass : ∀ me : Value, refuseLoop me (Str.ofString "__setattr__") tl = pure ()) (has : tl.contains (.type "object") = true) (hm : cd.mro = .ref C :: tl) (dict : cd.hasDict = true) (no : PySem.W.findIn K (.ref C) f = some none)
    (k : ∀ G tk2 dx, (∀ b o, b ≠ e → h0.get? b = some o → G.get? b = some o) → h0.objs.size ≤ dx → dx ≠ e → G.get? e = some { cls := .ref C, dict := some dx, data := .fields ps } →
      G.Ns1 dx (fun y => if y = f then some val else none) → R (.ok (.ret .none)) ⟨G, ga, dr, tk2, os⟩) :
    codeAny (model prog w) A (.call (.builtin "object.__setattr__") ⟨[.ref e, .str f tok, val], []⟩) R ⟨h0, ga, dr, tk, os⟩ := by
  have J : PySem.W.InstAt h0 e { cls := .ref C, data := .fields ps } C none := ⟨ate, rfl, rfl, trivial⟩
  have S := F.store_object
  have obj : cd.mro.contains (.type "object") = true := by
    rw [hm, List.contains_cons, has, Bool.or_true]
  have emp : cd.mro.isEmpty = false := by
    rw [hm]
    rfl
  have far : e ≠ h0.objs.size := Nat.ne_of_lt (Heap.lt_size ate)
  have kind : Looks (model prog w) h0 (isInstance (.ref e) (.type "object")) true := J.type.andThen (looks_mroIn X (by
    unfold mroIn
    rw [hc, Option.bind_some, if_neg (by rw [emp]; decide), obj]))
  refine codeAny_call_builtin S.slot.plain S.entry (@check_slot (model prog w) _ _ ⟨h0, ga, dr, tk, os⟩ "object.__setattr__" "object" "__setattr__" (.ref e) [.str f tok, val] [] _ S.kind S.split kind (S.args (.ref e) (.str f tok) val) ?_)
  have lM : Looks (model prog w) h0 (mroOf (.ref C)) cd.mro := (looks_clsIn X hc).andThen .now
  have lS : Looks (model prog w) h0 (storeTaker? none) none := .now
  have lC : Looks (model prog w) h0 (classData C) cd := looks_clsIn X hc
  rw [osa_eq, refuse_eq]
  refine wpAny_bind (wpAny_bind (J.type.at (wpAny_bind (lM.at ?_))))
  rw [hm, refuseLoop_ref, pass]
  refine wpAny_pure (wpAny_bind (J.type.at (wpAny_bind ((looks_findIn X no).at (wpAny_bind (lS.at ?_))))))
  show wpAny _ _ (storeInOwnDict (.ref e) (.ref C) (.str f tok) f val false) _ _ _
  obtain ⟨a1, a2, a3, a4, a5, a6, a7, a8, a9, b1, b2⟩ := cd
  dsimp only at dict
  subst dict
  unfold storeInOwnDict ownDictForStores
  repeat (first | with_reducible refine store_in_new ?_ ?_ | with_reducible refine wpAny_loadPart_at ate ?_ | with_reducible refine lC.at ?_ | wp_step)
  · exact ⟨_, #[], _, (Heap.get?_update_ne _ _ _ _ far.symm).trans (Heap.get?_push_at rfl rfl), rfl, fun z hz => absurd hz (by simp), fun _ => rfl⟩
  · intro G tk2 hN hS
    have ate2 : (h0.push { cls := .type "dict", data := .dict #[] }).get? e = some { cls := .ref C, data := .fields ps } := Heap.get?_push_of_some _ ate
    refine k G tk2 h0.objs.size (fun b o hb ho => ?_) (Nat.le_refl _) far.symm ?_ hN
    · exact (hS.2 b (Nat.ne_of_lt (Heap.lt_size ho))).trans ((Heap.get?_update_ne _ _ _ _ hb).trans (Heap.get?_push_of_some _ ho))
    · exact (hS.2 e far).trans (Heap.get?_update_self _ ate2 rfl)
end
section
variable {X : Cx} {pins : List (Addr × Obj)} {σ : St} {H : Hp} {s : Shared} {e C : Addr} {f nw ini : Str} {y : V} {u : Value} {Q : Unit → Shared → Prop} {E : Value → Shared → Prop} {A : Around} {tl : List Value}
/-- self.f = y, the first field of such an error -/
theorem ov_field {nw ini : String} (U : Under nw ini tl) (T : OvC X.K C nw tl) (I : Inv X pins σ H s) (at_e : H e = some (exo e C none)) (no : PySem.W.findIn X.K (.ref C) f = some none) (ry : RelV y u)
    (k : ∀ dx s', H dx = none → dx ≠ e → Inv X pins σ (upd (upd H dx (exd dx [(f, y)])) e (exo e C (some dx))) s' → Q () s') : wpAny (model X.prog X.w) A (setAttr (.ref e) f u) Q E s := by
  obtain ⟨d1, d2, d3, d4, d5, d6, d7, d8, d9, c0, c1, c2, c3, c5, look⟩ := T.at_
  have hc : PySem.W.clsIn X.K C = some { name := d1, bases := d4, mro := .ref C :: tl, ns := d3, qualname := d2, hasDict := true, slotNames := d5, subclasses := d6, abstract := d7, collection := d8, hasDel := false } := by
    unfold PySem.W.clsIn
    rw [look] <;> rfl
  obtain ⟨t0, ate⟩ := exo_at I.hok at_e
  obtain ⟨h0, ga, dr, tk, os⟩ := s
  refine PySem.W.set_plain I.kIn (ox := { cls := .ref C, dict := none, data := .fields #[.ref t0, .none, .none, .none, .bool false, .none] }) (od := none) ⟨ate, rfl, rfl, trivial⟩ T.sa ?_
  refine field_first I.kIn ate hc U.pass U.has rfl rfl no fun G tk2 dx keep big apart now ns => ?_
  have free : H dx = none := I.hok.fresh big
  have nd : ∀ {b : Addr} {o : Obj}, h0.get? b = some o → b ≠ dx := fun {b o} z => Nat.ne_of_lt (Nat.lt_of_lt_of_le (Heap.lt_size z) big)
  have ne : ∀ {b : Addr}, H b = none → b ≠ e := fun {b} n z => by
    rw [z, at_e] at n
    cases n
  have un : Un X.fs [] H (upd (upd H dx (exd dx [(f, y)])) e (exo e C (some dx))) h0 G := by
    refine ⟨fun b o z n _ _ => keep b o (ne n) z, fun b o z n _ _ => ⟨o.slots, keep b o (ne n) z⟩, fun b o z n _ => ?_, fun b o z _ => ?_, fun b xs z => ?_, fun b o v z => ?_, fun b ps z => ⟨#[], ?_⟩⟩
    · rw [upd_ne (ne n), upd_ne (nd z)]
      exact n
    · by_cases hb : b = e
      · exact ⟨_, by rw [hb]; exact now⟩
      · exact ⟨o, keep b o hb z⟩
    · rw [upd_ne (at_ne at_e z exo_tup), upd_ne (ne_of_none z free)]
      exact z
    · rw [upd_ne (at_ne at_e z exo_frz), upd_ne (ne_of_none z free)]
      exact z
    · rw [upd_ne (at_ne at_e z exo_tbl), upd_ne (ne_of_none z free), z]
      simp
  refine k dx _ free apart (I.un (t' := tk2) un fun b o z => ?_)
  by_cases hb : b = e
  · subst hb
    rw [upd_same] at z
    cases z
    exact exo_ok now
  rw [upd_ne hb] at z
  by_cases hd : b = dx
  · subst hd
    rw [upd_same] at z
    cases z
    exact exd_ok ns (relO_put (fs := []) ry fun g => True.intro)
  rw [upd_ne hd] at z
  refine (I.hok b o z).stay (fun c v hc w => keep c v ?_ w) (fun c hc => ?_) fun c xs hc => ?_
  · rcases hc with r | r
    · rw [r]
      exact hb
    · exact at_ne at_e r exo_own
  · rw [upd_ne (at_ne at_e hc exo_own), upd_ne (ne_of_none hc free)]
    exact hc
  · rw [upd_ne (at_ne at_e hc exo_tup), upd_ne (ne_of_none hc free)]
    exact hc
/-- the starter of the class above -/
theorem ov_start {nw ini : String} {us : List Value} {Q : Value → Shared → Prop} (U : Under nw ini tl) (T : OvC X.K C nw tl) (I : Inv X pins σ H s) (at_e : H e = some (exo e C none)) (small : us.length ≤ sizeLine) (k : ∀ s', Inv X pins σ H s' → Q .none s') :
    wpAny (model X.prog X.w) A (call (.builtin ini) (.ref e :: us)) Q E s := by
  obtain ⟨d1, d2, d3, d4, d5, d6, d7, d8, d9, c0, c1, c2, c3, c5, look⟩ := T.at_
  obtain ⟨B, base⟩ := U.base
  obtain ⟨t0, ate⟩ := exo_at I.hok at_e
  obtain ⟨h0, ga, dr, tk, os⟩ := s
  refine wpAny_call (PySem.HandSPX.init_base base (fun Y => rfl) (I.kIn _ _ look) ate small fun G t2 keep now => ?_)
  have J := I.write (t' := tk) (x := e) (e := e) (o := exo e C none) (by rw [at_e]; exact True.intro) (.inl rfl) keep ⟨_, now⟩ (exo_ok now)
  have same : upd H e (exo e C none) = H := funext fun b => by
    by_cases hb : b = e
    · rw [hb, upd_same, at_e]
    · rw [upd_ne hb]
  rw [same] at J
  exact k _ J
end
/-! ### readings and rules -/
/-- Above.__init__(self, ..) -/
def tOvI (K : PySem.W.Frag) (nw : String) (tl : List Value) (ta : TA) : TE := fun σ H Q => ta σ H fun vs H1 => ∃ (e C : Addr) (ws : List V), vs = .ref e :: ws ∧ ws.length ≤ 1000 ∧ OvC K C nw tl ∧ H1 e = some (exo e C none) ∧ Q .non H1
/-- self.f = .., the first field -/
def tOvF (K : PySem.W.Frag) (nw : String) (tl : List Value) (f : Str) (to te : TE) : TS := fun D σ H => te σ H fun y H1 => to σ H1 fun x H2 => ∃ e C : Addr, x = .ref e ∧ OvC K C nw tl ∧ PySem.W.findIn K (.ref C) f = some none ∧
  H2 e = some (exo e C none) ∧ ∀ dx, H2 dx = none → dx ≠ e → D.nx σ (upd (upd H2 dx (exd dx [(f, y)])) e (exo e C (some dx)))
theorem typ_Ov : typeOf (.type "OverflowError") = pure (.type "type") := by kernel_rfl
theorem typ_Lk : typeOf (.type "LookupError") = pure (.type "type") := by kernel_rfl
section
variable {X : Cx} {o e : Expr} {es : List Expr} {to te : TE} {ta : TA} {f : Str} {p p' p1 p2 pos : Pos} {tl : List Value} {nw ini : String}
theorem pe_ovinit {pl : Sem Bool} (hg : Gl X "OverflowError") (hm : X.mg "OverflowError" = none) (vV : PySem.W.findCls X.K (.type "OverflowError") (.type "type") "__init__" = some (.val (.builtin "OverflowError.__init__"))) (ha : PA X (e :: es) ta)
    (hc : eval (.Call (.Attribute (.Name "OverflowError" p1) "__init__" p2) (e :: es) [] pos) X.env = (do
      let ov ← eval (.Name "OverflowError" p1) X.env
      standAt p2.atName
      let (f, first) ← holding [ov] (getMethod ov "__init__" pl)
      callWith pos f first (backTo pos (starEach (e :: es) X.env)) (backToKw pos (keywordEach [] X.env))) := by rfl)
    (he : starEach (e :: es) X.env = (false, eval e X.env) :: starEach es X.env := by rfl) (hpl : (backTo pos (starEach es X.env)).any (·.1) = false := by rfl) :
    PE X (.Call (.Attribute (.Name "OverflowError" p1) "__init__" p2) (e :: es) [] pos) (tOvI X.K "OverflowError.__new__" tlOv ta) := by
  refine ⟨fun pins s σ H Q I h => PySem.W.methodCall_KW (ld_blt I hg hm Boot.«OverflowError» ?_ (by decide) (by decide)) hc⟩
  obtain ⟨mm, fr⟩ := I.fr
  refine PySem.W.method_type fr I.ok.mod.kin typ_Ov (by decide +kernel) vV (by decide +kernel) ?_
  show wpAny _ _ (callWith pos (Value.builtin "OverflowError.__init__") [] (backTo pos (starEach (e :: es) X.env)) []) _ _ _
  refine callWith_method1 (thn (ha.run pos pins _ σ H _ (I.tok _) h) fun us s1 ⟨vs, H1, I1, r1, a, C, ws, ev, small, T, ea, q⟩ => ?_) he hpl
  subst ev
  cases r1 with
  | @cons _ u0 _ ur ra rest =>
    obtain rfl : u0 = Value.ref a := ra
    have len : ur.length ≤ sizeLine := by
      rw [← Paired.length rest, sizeLine_eq]
      omega
    exact ov_start underOv T I1 ea len fun s' J => ⟨.non, H1, J, rfl, q⟩
theorem pe_lkinit {pl : Sem Bool} (hg : Gl X "LookupError") (hm : X.mg "LookupError" = none) (vV : PySem.W.findCls X.K (.type "LookupError") (.type "type") "__init__" = some (.val (.builtin "LookupError.__init__"))) (ha : PA X (e :: es) ta)
    (hc : eval (.Call (.Attribute (.Name "LookupError" p1) "__init__" p2) (e :: es) [] pos) X.env = (do
      let ov ← eval (.Name "LookupError" p1) X.env
      standAt p2.atName
      let (f, first) ← holding [ov] (getMethod ov "__init__" pl)
      callWith pos f first (backTo pos (starEach (e :: es) X.env)) (backToKw pos (keywordEach [] X.env))) := by rfl)
    (he : starEach (e :: es) X.env = (false, eval e X.env) :: starEach es X.env := by rfl) (hpl : (backTo pos (starEach es X.env)).any (·.1) = false := by rfl) :
    PE X (.Call (.Attribute (.Name "LookupError" p1) "__init__" p2) (e :: es) [] pos) (tOvI X.K "LookupError.__new__" tlLk ta) := by
  refine ⟨fun pins s σ H Q I h => PySem.W.methodCall_KW (ld_blt I hg hm Boot.«LookupError» ?_ (by decide) (by decide)) hc⟩
  obtain ⟨mm, fr⟩ := I.fr
  refine PySem.W.method_type fr I.ok.mod.kin typ_Lk (by decide +kernel) vV (by decide +kernel) ?_
  show wpAny _ _ (callWith pos (Value.builtin "LookupError.__init__") [] (backTo pos (starEach (e :: es) X.env)) []) _ _ _
  refine callWith_method1 (thn (ha.run pos pins _ σ H _ (I.tok _) h) fun us s1 ⟨vs, H1, I1, r1, a, C, ws, ev, small, T, ea, q⟩ => ?_) he hpl
  subst ev
  cases r1 with
  | @cons _ u0 _ ur ra rest =>
    obtain rfl : u0 = Value.ref a := ra
    have len : ur.length ≤ sizeLine := by
      rw [← Paired.length rest, sizeLine_eq]
      omega
    exact ov_start underLk T I1 ea len fun s' J => ⟨.non, H1, J, rfl, q⟩
theorem ps_ovf {ini : String} (U : Under nw ini tl) (ho : PE X o to) (he : PE X e te) (hs : swapsWith e (some (.Attribute o f p')) pos.line X.env = pure false := by rfl) : PS X (.Assign [.Attribute o f p'] e pos) (tOvF X.K nw tl f to te) :=
  ⟨fun pins s σ H D I h => plainObj_wpAny_Assign_Attribute (thn (he.run pins s σ H _ I h) fun v s1 ⟨y, H1, I1, r1, q1⟩ => thn (ho.run pins s1 σ H1 _ I1 q1) fun u s2 ⟨x, H2, I2, r2, a, C, ex, T, no, ea, q⟩ => by
    subst ex
    obtain rfl : u = Value.ref a := r2
    exact ov_field U T I2 ea no r1 fun dx s' n ne J => ⟨σ, _, J, q dx n ne⟩) hs⟩
/-- C(e, ..) of an error with a field -/
theorem pmk_ov {CX : CXT} {x : Str} {C fI : Addr} {k : Nat} {fd : FuncData} {ps : List Str} {sp : Sp} {ini : String} (U : Under nw ini tl) (T : OvC X.K C nw tl) (iC : PySem.W.findIn X.K (.ref C) "__init__" = some (some (.ref fI)))
    (tI : PySem.W.typeIn X.K (.ref fI) = some (.type "function")) (F1 : FnOk X.prog X.w X.K X.mg X.base CX k fI fd ps sp) (hr : Room (k + 1) X.A) (hb : Binds X.K fd ps []) (hx : Passes CX X (fun _ _ _ => False)) (hg : Gl X x)
    (hm : X.mg x = some (.ref C)) (ha : PA X (e :: es) ta) (hdb : (x == ("__debug__" : Str)) = false := by decide) (he : starEach (e :: es) X.env = (false, eval e X.env) :: starEach es X.env := by rfl)
    (hpl : (backTo pos (starEach es X.env)).any (·.1) = false := by rfl) : PMk X (.Call (.Name x p) (e :: es) [] pos) (tMkO C sp [] ta) := by
  intro pins s σ H Q I h
  obtain ⟨d1, d2, d3, d4, d5, d6, d7, d8, d9, c0, c1, c2, c3, c5, look⟩ := T.at_
  obtain ⟨B, base⟩ := U.base
  refine wpAny_Call_Name_kw (ld_glob I hg hm (PySem.W.callWith_K (h₀ := X.base) I.ok.mod.kin T.kC (thn (ha.run pos pins s σ H _ I h) fun us s1 hh => ?_) he hpl) hdb)
  obtain ⟨vs, H1, I1, r1, hz, q1⟩ := hh
  refine ⟨I1.kIn, ?_⟩
  show wpAny _ _ (call (.ref C) us) _ _ _
  obtain ⟨A0, g, dr, tk, os⟩ := s1
  have big : A0.objs.size ≤ A0.objs.size + 1 := Nat.le_succ _
  have hq := q1 (A0.objs.size + 1) (I1.hok.fresh big)
  have kk : ∀ b o, A0.get? b = some o → ((A0.push (PySem.W.kdv_tup us)).push (PySem.HandSPX.excO C A0.objs.size)).get? b = some o := fun b o z => Heap.get?_push_of_some _ (Heap.get?_push_of_some _ z)
  have at1 : ((A0.push (PySem.W.kdv_tup us)).push (PySem.HandSPX.excO C A0.objs.size)).get? (A0.objs.size + 1) = some (PySem.HandSPX.excO C A0.objs.size) := by heap_get
  have I2 : Inv X pins σ (upd H1 (A0.objs.size + 1) (exo (A0.objs.size + 1) C none)) ⟨(A0.push (PySem.W.kdv_tup us)).push (PySem.HandSPX.excO C A0.objs.size), g, dr, tk, os⟩ :=
    I1.laid (t' := tk) (a := A0.objs.size + 1) (o := exo (A0.objs.size + 1) C none) (h' := (A0.push (PySem.W.kdv_tup us)).push (PySem.HandSPX.excO C A0.objs.size)) kk big (exo_ok at1)
  have r2 : Vals (V.ref (A0.objs.size + 1) :: (vs ++ [])) (Value.ref (A0.objs.size + 1) :: (us ++ [])) := .cons rfl (r1.append .nil)
  have len2 : (Value.ref (A0.objs.size + 1) :: us ++ []).length = ps.length := r2.length.symm.trans (F1.len _ _ _ _ hq)
  have bb := hb ⟨(A0.push (PySem.W.kdv_tup us)).push (PySem.HandSPX.excO C A0.objs.size), g, dr, tk, os⟩ (Value.ref (A0.objs.size + 1) :: us) I2.kIn len2
  rw [List.cons_append] at bb
  have small : us.length ≤ sizeLine := by
    have e1 := Paired.length r1
    rw [sizeLine_eq]
    omega
  refine wpAny_call (PySem.HandSPX.call_own base (fun Y => rfl) (I1.kIn _ _ look) (PySem.W.looks_findIn I1.kIn iC) (fun self => PySem.W.bind_fn I1.kIn self tI) small (codeAny_mono (F1.run _ X.stack _ _ ⟨Value.ref (A0.objs.size + 1) :: us, []⟩ (Value.ref (A0.objs.size + 1) :: (us ++ [])) _ _ (fun _ _ _ => False) (hr.make C us []) (I2.env0.make C us []) bb r2 hq) fun r s' hq' => ?_))
  match r, hq' with
  | .error er, z => exact hx pins σ _ _ er s' I2 z
  | .ok (.ret u), ⟨v, H2, os2, bare2, un2, hok2, rv, ev, d, fs, ea, ed, hd1, q2⟩ =>
    subst ev
    obtain ⟨A2, g2, d2, t2, os'⟩ := s'
    exact ⟨rv, mk_end (raises_own T.exC T.tyC) I1 big kk un2 hok2 os2 bare2 ea ed hd1 q2⟩
  | .ok .next, z => exact z.elim
  | .ok .brk, z => exact z.elim
  | .ok .cont, z => exact z.elim
/-- C(e, ..) of an error without fields -/
theorem pmk_ovN {CX : CXT} {x : Str} {C fI : Addr} {k : Nat} {fd : FuncData} {ps : List Str} {sp : Sp} {ini : String} (U : Under nw ini tl) (T : OvC X.K C nw tl) (iC : PySem.W.findIn X.K (.ref C) "__init__" = some (some (.ref fI)))
    (tI : PySem.W.typeIn X.K (.ref fI) = some (.type "function")) (F1 : FnOk X.prog X.w X.K X.mg X.base CX k fI fd ps sp) (hr : Room (k + 1) X.A) (hb : Binds X.K fd ps []) (hx : Passes CX X (fun _ _ _ => False)) (hg : Gl X x)
    (hm : X.mg x = some (.ref C)) (ha : PA X (e :: es) ta) (hdb : (x == ("__debug__" : Str)) = false := by decide) (he : starEach (e :: es) X.env = (false, eval e X.env) :: starEach es X.env := by rfl)
    (hpl : (backTo pos (starEach es X.env)).any (·.1) = false := by rfl) : PMk X (.Call (.Name x p) (e :: es) [] pos) (tMkN C sp ta) := by
  intro pins s σ H Q I h
  obtain ⟨d1, d2, d3, d4, d5, d6, d7, d8, d9, c0, c1, c2, c3, c5, look⟩ := T.at_
  obtain ⟨B, base⟩ := U.base
  refine wpAny_Call_Name_kw (ld_glob I hg hm (PySem.W.callWith_K (h₀ := X.base) I.ok.mod.kin T.kC (thn (ha.run pos pins s σ H _ I h) fun us s1 hh => ?_) he hpl) hdb)
  obtain ⟨vs, H1, I1, r1, hz, q1⟩ := hh
  refine ⟨I1.kIn, ?_⟩
  show wpAny _ _ (call (.ref C) us) _ _ _
  obtain ⟨A0, g, dr, tk, os⟩ := s1
  have big : A0.objs.size ≤ A0.objs.size + 1 := Nat.le_succ _
  have hq := q1 (A0.objs.size + 1) (I1.hok.fresh big)
  have kk : ∀ b o, A0.get? b = some o → ((A0.push (PySem.W.kdv_tup us)).push (PySem.HandSPX.excO C A0.objs.size)).get? b = some o := fun b o z => Heap.get?_push_of_some _ (Heap.get?_push_of_some _ z)
  have at1 : ((A0.push (PySem.W.kdv_tup us)).push (PySem.HandSPX.excO C A0.objs.size)).get? (A0.objs.size + 1) = some (PySem.HandSPX.excO C A0.objs.size) := by heap_get
  have I2 : Inv X pins σ (upd H1 (A0.objs.size + 1) (exo (A0.objs.size + 1) C none)) ⟨(A0.push (PySem.W.kdv_tup us)).push (PySem.HandSPX.excO C A0.objs.size), g, dr, tk, os⟩ :=
    I1.laid (t' := tk) (a := A0.objs.size + 1) (o := exo (A0.objs.size + 1) C none) (h' := (A0.push (PySem.W.kdv_tup us)).push (PySem.HandSPX.excO C A0.objs.size)) kk big (exo_ok at1)
  have r2 : Vals (V.ref (A0.objs.size + 1) :: (vs ++ [])) (Value.ref (A0.objs.size + 1) :: (us ++ [])) := .cons rfl (r1.append .nil)
  have len2 : (Value.ref (A0.objs.size + 1) :: us ++ []).length = ps.length := r2.length.symm.trans (F1.len _ _ _ _ hq)
  have bb := hb ⟨(A0.push (PySem.W.kdv_tup us)).push (PySem.HandSPX.excO C A0.objs.size), g, dr, tk, os⟩ (Value.ref (A0.objs.size + 1) :: us) I2.kIn len2
  rw [List.cons_append] at bb
  have small : us.length ≤ sizeLine := by
    have e1 := Paired.length r1
    rw [sizeLine_eq]
    omega
  refine wpAny_call (PySem.HandSPX.call_own base (fun Y => rfl) (I1.kIn _ _ look) (PySem.W.looks_findIn I1.kIn iC) (fun self => PySem.W.bind_fn I1.kIn self tI) small (codeAny_mono (F1.run _ X.stack _ _ ⟨Value.ref (A0.objs.size + 1) :: us, []⟩ (Value.ref (A0.objs.size + 1) :: (us ++ [])) _ _ (fun _ _ _ => False) (hr.make C us []) (I2.env0.make C us []) bb r2 hq) fun r s' hq' => ?_))
  match r, hq' with
  | .error er, z => exact hx pins σ _ _ er s' I2 z
  | .ok (.ret u), ⟨v, H2, os2, bare2, un2, hok2, rv, ev, ea, q2⟩ =>
    subst ev
    obtain ⟨A2, g2, d2, t2, os'⟩ := s'
    exact ⟨rv, end_bare (raises_own T.exC T.tyC) I1 big kk un2 hok2 os2 bare2 ea q2⟩
  | .ok .next, z => exact z.elim
  | .ok .brk, z => exact z.elim
  | .ok .cont, z => exact z.elim
end
end L2
namespace My
open PySem PySem.Spec PyProof.Rows L2
/-- an own error right under one of Python's -/
structure ExcO (K : PySem.W.Frag) (mg : Str → Option Value) (name qual fld : Str) (st : Stmt) (nw : String) (tl : List Value) where
  C : Addr
  f : Addr
  d : FuncData
  m : mg name = some (.ref C)
  ox : OvC K C nw tl
  iC : PySem.W.findIn K (.ref C) "__init__" = some (some (.ref f))
  tI : PySem.W.typeIn K (.ref f) = some (.type "function")
  F : Fun K "__init__" qual st f d
  b : Binds K d ["self", fld] []
  nf : PySem.W.findIn K (.ref C) fld = some none
  xf : XfC K C
  te : PySem.W.exmOne K (.ref C) (.ref C) = some true
def exo_mk {K : PySem.W.Frag} {h : Heap} {mg : Str → Option Value} {name qual fld : Str} {st : Stmt} {nw : String} {tl : List Value} (X : K.In h) (G : h.Ns mainGlobals mg) {C f : Addr} {d : FuncData} {nm q : Str} {N : Addr} {bs : List Value} {sn : List Str}
    {sub : List Value} {ab : Bool} {col : Option Bool} {dd : Option Addr} {c0 c1 c2 c3 c5 : Option Value} (F : Fun K "__init__" qual st f d) (b : Binds K d ["self", fld] []) (aC : PySem.W.nsIn K mainGlobals name = some (some (.ref C)))
    (look : K.lookup C = some (excClassObj nm q C N bs tl true sn sub ab col dd c0 c1 c2 c3 c5 nw)) (sa : PySem.W.findIn K (.ref C) "__setattr__" = some (some (.builtin "object.__setattr__")))
    (ga : PySem.W.findIn K (.ref C) "__getattribute__" = some (some (.builtin "BaseException.__getattribute__"))) (gg : PySem.W.findIn K (.ref C) "__getattr__" = some none) (nb : PySem.W.findIn K (.ref C) fld = some none)
    (ini : PySem.W.findIn K (.ref C) "__init__" = some (some (.ref f))) (ti : PySem.W.typeIn K (.ref f) = some (.type "function")) (kC : PySem.W.keepIn K (.ref C) = true) (eC : PySem.W.subIn K (.ref C) (.type "BaseException") = some true)
    (tC : PySem.W.typeIn K (.ref C) = some (.type "type")) (hC : PySem.W.hasDictIn K C = true) (iC : PySem.W.isClsIn K C = true) (sC : PySem.W.subIn K (.ref C) (.ref C) = some true) : ExcO K mg name qual fld st nw tl where
  C := C
  f := f
  d := d
  m := PySem.W.mg_of X G aC
  ox := ⟨⟨nm, q, N, bs, sn, sub, ab, col, dd, c0, c1, c2, c3, c5, look⟩, sa, eC, tC, kC⟩
  iC := ini
  tI := ti
  F := F
  b := b
  nf := nb
  xf := ⟨ga, gg, eC, hC⟩
  te := exm_me eC iC tC sC
end My

/-! try with two handlers, the first one with a name. -/
namespace L2
open PySem PySem.Spec PyProof.Rows
/-- an exception that has landed at its try: B is the heap ahead of it, Wo what is wished if it goes on -/
def Caught (X : Cx) (Wo : WX) (pins : List (Addr × Obj)) (a : Addr) (cls : Value) (d : Option Addr) (σ : St) (H : Hp) (s : Shared) : Prop :=
  ∃ B : Heap, HandSPX.FlyingZ B (X.env :: X.outer) a (Zc cls d) s.heap ∧ (∀ h, HandSPX.FlyingZ B (X.env :: X.outer) a (Zc cls d) h → s.heap.UpToSlots h → Inv X pins σ H { s with heap := h }) ∧
    (∀ h, HandSPX.HeldZ B (X.env :: X.outer) a (Zc cls d) X.env.locals h → s.heap.UpToSlots h → Wo cls d σ H → X.xe (.ref a) { s with heap := h }) ∧ H a = none ∧ a ≠ X.env.locals ∧ a ∉ X.fs
variable {X : Cx} {Wo : WX} {pins : List (Addr × Obj)} {a : Addr} {cls : Value} {d : Option Addr} {σ : St} {H : Hp} {s : Shared} {D : Ends}
theorem Caught.inv (c : Caught X Wo pins a cls d σ H s) : Inv X pins σ H s := by
  obtain ⟨B, fl, k, _⟩ := c
  exact k s.heap fl (Heap.UpToSlots.refl _)
/-- no handler takes it -/
theorem Caught.on (c : Caught X Wo pins a cls d σ H s) (hf : X.env.frame = some X.env.locals) (w : Wo cls d σ H) : wpAny (model X.prog X.w) X.A (handleBy (.ref a) X.env []) (SP X pins D) X.xe s := by
  obtain ⟨B, fl, _, go, _⟩ := c
  obtain ⟨_, _, _, oe, vs, T, oT, ts, he, hz, hd, h1, hr⟩ := id fl
  refine wpAny_handleBy_nil ?_
  unfold PySem.passOn
  refine wpAny_bind ?_; refine wpAny_field he hd h1 ?_
  rw [if_neg (show ¬ ((Value.ref T == Value.none) = true) by simp)]
  have last : wpAny (model X.prog X.w) X.A (setFlight (.ref a) X.env.frame) (fun _ t => wpAny (model X.prog X.w) X.A (throw (.ref a) : Sem Flow) (SP X pins D) X.xe t) X.xe s := by
    rw [hf]
    exact HandSPX.setFlight_upZ fl fun h hh up => wpAny_throw (go h hh up w)
  first | exact wpAny_bind (wpAny_pure (wpAny_bind last)) | exact wpAny_bind last
/-- the test of one handler -/
theorem Caught.test (c : Caught X Wo pins a cls d σ H s) {x : Str} {cv : Value} {np pos : Pos} {nm : Option Str} {suite : List Stmt} {hds : List ExceptHandler} (hc : Names X x cv) {b : Bool} (hb : PySem.W.exmOne X.K cls cv = some b)
    (yes : b = true → codeAny (model X.prog X.w) (X.A.mark (some (.ref a))) (.handlers (.ref a) [.ExceptHandler none nm suite pos] X.env) (fun r s₂ => match r with
      | .ok f => (match nm with | none => SP X pins D f s₂ | some n => wpAny (model X.prog X.w) X.A (do bindName X.env n .none; unbindBehindTheSuite X.env n pos) (fun _ s₃ => SP X pins D f s₃) X.xe s₂)
      | .error z => cameBackBy (model X.prog X.w) X.A X.env X.xe z s₂) s)
    (no : b = false → wpAny (model X.prog X.w) X.A (handleBy (.ref a) X.env hds) (SP X pins D) X.xe s) (ne : suite ≠ []) :
    wpAny (model X.prog X.w) X.A (handleBy (.ref a) X.env (.ExceptHandler (some (.Name x np)) nm suite pos :: hds)) (SP X pins D) X.xe s := by
  have I := c.inv
  obtain ⟨B, fl, k, _, na, nL, nF⟩ := c
  obtain ⟨oe, vs, he, hz, hd⟩ := fl.there
  have S := I.suite he hd na nL nF
  refine wpAny_handleBy_cons (codeAny_handlers_test ?_) fun z => nomatch z
  have looks : PySem.W.Looks (model X.prog X.w) s.heap (typeOf (.ref a)) cls := fun A Q E t keep q => wpAny_typeOf_ref (keep _ _ he) (by rw [hz.1]; exact q)
  have named : ∀ {Q : Value → Shared → Prop} {E : Value → Shared → Prop}, Q cv s → wpAny (model X.prog X.w) (X.A.mark (some (.ref a))) (eval (.Name x np) X.env) Q E s := by
    intro Q E q
    obtain ⟨hg, hdb, hm | ⟨hm, hv, hn⟩⟩ := hc
    · exact ld_glob (X := X.suite a ((a, oe) :: (X.pn ++ pins))) S hg hm q hdb
    · exact ld_blt (X := X.suite a ((a, oe) :: (X.pn ++ pins))) S hg hm hv q hn hdb
  refine named ((PySem.W.exm_one (M := model X.prog X.w) I.kIn looks hb).here ?_)
  cases b
  · exact no rfl
  · exact yes rfl
/-- a handler's suite, without a name -/
theorem Caught.plain (c : Caught X Wo pins a cls d σ H s) (ok : X.Ok) {b₀ : Stmt} {suite : List Stmt} {pos : Pos} {ts : TS}
    (hsu : ∀ (oe : Obj) (pn : List (Addr × Obj)), Zc cls d oe → (∃ vs, oe.data = .fields vs) → PSs (X.suite a ((a, oe) :: pn)) (b₀ :: suite) ts) (w : ts D σ H) :
    codeAny (model X.prog X.w) (X.A.mark (some (.ref a))) (.handlers (.ref a) [.ExceptHandler none none (b₀ :: suite) pos] X.env) (fun r t => match r with
      | .ok f => SP X pins D f t
      | .error z => cameBackBy (model X.prog X.w) X.A X.env X.xe z t) s := by
  obtain ⟨B, fl, k, _, na, nL, nF⟩ := c
  refine codeAny_handlers_suite (HandSPX.lands_againZ fl fun h fl2 up => ?_)
  obtain ⟨oe, vs, he, hz, hd⟩ := fl2.there
  have S := (k h fl2 up).suite he hd na nL nF
  refine wpAny_mono ((hsu oe (X.pn ++ pins) hz ⟨_, hd⟩).run [] _ _ H _ S w) (fun f t g => ?_) (fun _ _ z => False.elim z)
  cases f
  · obtain ⟨σ', H', S', q⟩ := g
    exact ⟨_, _, S'.unsuite ok, q⟩
  · obtain ⟨σ', H', S', q⟩ := g
    exact ⟨_, _, S'.unsuite ok, q⟩
  · obtain ⟨σ', H', S', q⟩ := g
    exact ⟨_, _, S'.unsuite ok, q⟩
  · obtain ⟨v, σ', H', S', r, q⟩ := g
    exact ⟨_, _, _, S'.unsuite ok, r, q⟩
/-- what ends a suite with a name: the name goes -/
def unE (D : Ends) (i : Nat) : Ends where
  nx := fun σ H => D.nx (σ.set i none) H
  rt := D.rt
  bk := fun σ H => D.bk (σ.set i none) H
  ct := fun σ H => D.ct (σ.set i none) H
theorem Caught.named (c : Caught X Wo pins a cls d σ H s) (ok : X.Ok) {i : Nat} {n : Str} (hN : X.N.Nodup) (hi : X.N[i]? = some n) (hln : X.env.kindOf n = some .local) {b₀ : Stmt} {suite : List Stmt} {pos : Pos} {ts : TS}
    (hsu : ∀ (oe : Obj) (pn : List (Addr × Obj)), Zc cls d oe → (∃ vs, oe.data = .fields vs) → PSs (X.suite a ((a, oe) :: pn)) (b₀ :: suite) ts) (w : ts (unE D i) (σ.set i (some (.ref a))) H) :
    codeAny (model X.prog X.w) (X.A.mark (some (.ref a))) (.handlers (.ref a) [.ExceptHandler none (some n) (b₀ :: suite) pos] X.env) (fun r t => match r with
      | .ok f => wpAny (model X.prog X.w) X.A (do bindName X.env n .none; unbindBehindTheSuite X.env n pos) (fun _ t' => SP X pins D f t') X.xe t
      | .error z => cameBackBy (model X.prog X.w) X.A X.env X.xe z t) s := by
  obtain ⟨B, fl, k, _, na, nL, nF⟩ := c
  refine codeAny_handlers_suite_as (HandSPX.lands_againZ fl fun h fl2 up => ?_)
  obtain ⟨oe, vs, he, hz, hd⟩ := fl2.there
  have S := (k h fl2 up).suite he hd na nL nF
  refine store_ok (X := X.suite a ((a, oe) :: (X.pn ++ pins))) (v := .ref a) S hN hi (.inl hln) rfl (fun t S2 => ?_) (.inr hln)
  refine wpAny_mono ((hsu oe (X.pn ++ pins) hz ⟨_, hd⟩).run [] t _ H _ S2 w) (fun f t2 g => ?_) (fun _ _ z => False.elim z)
  cases f
  · obtain ⟨σ', H', S', q⟩ := g
    exact gone_ok (S'.unsuite ok) hN hi hln fun t3 J => ⟨_, _, J, q⟩
  · obtain ⟨σ', H', S', q⟩ := g
    exact gone_ok (S'.unsuite ok) hN hi hln fun t3 J => ⟨_, _, J, q⟩
  · obtain ⟨σ', H', S', q⟩ := g
    exact gone_ok (S'.unsuite ok) hN hi hln fun t3 J => ⟨_, _, J, q⟩
  · obtain ⟨v, σ', H', S', r, q⟩ := g
    exact gone_ok (S'.unsuite ok) hN hi hln fun t3 J => ⟨_, _, _, J, r, q⟩
def wTwo (K : PySem.W.Frag) (c1 : Value) (i : Nat) (t1 : Addr → Value → Option Addr → TS) (c2 : Value) (t2 : Addr → Value → Option Addr → TS) (Wo : WX) (D : Ends) : WX := fun cls d σ H =>
  ∃ b, PySem.W.exmOne K cls c1 = some b ∧ (b = true → ∀ a, H a = none → t1 a cls d (unE D i) (σ.set i (some (.ref a))) H) ∧
    (b = false → ∃ b', PySem.W.exmOne K cls c2 = some b' ∧ (b' = true → ∀ a, H a = none → t2 a cls d D σ H) ∧ (b' = false → Wo cls d σ H))
/-- try: body; except x1 as n: suite; except x2: suite -/
theorem ps_try_two {x1 x2 n : Str} {c1 c2 : Value} {i : Nat} {body su1 su2 : List Stmt} {b1 b2 : Stmt} {np1 np2 pos p1 p2 : Pos} {tb : WX → TS} {t1 t2 : Addr → Value → Option Addr → TS} {Wo : WX} (hs : X.stack = X.env :: X.outer) (hf : X.env.frame = some X.env.locals)
    (hN : X.N.Nodup) (hi : X.N[i]? = some n) (hln : X.env.kindOf n = some .local) (n1 : Names X x1 c1) (n2 : Names X x2 c2) (tk : Takes X Wo)
    (hb : ∀ (W : WX) (pn : List (Addr × Obj)) (xe : Value → Shared → Prop), Takes (X.tr pn xe) W → PassesOwn (model X.prog X.w) X.A X.env xe → PSs (X.tr pn xe) body (tb W))
    (h1 : ∀ (a : Addr) (oe : Obj) (cls : Value) (d : Option Addr) (pn : List (Addr × Obj)), Zc cls d oe → (∃ vs, oe.data = .fields vs) → PSs (X.suite a ((a, oe) :: pn)) (b1 :: su1) (t1 a cls d))
    (h2 : ∀ (a : Addr) (oe : Obj) (cls : Value) (d : Option Addr) (pn : List (Addr × Obj)), Zc cls d oe → (∃ vs, oe.data = .fields vs) → PSs (X.suite a ((a, oe) :: pn)) (b2 :: su2) (t2 a cls d)) :
    PS X (.Try body [.ExceptHandler (some (.Name x1 np1)) (some n) (b1 :: su1) p1, .ExceptHandler (some (.Name x2 np2)) none (b2 :: su2) p2] [] [] pos) (fun D σ H => tb (wTwo X.K c1 i t1 c2 t2 Wo D) D σ H) := by
  refine ⟨fun pins s σ H D I h => ?_⟩
  have ok := I.ok
  have hfr : X.A.frames = some (X.env :: X.outer) := by rw [ok.frames, hs]
  refine wpAny_Try_except (wpAny_mono ((hb (wTwo X.K c1 i t1 c2 t2 Wo D) (X.pn ++ pins) _ (fun u t xx => ?_) PassesOwn.looking).run [] s σ H D (I.toTry _) h) (fun f t g => ?_) (fun e t he => he))
  · obtain ⟨a, B, sI, pins', σ', H', cls, d, rfl, J', nb, up, sky, na, os, ag, b, hb1, yes, no⟩ := xx
    have J : Inv X pins σ' H' sI := J'.ofTry ok
    have sky' : Sky B (X.env :: X.outer) a (Zc cls d) X.env.locals t.heap := by rw [← hs]; exact sky
    change wpAny (model X.prog X.w) X.A (noteFrame (.ref a) X.env) _ _ _
    refine Sky.land Zc.steady hfr hf sky' fun h3 fl up3 => ?_
    have away : a ∉ frs (X.env :: X.outer) := fun hm => by
      obtain ⟨oe, vs, he, _, hd⟩ := fl.there
      obtain ⟨_, o', e', hnf⟩ := fl.2.2.1.mem hm
      rw [he] at e'
      cases e'
      exact hnf _ hd
    have C : Caught X Wo pins a cls d σ' H' { t with heap := h3 } := by
      refine ⟨B, fl, fun h4 fl4 up4 => J.landed nb fl4.1 ((up.trans up3).trans up4) os ag, fun h4 hh4 up4 w => tk _ _ ?_, na, fun z => away ?_, fun hm => away ?_⟩
      · exact ⟨a, B, sI, pins, σ', H', cls, d, rfl, J, nb, (up.trans up3).trans up4, .inr (.inr (by rw [hs]; exact hh4)), na, os, ag, w⟩
      · exact List.mem_filterMap.mpr ⟨X.env, List.mem_cons_self, by rw [hf, z]⟩
      · obtain ⟨e, he, q⟩ := List.mem_filterMap.mp hm
        exact List.mem_filterMap.mpr ⟨e, List.mem_cons_of_mem _ he, q⟩
    refine C.test n1 hb1 (fun e => C.named ok hN hi hln (fun oe pn => h1 a oe cls d pn) (yes e a na)) (fun e => ?_) (by simp)
    obtain ⟨b', hb2, yes2, no2⟩ := no e
    exact C.test n2 hb2 (fun e => C.plain ok (fun oe pn => h2 a oe cls d pn) (yes2 e a na)) (fun e => C.on hf (no2 e)) (by simp)
  · cases f
    · obtain ⟨σ', H', J', q⟩ := g
      exact wpAny_execs_nil ⟨σ', H', J'.ofTry ok, q⟩
    · obtain ⟨σ', H', J', q⟩ := g
      exact ⟨σ', H', J'.ofTry ok, q⟩
    · obtain ⟨σ', H', J', q⟩ := g
      exact ⟨σ', H', J'.ofTry ok, q⟩
    · obtain ⟨v, σ', H', J', r, q⟩ := g
      exact ⟨v, σ', H', J'.ofTry ok, r, q⟩
end L2

namespace L2
open PySem PySem.Spec PyProof.Rows
section
variable {M : Model} {A : Around} {E : Value → Shared → Prop} {s : Shared}
/-- a loop of the model's own in which each turn hands on what it got -/
theorem loop_all {α β : Type} {f : α → β → Sem (ForInStep β)} {u : β} {Q : β → Shared → Prop} : ∀ (l : List α), (∀ c ∈ l, ∀ R : ForInStep β → Shared → Prop, R (.yield u) s → wpAny M A (f c u) R E s) → Q u s → wpAny M A (forIn l u f) Q E s
  | [], _, q => by
    rw [List.forIn_nil]
    exact wpAny_pure q
  | c :: r, h, q => by
    rw [List.forIn_cons]
    exact wpAny_bind (h c List.mem_cons_self _ (loop_all r (fun d hd => h d (List.mem_cons_of_mem _ hd)) q))
/-- one that ends at the first hit -/
theorem loop_hit {α β : Type} {f : α → β → Sem (ForInStep β)} {g : α → Bool} {u v : β} {Q : β → Shared → Prop} : ∀ (l : List α), (∀ c ∈ l, ∀ R : ForInStep β → Shared → Prop, R (bif g c then .done v else .yield u) s → wpAny M A (f c u) R E s) →
    Q (bif l.any g then v else u) s → wpAny M A (forIn l u f) Q E s
  | [], _, q => by
    rw [List.forIn_nil]
    exact wpAny_pure q
  | c :: r, h, q => by
    rw [List.forIn_cons]
    refine wpAny_bind (h c List.mem_cons_self _ ?_)
    rw [List.any_cons] at q
    cases e : g c with
    | true =>
      rw [e] at q
      exact wpAny_pure q
    | false =>
      rw [e] at q
      exact loop_hit r (fun d hd => h d (List.mem_cons_of_mem _ hd)) q
end
theorem exm_of {K : PySem.W.Frag} {cls : Value} : ∀ (cs : List Value) (b : Bool), PySem.W.exmAny K cls cs = some b → (∀ c ∈ cs, ∃ d, PySem.W.exmOne K cls c = some d) ∧ b = cs.any fun c => (PySem.W.exmOne K cls c).getD false
  | [], b, h => ⟨fun c hc => (by cases hc), (by cases h; rfl)⟩
  | c :: r, b, h => by
    obtain ⟨b1, d1, h1, h2, e⟩ := PySem.W.exmAny_cons h
    obtain ⟨q1, q2⟩ := exm_of r d1 h2
    refine ⟨fun x hx => ?_, ?_⟩
    · rcases List.mem_cons.mp hx with rfl | hx
      · exact ⟨_, h1⟩
      · exact q1 x hx
    · rw [List.any_cons, h1, e, q2]
      rfl
theorem exm_list {M : Model} {K : PySem.W.Frag} {cls : Value} {tp e : Addr} {b : Bool} {h : Heap} {cs : List Value} (kin : K.In h) (tyE : PySem.W.Looks M h (typeOf (.ref e)) cls)
    (at_ : h.get? tp = some { cls := .type "tuple", data := .seq cs.toArray }) (q : PySem.W.exmAny K cls cs = some b) : PySem.W.Looks M h (excMatches (.ref e) (.ref tp)) b := by
  obtain ⟨all, rfl⟩ := exm_of cs b q
  have isT : PySem.W.Looks M h (isInstance (.ref tp) (.type "tuple")) true := ((PySem.W.Looks.ld at_).andThen .now).andThen (.of_pure isSubtype_tuple_tuple)
  intro A Q E s k fin
  unfold excMatches
  refine wpAny_bind ((isT.keeps k).here ?_)
  rw [if_pos rfl]
  refine wpAny_bind (wpAny_seqItems (k _ _ at_) rfl ?_)
  refine wpAny_bind (wpAny_pure ?_)
  show wpAny M A ((forIn cs PUnit.unit _ : Sem PUnit) >>= _) Q E s
  refine wpAny_bind (loop_all cs (fun c hc R r => ?_) ?_)
  · obtain ⟨d, hd⟩ := all c hc
    obtain ⟨e1, _⟩ := PySem.W.exm_cls (M := M) kin hd
    refine wpAny_bind ((e1.keeps k).here ?_)
    rw [if_neg (by decide)]
    exact wpAny_pure r
  refine wpAny_bind ((tyE.keeps k).here ?_)
  refine wpAny_bind (loop_hit (g := fun c => (PySem.W.exmOne K cls c).getD false) (v := (some true, ())) cs (fun c hc R r => ?_) ?_)
  · obtain ⟨d, hd⟩ := all c hc
    obtain ⟨_, e2⟩ := PySem.W.exm_cls (M := M) kin hd
    rw [hd] at r
    refine wpAny_bind ((e2.keeps k).here ?_)
    cases d with
    | true => exact wpAny_pure r
    | false => exact wpAny_pure r
  · cases e : cs.any fun c => (PySem.W.exmOne K cls c).getD false with
    | true =>
      rw [e] at fin
      exact wpAny_pure fin
    | false =>
      rw [e] at fin
      exact wpAny_pure fin
/-! ### an exception that is kept behind its clause -/
/-- the exception at a: its class, its dict -/
def exI (a : Addr) (cls : Value) (d : Option Addr) : HO := .ext fun h => ∃ (oe : Obj) (vs : Array Value), h.get? a = some oe ∧ oe.cls = cls ∧ oe.dict = d ∧ oe.data = .fields vs
theorem exI_ok {P : Program} {w : World} {H : Hp} {h : Heap} {a : Addr} {cls : Value} {d : Option Addr} {oe : Obj} (at_ : h.get? a = some oe) (z : Zc cls d oe) (f : ∃ vs, oe.data = .fields vs) : ObjOk P w H h a (exI a cls d) := by
  obtain ⟨vs, f⟩ := f
  refine ⟨⟨oe, vs, at_, z.1, z.2, f⟩, ⟨oe, at_⟩, fun h1 h2 q k => ?_⟩
  obtain ⟨o1, ws, e1, e2, e3, e4⟩ := q
  exact ⟨o1, ws, k _ e1, e2, e3, e4⟩
section
variable {X : Cx} {pins : List (Addr × Obj)} {σ : St} {H : Hp} {s : Shared}
/-- an object that is not tracked is tracked from now on -/
theorem Inv.track {a : Addr} {o : HO} (I : Inv X pins σ H s) (na : H a = none) (ok : ObjOk X.prog X.w (upd H a o) s.heap a o) (young : ∀ u, X.s_0.heap.get? a = some u → X.H_0 a = none → a ∈ X.ex)
    (nL : X.env.locals ≠ a) (nC : ∀ x c, X.env.cells.lookup x = some c → c ≠ a) (nP : ∀ p ∈ X.pn ++ pins, p.1 ≠ a) : Inv X pins σ (upd H a o) s where
  ok := I.ok
  os := I.os
  bare := I.bare
  base := by
    have stays : ∀ b u, H b = some u → upd H a o b = some u := fun b u e => by
      rw [upd_ne (ne_of_none e na)]
      exact e
    refine ⟨I.base.keep, I.base.slot, fun b u e n nx => ?_, I.base.there, fun b xs e => stays b _ (I.base.tups b xs e), fun b u v e => stays b _ (I.base.frzs b u v e), fun b ps e => ?_⟩
    · by_cases hb : b = a
      · subst hb
        exact absurd (young u e n) nx
      · rw [upd_ne hb]
        exact I.base.free b u e n nx
    · obtain ⟨more, q⟩ := I.base.tbls b ps e
      exact ⟨more, stays b _ q⟩
  loc := I.loc
  cell := I.cell
  free := by
    rw [upd_ne nL]
    exact I.free
  freeC := fun x c e => by
    rw [upd_ne (nC x c e)]
    exact I.freeC x c e
  pin := fun p hp => by
    obtain ⟨p1, p2, p3⟩ := I.pin p hp
    refine ⟨p1, ?_, p3⟩
    rw [upd_ne (nP p hp)]
    exact p2
  hok := fun b u e => by
    by_cases hb : b = a
    · subst hb
      rw [upd_same] at e
      cases e
      exact ok
    · rw [upd_ne hb] at e
      have stays : ∀ c v, H c = some v → upd H a o c = some v := fun c v q => by
        rw [upd_ne (ne_of_none q na)]
        exact q
      exact (I.hok b u e).stay (fun _ _ _ q => q) (fun c q => stays c _ q) fun c xs q => stays c _ q
  len := I.len
end
theorem flying_up {B h h' : Heap} {l : List Env} {a : Addr} {Z : Obj → Prop} (fl : HandSPX.FlyingZ B l a Z h) (k : ∀ b o, h.get? b = some o → h'.get? b = some o) : HandSPX.FlyingZ B l a Z h' := by
  obtain ⟨f1, f2, f3, oe, vs, T, oT, ts, e1, e2, e3, e4, e5, e6, e7, e8⟩ := fl
  exact ⟨fun b o e => k _ _ (f1 b o e), f2, Heap.FunFrames.of_keeps (fun b o e _ => ⟨o, k b o e, rfl⟩) f3, oe, vs, T, oT, ts, k _ _ e1, e2, e3, e4, e5, e6, k _ _ e7, e8⟩
section
variable {X : Cx} {Wo : WX} {pins : List (Addr × Obj)} {a : Addr} {cls : Value} {d : Option Addr} {σ : St} {H : Hp} {s : Shared} {D : Ends}
theorem Caught.more (c : Caught X Wo pins a cls d σ H s) {h' : Heap} (k : ∀ b o, s.heap.get? b = some o → h'.get? b = some o) : Caught X Wo pins a cls d σ H { s with heap := h' } := by
  obtain ⟨B, fl, q1, q2, r⟩ := c
  have up : s.heap.UpToSlots h' := Heap.UpToSlots.of_keeps k
  exact ⟨B, flying_up fl k, fun h f u => q1 h f (up.trans u), fun h f u w => q2 h f (up.trans u) w, r⟩
inductive NamesL (X : Cx) : List Expr → List Value → Prop
  | nil : NamesL X [] []
  | cons {x : Str} {c : Value} {np : Pos} {es : List Expr} {cs : List Value} (h : Names X x c) (r : NamesL X es cs) : NamesL X (.Name x np :: es) (c :: cs)
/-- the names of a clause's tuple -/
theorem NamesL.run {pos : Pos} {E : Value → Shared → Prop} {Q : List Value → Shared → Prop} {oe : Obj} {pn : List (Addr × Obj)} (S : Inv (X.suite a ((a, oe) :: pn)) [] σ H s) : ∀ {es : List Expr} {cs : List Value}, NamesL X es cs → Q cs s →
    wpAny (model X.prog X.w) (X.A.mark (some (.ref a))) (spliced (backTo pos (starEach es X.env))) Q E s := by
  intro es cs n
  induction n generalizing Q with
  | nil => exact fun q => Calls.spliced_nil q
  | @cons x c np es cs hx _ ih =>
    intro q
    show wpAny _ _ (spliced ((false, eval (.Name x np) X.env) :: backTo pos (starEach es X.env))) _ _ s
    refine Calls.spliced_cons ?_
    have step : wpAny (model X.prog X.w) (X.A.mark (some (.ref a))) (spliced (backTo pos (starEach es X.env))) (fun vs s₂ => Q (c :: vs) s₂) E s := ih q
    obtain ⟨hg, hdb, hm | ⟨hm, hv, hn⟩⟩ := hx
    · exact ld_glob (X := X.suite a ((a, oe) :: pn)) S hg hm step hdb
    · exact ld_blt (X := X.suite a ((a, oe) :: pn)) S hg hm hv step hn hdb
/-- what a suite with a name is to reach: the name goes, the exception is told of -/
def keE (D : Ends) (i : Nat) (a : Addr) (cls : Value) (d : Option Addr) : Ends where
  nx := fun σ H => H a = none → D.nx (σ.set i none) (upd H a (exI a cls d))
  rt := fun _ _ => False
def wAsT (K : PySem.W.Frag) (cs : List Value) (i n : Nat) (ts : Addr → Value → Option Addr → TS) (Wo : WX) (D : Ends) : WX := fun cls d σ H =>
  ∃ b, PySem.W.exmAny K cls cs = some b ∧ (b = true → ∀ a, H a = none → σ.length = n → ts a cls d (keE D i a cls d) (σ.set i (some (.ref a))) H) ∧ (b = false → Wo cls d σ H)
/-- try: body; except (A, B, ..) as n: suite; the exception may be kept -/
theorem ps_try_asT {es : List Expr} {cs : List Value} {n : Str} {i j : Nat} {body su : List Stmt} {b1 : Stmt} {np pos p1 : Pos} {tb : WX → TS} {t1 : Addr → Value → Option Addr → TS} (hs : X.stack = X.env :: X.outer) (hf : X.env.frame = some X.env.locals)
    (hN : X.N.Nodup) (hi : X.N[i]? = some n) (hln : X.env.kindOf n = some .local) (ns : NamesL X es cs) (hz : cs.length ≤ sizeLine) (tk : Takes X Wo)
    (hb : ∀ (W : WX) (pn : List (Addr × Obj)) (xe : Value → Shared → Prop), Takes (X.tr pn xe) W → PassesOwn (model X.prog X.w) X.A X.env xe → PSs (X.tr pn xe) body (tb W))
    (h1 : ∀ (a : Addr) (oe : Obj) (cls : Value) (d : Option Addr) (pn : List (Addr × Obj)), Zc cls d oe → (∃ vs, oe.data = .fields vs) → PSs (X.suite a ((a, oe) :: pn)) (b1 :: su) (t1 a cls d)) :
    PS X (.Try body [.ExceptHandler (some (.Tuple es j np)) (some n) (b1 :: su) p1] [] [] pos) (fun D σ H => tb (wAsT X.K cs i X.N.length t1 Wo D) D σ H) := by
  refine ⟨fun pins s σ H D I h => ?_⟩
  have ok := I.ok
  have hfr : X.A.frames = some (X.env :: X.outer) := by rw [ok.frames, hs]
  refine wpAny_Try_except (wpAny_mono ((hb (wAsT X.K cs i X.N.length t1 Wo D) (X.pn ++ pins) _ (fun u t xx => ?_) PassesOwn.looking).run [] s σ H D (I.toTry _) h) (fun f t g => ?_) (fun e t he => he))
  · obtain ⟨a, B, sI, pins', σ', H', cls, d, rfl, J', nb, up, sky, na, os, ag, b, hb1, yes, no⟩ := xx
    have J : Inv X pins σ' H' sI := J'.ofTry ok
    have sky' : Sky B (X.env :: X.outer) a (Zc cls d) X.env.locals t.heap := by rw [← hs]; exact sky
    change wpAny (model X.prog X.w) X.A (noteFrame (.ref a) X.env) _ _ _
    refine Sky.land Zc.steady hfr hf sky' fun h3 fl up3 => ?_
    have away : a ∉ frs (X.env :: X.outer) := fun hm => by
      obtain ⟨oe, vs, he, _, hd⟩ := fl.there
      obtain ⟨_, o', e', hnf⟩ := fl.2.2.1.mem hm
      rw [he] at e'
      cases e'
      exact hnf _ hd
    have ground : ∀ o, sI.heap.get? a = some o → False := fun o e => by
      have q := nb a o e (by rw [hs]; exact away)
      rw [fl.2.1] at q
      cases q
    have notL : a ≠ X.env.locals := fun z => away (List.mem_filterMap.mpr ⟨X.env, List.mem_cons_self, by rw [hf, z]⟩)
    have notF : a ∉ X.fs := fun hm => by
      obtain ⟨e, he, q⟩ := List.mem_filterMap.mp hm
      exact away (List.mem_filterMap.mpr ⟨e, List.mem_cons_of_mem _ he, q⟩)
    have C0 : Caught X Wo pins a cls d σ' H' { t with heap := h3 } := by
      refine ⟨B, fl, fun h4 fl4 up4 => J.landed nb fl4.1 ((up.trans up3).trans up4) os ag, fun h4 hh4 up4 w => tk _ _ ?_, na, notL, notF⟩
      exact ⟨a, B, sI, pins, σ', H', cls, d, rfl, J, nb, (up.trans up3).trans up4, .inr (.inr (by rw [hs]; exact hh4)), na, os, ag, w⟩
    have young : ∀ u, X.s_0.heap.get? a = some u → X.H_0 a = none → a ∈ X.ex := fun u e n0 => by
      refine Classical.byContradiction fun nx => ?_
      obtain ⟨o', e'⟩ := J.base.there a u e nx
      exact ground _ e'
    have nP : ∀ p ∈ X.pn ++ pins, p.1 ≠ a := fun p hp z => by
      obtain ⟨q, _⟩ := J.pin p hp
      rw [z] at q
      exact ground _ q
    -- the test: the tuple is made
    obtain ⟨oe, vs, he, hzc, hd⟩ := fl.there
    have S0 := C0.inv.suite he hd na notL notF
    refine wpAny_handleBy_cons (codeAny_handlers_test ?_) fun z => nomatch z
    refine wpAny_Tuple_spliced (ns.run S0 ⟨hz, ?_⟩)
    have C := C0.more (h' := h3.push { cls := .type "tuple", data := .seq cs.toArray }) fun b o e => Heap.get?_push_of_some _ e
    have he' : (h3.push ({ cls := .type "tuple", data := .seq cs.toArray } : Obj)).get? a = some oe := Heap.get?_push_of_some _ he
    have looks : PySem.W.Looks (model X.prog X.w) (h3.push ({ cls := .type "tuple", data := .seq cs.toArray } : Obj)) (typeOf (.ref a)) cls := fun A Q E t keep q => wpAny_typeOf_ref (keep _ _ he') (by rw [hzc.1]; exact q)
    refine (exm_list (M := model X.prog X.w) C.inv.kIn looks (Heap.get?_push_size _ rfl) hb1).here ?_
    cases b with
    | false => exact C.on hf (no rfl)
    | true =>
      obtain ⟨B2, fl2, kk, _⟩ := C
      refine codeAny_handlers_suite_as (HandSPX.lands_againZ fl2 fun h5 fl5 up5 => ?_)
      obtain ⟨oe5, vs5, he5, hz5, hd5⟩ := fl5.there
      have S5 := (kk h5 fl5 up5).suite he5 hd5 na notL notF
      refine store_ok (X := X.suite a ((a, oe5) :: (X.pn ++ pins))) (v := .ref a) S5 hN hi (.inl hln) rfl (fun t6 S6 => ?_) (.inr hln)
      refine wpAny_mono ((h1 a oe5 cls d (X.pn ++ pins) hz5 ⟨_, hd5⟩).run [] t6 _ H' _ S6 (yes rfl a na J.len)) (fun f t7 g => ?_) (fun _ _ z => False.elim z)
      cases f with
      | next =>
        obtain ⟨σ7, H7, S7, q⟩ := g
        obtain ⟨a1, a2, _⟩ := S7.pin (a, oe5) (List.mem_append_left _ List.mem_cons_self)
        have nC : ∀ x c, X.env.cells.lookup x = some c → c ≠ a := fun x c e z => by
          obtain ⟨v, o, ho, hv⟩ := S7.cell x c e
          rw [z] at ho
          rw [a1] at ho
          cases ho
          rw [hd5] at hv
          cases hv
        have T7 := (S7.unsuite ok).track a2 (exI_ok a1 hz5 ⟨_, hd5⟩) young (fun z => notL z.symm) nC nP
        exact gone_ok T7 hN hi hln fun t8 S8 => ⟨_, _, S8, q a2⟩
      | brk =>
        obtain ⟨_, _, _, q⟩ := g
        exact False.elim q
      | cont =>
        obtain ⟨_, _, _, q⟩ := g
        exact False.elim q
      | ret u =>
        obtain ⟨_, _, _, _, _, q⟩ := g
        exact False.elim q
  · cases f
    · obtain ⟨σ', H', J', q⟩ := g
      exact wpAny_execs_nil ⟨σ', H', J'.ofTry ok, q⟩
    · obtain ⟨σ', H', J', q⟩ := g
      exact ⟨σ', H', J'.ofTry ok, q⟩
    · obtain ⟨σ', H', J', q⟩ := g
      exact ⟨σ', H', J'.ofTry ok, q⟩
    · obtain ⟨v, σ', H', J', r, q⟩ := g
      exact ⟨v, σ', H', J'.ofTry ok, r, q⟩
end
end L2

namespace PySem.W
open PySem PySem.Spec PySem.Calls PyProof.Rows
/-- what an exception of an own class answers when it is asked for its class, with a dict or without -/
theorem exc_class {prog : Program} {w : World} {A : Around} {E : Value → Shared → Prop} {s : Shared} {K : Frag} {x D : Addr} {ox : Obj} {od : Option Obj} {Q : Option Value → Shared → Prop} (C : L2.ExcC K D) (kin : K.In s.heap) (J : InstAt s.heap x ox D od)
    (q : Q (some (.ref D)) { s with toks := s.toks + 1 }) : wpAny (model prog w) A (getAttr? (.ref x) "__class__") Q E s := by
  have found : findObj K D od "__class__" = some (.bind (.builtin "getset_descriptor.__get__") (.builtin "object.__class__")) := by
    obtain ⟨cd, hc, _⟩ := any_some C.hd
    unfold findObj
    rw [hc, Option.bind_some, C.ha, Option.bind_some]
    simp [C.hn, C.ht]
  obtain ⟨hp, gs, dr, tk, os⟩ := s
  have lt := J.type (M := model prog w)
  have sub : Looks (model prog w) hp (isInstance (.ref x) (.type "BaseException")) true := lt.andThen (looks_subIn kin C.hs)
  have other : (Value.builtin "BaseException.__getattribute__" == Value.builtin "object.__getattribute__") = false := by decide +kernel
  have other2 : (onTheHeap (Value.ref D) && Value.builtin "BaseException.__getattribute__" == Value.builtin "object.__getattribute__") = false := by
    rw [other]
    rfl
  unfold getAttr? getAttrBy? getAttrBy
  refine wpAny_bind (wpAny_mkText (wpAny_bind (wpAny_attempt (wpAny_holding (wpAny_bind (lt.at (wpAny_bind ((looks_findIn (M := model prog w) kin C.hg).at ?_))))))))
  show wpAny _ _ (if (onTheHeap (Value.ref D) && Value.builtin "BaseException.__getattribute__" == Value.builtin "object.__getattribute__") = true then _ else _) _ _ _
  rw [other2, if_neg Bool.false_ne_true]
  unfold getAttrByItsOwn hookBefore
  refine wpAny_bind ?_
  rw [if_pos (show onTheHeap (Value.ref D) = true from rfl)]
  refine (looks_findIn (M := model prog w) kin C.hk).at (wpAny_bind (wpAny_attempt (wpAny_holding ?_)))
  unfold callGetattribute
  rw [show (false && onTheHeap (Value.builtin "BaseException.__getattribute__")) = false from rfl, if_neg Bool.false_ne_true]
  unfold boundAndCalled
  rw [PySem.F.excAttr_ValueError.ga.bind (.ref x)]
  refine wpAny_bind (wpAny_pure ?_)
  show wpAny _ _ (call (.builtin "BaseException.__getattribute__") [.ref x, .str "__class__" tk]) _ _ _
  refine wpAny_call (codeAny_call_builtin PySem.F.excAttr_ValueError.ga.plain PySem.F.entry_bexc_ga (@check_slot (model prog w) _ _ ⟨hp, gs, dr, tk + 1, os⟩ "BaseException.__getattribute__" "BaseException" "__getattribute__" (.ref x) [.str "__class__" tk] [] _ (by decide +kernel) (by decide +kernel) sub
    (PySem.F.args_bexc_ga (.ref x) (.str "__class__" tk)) ?_))
  unfold Builtin.«object.__getattribute__»
  refine wpAny_bind (wpAny_of_eq (a := ((Value.ref x : Value), [Value.str "__class__" tk])) (by first | rfl | (simp only [slotArgs]; rfl)) (wpAny_bind (wpAny_pure (wpAny_bind (lt.at (wpAny_bind ((looks_find (M := model prog w) kin J found).at ?_)))))))
  show wpAny _ _ (holding [Value.builtin "object.__class__"] (call (.builtin "getset_descriptor.__get__") [.builtin "object.__class__", .ref x, .ref D]) >>= ret) _ _ _
  refine wpAny_bind (wpAny_holding (wpAny_call (class_get (s := ⟨hp, gs, dr, tk + 1, os⟩) (ox := ox) (od := od) kin J C.hm (wpAny_pure ?_))))
  show wpAny _ _ (handedOut (.ref D)) _ _ _
  rw [handedOut_of (v := .ref D) rfl]
  first
    | exact wpAny_pure (wpAny_pure q)
    | exact wpAny_pure q
    | exact wpAny_pure (wpAny_bind (wpAny_pure (wpAny_pure q)))
end PySem.W
namespace L2
open PySem PySem.Spec PyProof.Rows LamX
section
variable {K : PySem.W.Frag} {D C : Addr}
theorem kit_me : PySem.W.kitOne K (.ref D) (.ref D) = some true := by
  unfold PySem.W.kitOne
  rw [if_pos (beq_self_eq_true _)]
theorem kit_apart (te : PySem.W.exmOne K (.ref D) (.ref D) = some true) (y : PySem.W.exmOne K (.ref D) (.ref C) = some false) : PySem.W.kitOne K (.ref D) (.ref C) = some false := by
  have ne : ¬ ((Value.ref D == Value.ref C) = true) := fun z => by
    have e : D = C := Value.ref.inj (beq_iff_eq.mp z)
    rw [← e, te] at y
    cases y
  unfold PySem.W.kitOne
  rw [if_neg ne]
  unfold PySem.W.exmOne at y
  split at y
  · exact y
  · cases y
end
/-- the exception of H at a and its object -/
theorem exI_at {X : Cx} {pins : List (Addr × Obj)} {σ : St} {H : Hp} {s : Shared} {a D : Addr} {d : Option Addr} (I : Inv X pins σ H s) (h : H a = some (exI a (.ref D) d)) (hd : d = none ∨ ∃ dx fs, d = some dx ∧ H dx = some (.xd fs)) :
    ∃ ox od, PySem.W.InstAt s.heap a ox D od ∧ (d = none → od = none) ∧ ∀ dx, d = some dx → ∃ o, od = some o ∧ s.heap.get? dx = some o := by
  have z := I.hok a _ h
  obtain ⟨⟨oe, vs, e1, e2, e3, e4⟩, _⟩ := z
  have no : PySem.W.notCls oe = true := by
    unfold PySem.W.notCls
    rw [e4]
  rcases hd with rfl | ⟨dx, fs, rfl, hx⟩
  · exact ⟨oe, none, ⟨e1, e2, no, (by rw [e3]; trivial)⟩, fun _ => rfl, fun dx q => (by cases q)⟩
  · have x := I.hok dx _ hx
    obtain ⟨mA, hns, _⟩ := x
    obtain ⟨od, _, _, ho, _⟩ := id hns
    exact ⟨oe, some od, ⟨e1, e2, no, (by rw [e3]; exact ho)⟩, fun q => (by cases q), fun d2 q => (by cases q; exact ⟨od, rfl, ho⟩)⟩
/-- isinstance(e, c), e an exception that is kept -/
def rIsX (K : PySem.W.Frag) : List V → Hp → VK → Prop := fun xs H Q => ∃ (a D : Addr) (d : Option Addr) (C : Addr) (b : Bool), xs = [.ref a, .ref C] ∧ H a = some (exI a (.ref D) d) ∧ (d = none ∨ ∃ dx fs, d = some dx ∧ H dx = some (.xd fs)) ∧ ExcC K D ∧
  PySem.W.kitOne K (.ref D) (.ref C) = some b ∧ Q (.bl b) H
theorem k_isX {X : Cx} {K : PySem.W.Frag} (e : X.K = K := by rfl) : CallR X (.builtin "isinstance") (rIsX K) := by
  subst e
  intro pins s σ H xs us Q I r h
  obtain ⟨a, D, d, C, b, rfl, ha, hd, EC, kit, q⟩ := h
  cases r with
  | cons r1 rr =>
  cases rr with
  | cons r2 rr =>
  cases rr
  cases r1
  cases r2
  obtain ⟨ox, od, J, _⟩ := exI_at I ha hd
  have look : PySem.W.KitX X.K (.ref a) (.ref D) (fun h => PySem.W.InstAt h a ox D od) := by
    obtain ⟨cd, hcd, _⟩ := PySem.W.any_some EC.hd
    have at_ : ∃ c1 d1 cd1 sl1, X.K.lookup D = some ⟨c1, d1, .cls cd1, sl1⟩ := by
      unfold PySem.W.clsIn at hcd
      split at hcd
      · rename_i c1 d1 cd1 sl1 ho
        exact ⟨_, _, _, _, ho⟩
      · cases hcd
    obtain ⟨c1, d1, cd1, sl1, lk⟩ := at_
    refine ⟨fun _ _ _ J => J.type, fun M h kin _ => fun A' Q' E' s' k q => ?_, fun h tp dd its n sl kin htp => Bool.eq_false_iff.mpr fun z => ?_, fun kin J q => PySem.W.exc_class EC kin J q⟩
    · unfold isType loadHead
      exact wpAny_bind (wpAny_loadPart (k _ _ (kin _ _ lk)) (wpAny_pure q))
    · have z2 : D = tp := Value.ref.inj (beq_iff_eq.mp z)
      rw [← z2, kin _ _ lk] at htp
      cases htp
  exact PySem.W.kia_one look I.kIn J kit (fun z => nomatch z) fun tk => ⟨.bl b, H, I.kept (t' := tk) fun _ _ z => z, rfl, q⟩
/-- e.n, e an exception that is kept -/
def tXh (K : PySem.W.Frag) (n : Str) (te : TE) : TE := fun σ H Q => te σ H fun x H1 => ∃ (a C dd : Addr) (fs : List (Str × V)) (v : V), x = .ref a ∧ H1 a = some (exI a (.ref C) (some dd)) ∧ XfC K C ∧ PySem.W.findIn K (.ref C) n = some none ∧
  H1 dd = some (.xd fs) ∧ fs.lookup n = some v ∧ Q v H1
theorem pe_xh {X : Cx} {K : PySem.W.Frag} {e : Expr} {te : TE} {pos : Pos} {n : Str} (he : PE X e te) (hK : X.K = K := by rfl) (hb : attributeBase e n X.env (eval e X.env) = eval e X.env := by rfl) : PE X (.Attribute e n pos) (tXh K n te) := by
  subst hK
  refine ⟨fun pins s σ H Q I h => attr_of hb (thn (he.run pins s σ H _ I h) fun u s1 hh => ?_)⟩
  obtain ⟨x, H1, I1, rx, a, C, dd, fs, v, rfl, ha, T, hno, hx, hl, q⟩ := hh
  cases rx
  obtain ⟨ox, od, J, _, at_⟩ := exI_at I1 ha (.inr ⟨dd, fs, rfl, hx⟩)
  obtain ⟨o, rfl, ho⟩ := at_ dd rfl
  have ob := I1.hok dd _ hx
  obtain ⟨mA, hns, hr⟩ := ob
  obtain ⟨o2, ho2, hl2⟩ := lookIn_ns hns
  rw [ho] at ho2
  cases ho2
  obtain ⟨u, hu, ru⟩ := RelO.some_of (v := v) (o := mA n) (by rw [← hl]; exact hr n)
  exact HandSPX.exc_get I1.kIn J T.ga T.gg T.exC (PySem.W.findObj_own T.hdC hno rfl (by rw [hl2, hu])) (handed_of ru) ⟨v, H1, I1.tok _, ru, q⟩
/-! ### f(lambda: body), where f calls defs of its own -/
def Gives (X : Cx) (Ng : List Str) (x : Str) (sg : Scope) (g : Addr) (cdg : Value) (bg : List Stmt) (a q : Str) (k : Nat) (TT : (XK → Hp → VK → Prop) → Hp → VK → Prop) : Prop :=
  ∀ (f c' : Addr) (s : Shared) (H : Hp) (Q : VK) (tl : XK → Hp → VK → Prop), Room k (X.A.deeper (envOfC x sg s.heap.objs.size g cdg)) →
    (∀ (W : WX) (pn : List (Addr × Obj)) (xe : Value → Shared → Prop) (E : XK) (p1 p2 : Pos), Takes ((cxOf C8.CX0 X.prog X.w X.K X.mg X.base Ng x sg g cdg X.A X.stack s H C8.E0).tr pn xe) W → (∀ cls d σ' H', E cls d H' → W cls d σ' H') →
      PE ((cxOf C8.CX0 X.prog X.w X.K X.mg X.base Ng x sg g cdg X.A X.stack s H C8.E0).tr pn xe) (.Call (.Name a p1) [] [] p2) (fun σZ HZ Q => σZ[0]? = some (some (.ref f)) ∧ HZ c' = some (CodeO c' q) ∧ tl E HZ Q)) →
    H c' = some (CodeO c' q) → TT tl H Q →
    ∃ t, PSs (cxOf C8.CX0 X.prog X.w X.K X.mg X.base Ng x sg g cdg X.A X.stack s H C8.E0).nox bg t ∧ t { nx := fun _ H' => Q .non H', rt := Q } (L2.start Ng [.ref f]) H
theorem pe_lam {X : Cx} {TT : (XK → Hp → VK → Prop) → Hp → VK → Prop} {x a : Str} {st : Stmt} {g c P : Addr} {fd : FuncData} {k : Nat} {Ng : List Str} {params : Arguments} {body : Expr} {scope : Scope} {t : XK → TE} {p lpos pos : Pos}
    (hg : Gl X x) (hm : X.mg x = some (.ref g)) (F : Fun X.K x x st g fd) (hb : L2.Binds X.K fd [a] []) (Sg : FnScope Ng [a] (defScope st)) (hNg : Ng[0]? = some a) (hva : Vis (defScope st) a)
    (hG : ∀ cdg, Gives X Ng x (defScope st) g cdg (defBody st) a (X.env.qual ++ "<lambda>") (k + 1) TT)
    (TB : TabB X.base X.mg c P) (hcode : X.env.code = .ref c) (hr : Room (k + 2) X.A) (L : LamS X.env.scope scope) (hdef : defaultsOf params X.env = ([], []))
    (hbind : ∀ (q : Str) (cl : List (Str × Addr)) (pm cv ctv : Value), bindArgs (PySem.W.kla_fn "<lambda>" q params body scope cl pm cv ctv) ⟨[], []⟩ = pure [])
    (hbody : ∀ (A : Around) (outer : List Env) (s : Shared) (H : Hp) (E : XK) (f c' : Addr), Room k (A.deeper (lamEnv X scope s.heap.objs.size f c')) → PE (lamCx X A outer s H E scope f c') body (t E))
    (hdb : (x == ("__debug__" : Str)) = false := by decide) (hd : (a == ("__debug__" : Str)) = false := by decide) (hcd : (a == ("__classdict__" : Str)) = false := by decide) :
    PE X (.Call (.Name x p) [.Lambda params body scope lpos] [] pos) (tLam [(P, X.env.qual ++ "<lambda>")] TT t) := by
  obtain ⟨oc, od, kV, doc, pm, an, cdv, ct, osl, rfl, lk, hcg⟩ := F.ex
  refine ⟨fun pins s σ H Q I ask => ?_⟩
  obtain ⟨tabs, ask⟩ := ask
  have only : ∀ p ∈ [(P, X.env.qual ++ "<lambda>")], p.1 = P → p.2 = X.env.qual ++ "<lambda>" := fun p hp _ => by rw [List.mem_singleton.mp hp]
  refine wpAny_Call_Name_kw (ld_glob I hg hm (PySem.W.callWith_K (h₀ := X.base) I.ok.mod.kin F.kp ?_ (by rfl) (by rfl)) hdb)
  change wpAny _ _ (spliced ((false, eval (.Lambda params body scope lpos) X.env) :: backTo pos (starEach [] X.env))) _ _ s
  refine Calls.spliced_cons (lam_make2 I TB hcode List.mem_cons_self only tabs hdef (L.has I.ok) fun f c' pm' ctv H1 s' I1 grown T1 hf hfn hfr hco => Calls.spliced_nil ⟨I1.kIn, ?_⟩)
  have called : codeAny (model X.prog X.w) X.A (.call (.ref g) ⟨[.ref f], []⟩) (CR C8.CX0 X.stack X.prog X.w H1 s' Q C8.E0) s' := by
    refine run_ofS (N := Ng) (ps := [a]) (us := [.ref f]) (vs := [.ref f]) lk hcg Sg hr I1.env0 (hb s' [.ref f] I1.kIn rfl) (.cons rfl .nil) rfl fun room => ?_
    obtain ⟨u, walk, want⟩ := hG cdv f c' s' H1 Q (fun E H' Q' => t E σ H' Q') room (fun W pn xe E p1 p2 tk hW => pe_act (i := 0) I1 L hf hfn hfr (hbind _ _ _ _ _) tk hW room (fun A outer s H r2 => hbody A outer s H E f c' r2) hNg hva hd hcd) hco (ask H1 grown T1)
    exact ⟨u, walk.nox, want⟩
  refine wpAny_call (codeAny_mono called fun r s2 z => ?_)
  match r, z with
  | .ok (.ret u), z => exact I1.after z
  | .error e, z => exact (show False from z).elim
  | .ok .next, z => exact z.elim
  | .ok .brk, z => exact z.elim
  | .ok .cont, z => exact z.elim
end L2

/-! A law that holds lambdas of its own: its def, its code object's table, its end. -/
namespace L2
open PySem PySem.Spec PyProof.Rows LamX
/-- a def whose code object is known -/
structure FunL (K : PySem.W.Frag) (x qual : Str) (st : Stmt) (f : Addr) (fd : FuncData) (c : Addr) : Prop where
  ex : ∃ (oc : Value) (od : Option Addr) (kV doc pm : Value) (an : Option Addr) (ct : Value) (osl : Array (Option Value)),
    fd = PySem.W.fnOf x qual (defArgs st) (defBody st) (defScope st) .none kV doc pm an (.ref c) ct ∧ K.lookup f = some ⟨oc, od, .func fd, osl⟩ ∧ PySem.W.codeIn K (.ref c) qual = true
section
variable {P : Program} {w : World} {K : PySem.W.Frag} {mg : Str → Option Value} {base : Heap}
theorem _root_.L2.FunL.okG {x qual : Str} {st : Stmt} {f c : Addr} {fd : FuncData} {N ps : List Str} {k : Nat} {sp : Sp} (F : FunL K x qual st f fd c)
    (S : FnScope N ps (defScope st)) (len : ∀ vs H Q E, sp vs H Q E → vs.length = ps.length)
    (body : ∀ (A : Around) (outer : List Env) (s : Shared) (H : Hp) (vs : List V) (Q : VK) (E : XK),
      Room k (A.deeper (envOfC qual (defScope st) s.heap.objs.size f (.ref c))) → A.guards = some [] → sp vs H Q E →
      ∃ t, PSs (cxOf CX0 P w K mg base N qual (defScope st) f (.ref c) A outer s H E).nox (defBody st) t ∧
        t { nx := fun _ H' => Q .non H', rt := Q } (start N vs) H) : FnG P w K mg base (k + 1) f fd ps sp := by
  obtain ⟨oc, od, kV, doc, pm, an, ct, osl, rfl, lk, hcd⟩ := F.ex
  refine ⟨len, fun A outer s H args us vs Q E room hg env binds rel ask => ?_⟩
  obtain ⟨t, walk, want⟩ := body A outer s H vs Q E (room.deeper (envOfC qual (defScope st) s.heap.objs.size f (.ref c))) hg ask
  have kin : K.In s.heap := env.mod.kin.keeps fun b o e => (env.bs b o e).1
  refine codeAny_call_function room.depth (kin _ _ lk) rfl S.co S.gen rfl (PySem.W.codeRec_of kin hcd) (binds _ _ _ _ ?_)
  refine wpAny_newFunctionEnv_cells S.kind (fun y hy => ?_) fun e he s1 begun => ?_
  · obtain ⟨n, v⟩ := y
    have hn := S.par n (List.of_mem_zip hy).1
    rcases hn with q | q
    · exact Or.inl q
    · exact Or.inr ⟨q, PySem.W.cellsFrom_some _ _ _ (Or.inl q)⟩
  subst he
  have lim : s.heap.NoLimit := env.mod.nolimit.keeps fun b o e => (env.bs b o e).1
  refine And.intro (lim.keeps begun.toInCall.keep) (codeAny_func ?_)
  have inv := inv_start (CX := CX0) (E := E) S room.hd env (len _ _ _ _ ask) rel begun
  refine wpAny_mono (walk.nox.run [] s1 (start N vs) H _ inv want) (fun fl s' ends => ?_) (fun _ _ z => z)
  match fl, ends with
  | .next, ⟨_, H', J, q⟩ => exact ⟨V.non, H', J.os, J.bare, J.base, J.hok, rfl, q⟩
  | .ret u, ⟨v, _, H', J, r, q⟩ => exact ⟨v, H', J.os, J.bare, J.base, J.hok, r, q⟩
  | .brk, ⟨_, _, _, q⟩ => cases q
  | .cont, ⟨_, _, _, q⟩ => cases q
end
section
variable {P : Program} {w : World} {K : PySem.W.Frag} {mg mb : Str → Option Value} {k : Nat} {fa a c T : Addr} {fd : FuncData} {x : Str} {sp : Sp}
  {z : Shared} {vs : List Value} {ns : List Int}
/-- what is tracked at the start: the table, the script at most -/
def OnlyT (T : Addr) (H : Hp) : Prop := H T = some (.tbl #[]) ∧ ∀ b, b ≠ T → H b = none ∨ ∃ o xs, H b = some (.frz o (.lst xs))
theorem tab_core (kin : K.In z.heap) (hns : z.heap.Ns mainGlobals mg) (hb : z.heap.Ns builtinsNs mb) (hbb : ∀ x : Str, x ≠ "__name__" → mb x = bootBuiltins x)
    (hlim : z.heap.NoLimit) (hg : z.gens = #[]) (tab : z.heap.get? T = some (PySem.W.tabObj #[])) (notT : K.lookup T = none) (hd : PySem.W.CodeHd z.heap c T)
    (hbm : ∃ (bm : Addr) (ob : Obj), mg "__builtins__" = some (.ref bm) ∧ bm ≠ builtinsNs ∧ z.heap.get? bm = some ob ∧ ob.cls = .type "module" ∧ ob.dict = some builtinsNs ∧ ob.data = .plain)
    (ha : z.heap.get? a = some { cls := .type "list", data := .seq vs.toArray }) (hr : Room k callerA)
    (F : ∀ base : Heap, K.In base → base.Ns mainGlobals mg → TabB base mg c T → FnG P w K mg base k fa fd [x] sp) (bind : ∀ (s : Shared) (u : Value), BindsTo s fd ⟨[u], []⟩ [(x, u)])
    (H : Hp) (ask : sp [.ref a] H (fun v _ => v = .bl true) fun _ _ _ => False) (ok : HOk P w H z.heap) (only : OnlyT T H) (atA : ∀ b, H b ≠ none → b = a ∨ b = T)
    (notK : H a ≠ none → K.lookup a = none) : codeAny (model P w) callerA (.call (.ref fa) ⟨[.ref a], []⟩) (endsTrue z) z := by
  have stays : ∀ {b : Addr} {o : Obj}, z.heap.get? b = some o → (b ≠ a ∨ H a = none) → b ≠ T → (hidT z.heap H).get? b = some o := by
    intro b o e h1 h2
    refine hidT_get e ?_
    cases q : H b with
    | none => rfl
    | some u =>
      rcases atA b (by rw [q]; exact Option.some_ne_none u) with eb | eb
      · rcases h1 with h1 | h1
        · exact absurd eb h1
        · rw [eb, h1] at q
          cases q
      · exact absurd eb h2
  -- what is neither a list nor a table is not hidden
  have other : ∀ {b : Addr} {o : Obj}, z.heap.get? b = some o → (∀ xs n, o.data ≠ .seq xs n) → o.data ≠ .fields #[] → (hidT z.heap H).get? b = some o := by
    intro b o e h1 h2
    refine stays e (.inl fun eb => ?_) fun eb => ?_
    · rw [eb, ha] at e
      cases e
      exact h1 _ _ rfl
    · rw [eb, tab] at e
      cases e
      exact h2 rfl
  have names : ∀ {b : Addr} {m : Str → Option Value}, z.heap.Ns b m → (hidT z.heap H).Ns b m := by
    rintro b m ⟨o, es, ep, e, d, r⟩
    exact ⟨o, es, ep, other e (fun xs n q => by rw [d] at q; cases q) (fun q => by rw [d] at q; cases q), d, r⟩
  have kinB : K.In (hidT z.heap H) := by
    intro b o e
    refine stays (kin b o e) ?_ fun eb => ?_
    · by_cases eb : b = a
      · refine .inr ?_
        cases q : H a with
        | none => rfl
        | some u =>
          rw [eb, notK (by rw [q]; exact Option.some_ne_none u)] at e
          cases e
      · exact .inl eb
    · rw [eb, notT] at e
      cases e
  have table : TabB (hidT z.heap H) mg c T := by
    refine ⟨?_, ?_, fun eq => ?_⟩
    · obtain ⟨o, us, d1, d2, d3, d4, d5, d6, d7, e1, r1, r2, r3, r4⟩ := hd
      refine ⟨o, us, d1, d2, d3, d4, d5, d6, d7, other e1 (fun xs n q => by rw [r2] at q; cases q) (fun q => ?_), r1, r2, r3, r4⟩
      rw [r2] at q
      cases q
      simp at r3
    · obtain ⟨bm, ob, b1, b2, b3, b4, b5, b6⟩ := hbm
      refine ⟨bm, ob, b1, b2, fun q => ?_, fun q => ?_, other b3 (fun xs n q => by rw [b6] at q; cases q) (fun q => by rw [b6] at q; cases q), b4, b5, b6⟩
      · obtain ⟨o, es, ep, e, d, _⟩ := hns
        rw [q, e] at b3
        cases b3
        rw [d] at b6
        cases b6
      · rw [q, tab] at b3
        cases b3
        cases b6
    · obtain ⟨o, es, ep, e, d, _⟩ := hns
      rw [eq, tab] at e
      cases e
      cases d
  obtain ⟨mc, l1, l2⟩ := hlim
  have M : Mod K mg (hidT z.heap H) := ⟨kinB, names hns, ⟨mb, names hb, hbb⟩, ⟨mc, names l1, l2⟩⟩
  have env : Env0 P w K mg (hidT z.heap H) callerA [] z H := by
    refine ⟨rfl, M, fun b o e => of_hidT e, Nat.le_of_eq (hidT_size _ _), trivial, ?_, ok, .of_eq hg⟩
    intro b hm
    cases hm
  refine codeAny_mono ((F _ kinB (names hns) table).go callerA [] z H ⟨[.ref a], []⟩ [.ref a] [.ref a] _ _ hr rfl env (bind z (.ref a)) (.cons rfl .nil) ask) ?_
  intro r s' res
  match r, res with
  | .error e, res => cases res
  | .ok .next, res => cases res
  | .ok .brk, res => cases res
  | .ok .cont, res => cases res
  | .ok (.ret u), ⟨v, H', os, bare, un, ok', rel, ev⟩ =>
    have ev' : v = .bl true := ev
    subst ev'
    have eu : u = Value.bool true := rel
    subst eu
    have grown : ∃ more : Array Value, s'.heap.get? T = some (PySem.W.tabObj more) := by
      obtain ⟨more, q⟩ := un.tbls T #[] only.1
      exact ⟨_, ok' T _ q⟩
    have keep : ∀ b o, b ≠ T → z.heap.get? b = some o → s'.heap.get? b = some o := fun b o nb e => by
      rcases only.2 b nb with q | ⟨ob, xs, q⟩
      · exact un.keep b o e q (fun m => by cases m) (fun m => by cases m)
      · obtain ⟨e1, _⟩ := ok b _ q
        obtain ⟨e2, _⟩ := ok' b _ (un.frzs b ob _ q)
        rw [e] at e1
        cases e1
        exact e2
    obtain ⟨more, g⟩ := grown
    refine ⟨rfl, ⟨fun b o e => ?_, fun b o e => ?_⟩, os, bare⟩
    · by_cases hb : b = T
      · subst hb
        rw [tab] at e
        cases e
        exact .inr (.inl ⟨(hd.tab tab).isCodeTable, rfl, #[], more, rfl, by rw [Array.empty_append]; exact g⟩)
      · exact .inl (keep b o hb e)
    · by_cases hb : b = T
      · rw [hb]
        exact ⟨_, g⟩
      · exact ⟨o, keep b o hb e⟩
theorem tab_call (kin : K.In z.heap) (hns : z.heap.Ns mainGlobals mg) (hb : z.heap.Ns builtinsNs mb) (hbb : ∀ x : Str, x ≠ "__name__" → mb x = bootBuiltins x)
    (hlim : z.heap.NoLimit) (hg : z.gens = #[]) (tab : z.heap.get? T = some (PySem.W.tabObj #[])) (notT : K.lookup T = none) (hd : PySem.W.CodeHd z.heap c T)
    (hbm : ∃ (bm : Addr) (ob : Obj), mg "__builtins__" = some (.ref bm) ∧ bm ≠ builtinsNs ∧ z.heap.get? bm = some ob ∧ ob.cls = .type "module" ∧ ob.dict = some builtinsNs ∧ ob.data = .plain)
    (ha : z.heap.get? a = some { cls := .type "list", data := .seq vs.toArray }) (hi : IntsAre vs ns) (hl : ns.length ≤ sizeLine) (hr : Room k callerA)
    (F : ∀ base : Heap, K.In base → base.Ns mainGlobals mg → TabB base mg c T → FnG P w K mg base k fa fd [x] sp) (bind : ∀ (s : Shared) (u : Value), BindsTo s fd ⟨[u], []⟩ [(x, u)])
    (ask : ∀ H : Hp, H T = some (.tbl #[]) → SqL K H a (ns.map V.int) → sp [.ref a] H (fun v _ => v = .bl true) fun _ _ _ => False) :
    codeAny (model P w) callerA (.call (.ref fa) ⟨[.ref a], []⟩) (endsTrue z) z := by
  have rv := vals_ints hi
  have lv := hi.length
  have aT : a ≠ T := fun q => by
    rw [q, tab] at ha
    cases ha
  cases hk : K.lookup a with
  | none =>
    let H0 : Hp := fun b => if b = a then some (.frz { cls := .type "list", data := .seq vs.toArray } (.lst (ns.map V.int))) else if b = T then some (.tbl #[]) else none
    have at0 : H0 a = some (.frz { cls := .type "list", data := .seq vs.toArray } (.lst (ns.map V.int))) := if_pos rfl
    have atT : H0 T = some (.tbl #[]) := (if_neg aT.symm).trans (if_pos rfl)
    have else0 : ∀ b, b ≠ a → b ≠ T → H0 b = none := fun b h h2 => (if_neg h).trans (if_neg h2)
    have only : OnlyT T H0 := ⟨atT, fun b hT => by
      by_cases h : b = a
      · rw [h]
        exact .inr ⟨_, _, at0⟩
      · exact .inl (else0 b h hT)⟩
    refine tab_core kin hns hb hbb hlim hg tab notT hd hbm ha hr F bind H0 (ask H0 atT (.inl (.inr ⟨_, at0⟩))) (fun b u h => ?_) only (fun b h => ?_) (fun _ => hk)
    · by_cases hba : b = a
      · subst hba
        rw [at0] at h
        cases h
        exact ⟨ha, by rw [List.length_map]; exact hl, vs, _, rv, ha⟩
      · by_cases hbT : b = T
        · subst hbT
          rw [atT] at h
          cases h
          exact tab
        · rw [else0 b hba hbT] at h
          cases h
    · by_cases hba : b = a
      · exact .inl hba
      · exact .inr (Classical.byContradiction fun n => h (else0 b hba n))
  | some o =>
    have e := kin a o hk
    rw [ha] at e
    cases e
    let H0 : Hp := fun b => if b = T then some (.tbl #[]) else none
    have atT : H0 T = some (.tbl #[]) := if_pos rfl
    have else0 : ∀ b, b ≠ T → H0 b = none := fun b h => if_neg h
    refine tab_core kin hns hb hbb hlim hg tab notT hd hbm ha hr F bind H0 (ask H0 atT ?_) (fun b u h => ?_) ⟨atT, fun b h => .inl (else0 b h)⟩ (fun b h => .inr (Classical.byContradiction fun n => h (else0 b n))) fun h => absurd (else0 a aT) h
    · exact .inr ⟨_, vs.toArray, _, hk, rfl, rfl, rfl, by rw [List.size_toArray, lv]; exact hl, by simpa using rv⟩
    · by_cases hbT : b = T
      · subst hbT
        rw [atT] at h
        cases h
        exact tab
      · rw [else0 b hbT] at h
        cases h
end
theorem tab_walk {l : PySem.W.OpenLaw} {k : Nat} {q : Program} {loose : List Str} {XP : (Str → Option Value) → Heap → Prop} {YP : World → Heap → Prop} {d : DefRec}
    {K : Params → PySem.W.Frag} {sp : Addr → PySem.W.Frag → Sp} (hn : l.most = some 63) (hdf : d.params.defaults = []) (hr : Room k callerA) (hrec : ((recsOf q).any fun e => e.name == d.name) = true)
    (hY : ∀ (w : World) (h : Heap), YP w h → (K w.params).In h)
    (F : ∀ (w : World) (mg : Str → Option Value) (fa : Addr) (h : Heap), (K w.params).In h → h.Ns mainGlobals mg → mg d.name = some (.ref fa) →
      ∃ (fd : FuncData) (c T : Addr), (K w.params).lookup T = none ∧ PySem.W.codeHdIn (K w.params) c T = true ∧ PySem.W.tabIn (K w.params) d.name = some (c, T) ∧ (∀ (s : Shared) (u : Value), BindsTo s fd ⟨[u], []⟩ [("script", u)]) ∧
        ∀ base : Heap, (K w.params).In base → base.Ns mainGlobals mg → TabB base mg c T → FnG l.prog w (K w.params) mg base k fa fd ["script"] (sp T (K w.params)))
    (ask : ∀ (T : Addr) (K : PySem.W.Frag) (H : Hp) (a : Addr) (ns : List Int), ns.length ≤ 63 → H T = some (.tbl #[]) → SqL K H a (ns.map V.int) → sp T K [.ref a] H (fun v _ => v = .bl true) fun _ _ _ => False) :
    PySem.W.WalkO q loose XP YP l.row.toRowW d [] (fun f vs => PySem.call f vs) := by
  refine Att.attach_call hn hdf fun w s0 z mg mb fa o pm cd doc a vs ns G Y ho hd hcd hmg hobj hints hlen hg => ?_
  have kin := hY w _ Y
  obtain ⟨fd, c, T, notT, hdIn, tIn, bind, hF⟩ := F w mg fa _ kin G.T.g hmg
  obtain ⟨dL, hm, hn1⟩ := List.any_eq_true.mp hrec
  have hn2 : dL.name = d.name := beq_iff_eq.mp hn1
  have tab : z.heap.get? T = some (PySem.W.tabObj #[]) := by
    obtain ⟨a', o', fd', c', P', h1, h2, h3, h4, h5, h6⟩ := G.T.tab dL hm
    rw [hn2, hmg] at h1
    cases h1
    have ec := PySem.W.law_code kin G.T.g tIn hmg h2 h3
    rw [h4] at ec
    cases ec
    obtain ⟨⟨oc, vc, e1, _, e3, e4⟩, hP⟩ := h6
    obtain ⟨o2, us, _, _, _, _, _, _, _, f1, _, f3, f4, _⟩ := PySem.W.codeHd_of_K kin hdIn
    rw [f1] at e1
    cases e1
    rw [f3] at e3
    cases e3
    rw [f4] at e4
    cases e4
    exact hP
  exact tab_call kin G.T.g G.T.b G.T.builtins G.T.nolimit hg tab notT (PySem.W.codeHd_of_K kin hdIn) G.T.bmain hobj hints (Nat.le_trans hlen (by decide)) hr hF bind fun H hT hS => ask T (K w.params) H a ns hlen hT hS
theorem tab_in {K : PySem.W.Frag} {x : Str} {f cl lT : Addr} {oc e : Value} {od dC : Option Addr} {fd : FuncData} {osl sl : Array (Option Value)} {vs : Array Value} (a : PySem.W.nsIn K mainGlobals x = some (some (.ref f))) (l : K.lookup f = some ⟨oc, od, .func fd, osl⟩)
    (hc : fd.code = .ref cl) (lc : K.lookup cl = some ⟨e, dC, .fields vs, sl⟩) (v : vs[11]? = some (.ref lT)) : PySem.W.tabIn K x = some (cl, lT) := by
  unfold PySem.W.tabIn
  simp only [a, l, hc, lc, v]
theorem hd_in {K : PySem.W.Frag} {cl lT : Addr} {o : Obj} (lc : K.lookup cl = some o) (h : PySem.W.codeHdIn [(cl, o)] cl lT = true) : PySem.W.codeHdIn K cl lT = true := by
  unfold PySem.W.codeHdIn at h ⊢
  rw [lc]
  have e : List.lookup cl [(cl, o)] = some o := by simp [List.lookup]
  rw [e] at h
  exact h
end L2

/-! Lengths, their least common multiple, places; when loops meet. -/
namespace My
open PySem PySem.Spec PyProof.Rows L2
def NN (ns : List Nat) : List Int := ns.map fun n : Nat => (n : Int)
def lcmN (ns : List Nat) : Nat := ns.foldl Nat.lcm 1
theorem lcm_go : ∀ (ns : List Nat) (a : Nat), a ∣ ns.foldl Nat.lcm a ∧ ∀ n ∈ ns, n ∣ ns.foldl Nat.lcm a
  | [], a => ⟨Nat.dvd_refl a, by intro n hn; cases hn⟩
  | b :: r, a => by
    obtain ⟨h1, h2⟩ := lcm_go r (Nat.lcm a b)
    refine ⟨Nat.dvd_trans (Nat.dvd_lcm_left a b) h1, fun n hn => ?_⟩
    rcases List.mem_cons.mp hn with q | q
    · rw [q]
      exact Nat.dvd_trans (Nat.dvd_lcm_right a b) h1
    · exact h2 n q
theorem lcm_least : ∀ (ns : List Nat) (a m : Nat), a ∣ m → (∀ n ∈ ns, n ∣ m) → ns.foldl Nat.lcm a ∣ m
  | [], a, m, h, _ => h
  | b :: r, a, m, h, g => lcm_least r (Nat.lcm a b) m (Nat.lcm_dvd h (g b List.mem_cons_self)) fun n hn => g n (List.mem_cons_of_mem _ hn)
theorem dvd_lcmN {ns : List Nat} {n : Nat} (h : n ∈ ns) : n ∣ lcmN ns := (lcm_go ns 1).2 n h
theorem lcmN_dvd {ns : List Nat} {m : Nat} (h : ∀ n ∈ ns, n ∣ m) : lcmN ns ∣ m := lcm_least ns 1 m (Nat.one_dvd m) h
theorem lcmN_take {ns : List Nat} {i n : Nat} (h : ns[i]? = some n) : lcmN (ns.take (i + 1)) = Nat.lcm (lcmN (ns.take i)) n := by
  rw [take_more h]
  unfold lcmN
  rw [List.foldl_append]
  rfl
theorem lcm_pos_go : ∀ (ns : List Nat) (a : Nat), 0 < a → (∀ n ∈ ns, 1 ≤ n) → 0 < ns.foldl Nat.lcm a
  | [], a, h, _ => h
  | b :: r, a, h, g => lcm_pos_go r (Nat.lcm a b) (Nat.lcm_pos h (g b List.mem_cons_self)) fun n hn => g n (List.mem_cons_of_mem _ hn)
theorem lcmN_pos {ns : List Nat} (h : ∀ n ∈ ns, 1 ≤ n) : 0 < lcmN ns := lcm_pos_go ns 1 (Nat.succ_pos 0) h
theorem lcm_le_go (b : Nat) (hb : 1 ≤ b) : ∀ (ns : List Nat) (a : Nat), (∀ n ∈ ns, n ≤ b) → ns.foldl Nat.lcm a ≤ a * b ^ ns.length
  | [], a, _ => by simp
  | c :: r, a, h => by
    have ih := lcm_le_go b hb r (Nat.lcm a c) fun n hn => h n (List.mem_cons_of_mem _ hn)
    have h1 : Nat.lcm a c ≤ a * b := by
      rcases Nat.eq_zero_or_pos a with e | e
      · rw [e, Nat.lcm_zero_left]
        exact Nat.zero_le _
      · rcases Nat.eq_zero_or_pos c with f | f
        · rw [f, Nat.lcm_zero_right]
          exact Nat.zero_le _
        · exact Nat.le_trans (Nat.le_of_dvd (Nat.mul_pos e f) (Nat.lcm_dvd (Nat.dvd_mul_right a c) (Nat.dvd_mul_left c a))) (Nat.mul_le_mul_left a (h c List.mem_cons_self))
    refine Nat.le_trans ih ?_
    rw [List.length_cons, Nat.pow_succ, Nat.mul_comm (b ^ r.length) b, ← Nat.mul_assoc]
    exact Nat.mul_le_mul_right _ h1
theorem lcmN_le {ns : List Nat} {b : Nat} (hb : 1 ≤ b) (h : ∀ n ∈ ns, n ≤ b) : lcmN ns ≤ b ^ ns.length := by
  have q := lcm_le_go b hb ns 1 h
  rw [Nat.one_mul] at q
  exact q
/-! ### two rests together -/
theorem bez (a b : Nat) : ∃ x y : Int, ((Nat.gcd a b : Nat) : Int) = a * x + b * y := by
  induction a, b using Nat.gcd.induction with
  | H0 b => exact ⟨0, 1, by simp⟩
  | H1 a b ha ih =>
    obtain ⟨x, y, e⟩ := ih
    refine ⟨y - ((b / a : Nat) : Int) * x, x, ?_⟩
    rw [Nat.gcd_rec, e]
    have q : ((b % a : Nat) : Int) = (b : Int) - (a : Int) * ((b / a : Nat) : Int) := by
      have := Nat.mod_add_div b a
      have q2 : ((b % a + a * (b / a) : Nat) : Int) = (b : Int) := by rw [this]
      rw [Int.natCast_add, Int.natCast_mul] at q2
      omega
    rw [q, Int.sub_mul, Int.mul_sub, Int.mul_assoc]
    omega
theorem crt2 {R L : Nat} {x q : Int} (h : ((Nat.gcd R L : Nat) : Int) ∣ q - x) : ∃ Y : Int, (R : Int) ∣ Y - x ∧ (L : Int) ∣ Y - q := by
  obtain ⟨c, hc⟩ := h
  obtain ⟨a, b, e⟩ := bez R L
  refine ⟨x + R * (a * c), ⟨a * c, by omega⟩, ⟨-(b * c), ?_⟩⟩
  have e2 : q - x = R * (a * c) + L * (b * c) := by
    rw [hc, e, Int.add_mul, Int.mul_assoc, Int.mul_assoc]
  rw [Int.mul_neg]
  omega
theorem gcd_lcm_dvd {a b L m : Nat} (h1 : Nat.gcd a L ∣ m) (h2 : Nat.gcd b L ∣ m) : Nat.gcd (Nat.lcm a b) L ∣ m := by
  have key : ∀ d : Nat, d ∣ Nat.lcm a b → d ∣ Nat.lcm (Nat.gcd a d) (Nat.gcd b d) := by
    intro d hd
    rcases Nat.eq_zero_or_pos d with e | dp
    · subst e
      rw [Nat.gcd_zero_right, Nat.gcd_zero_right]
      exact hd
    have gp : 0 < Nat.gcd (Nat.gcd a d) (Nat.gcd b d) := Nat.gcd_pos_of_pos_left _ (Nat.gcd_pos_of_pos_right _ dp)
    have N : d * Nat.gcd (Nat.gcd a d) (Nat.gcd b d) ∣ Nat.gcd a d * Nat.gcd b d := by
      have ga : Nat.gcd (Nat.gcd a d) (Nat.gcd b d) ∣ a := Nat.dvd_trans (Nat.gcd_dvd_left _ _) (Nat.gcd_dvd_left _ _)
      have gb : Nat.gcd (Nat.gcd a d) (Nat.gcd b d) ∣ b := Nat.dvd_trans (Nat.gcd_dvd_right _ _) (Nat.gcd_dvd_left _ _)
      have gd : Nat.gcd (Nat.gcd a d) (Nat.gcd b d) ∣ d := Nat.dvd_trans (Nat.gcd_dvd_left _ _) (Nat.gcd_dvd_right _ _)
      have nab : d * Nat.gcd (Nat.gcd a d) (Nat.gcd b d) ∣ a * b := by
        have q : d * Nat.gcd (Nat.gcd a d) (Nat.gcd b d) ∣ Nat.lcm a b * Nat.gcd a b := Nat.mul_dvd_mul hd (Nat.dvd_gcd ga gb)
        rw [Nat.mul_comm (Nat.lcm a b), Nat.gcd_mul_lcm] at q
        exact q
      have nad : d * Nat.gcd (Nat.gcd a d) (Nat.gcd b d) ∣ a * d := by
        rw [Nat.mul_comm a d]
        exact Nat.mul_dvd_mul_left d ga
      have ndb : d * Nat.gcd (Nat.gcd a d) (Nat.gcd b d) ∣ d * b := Nat.mul_dvd_mul_left d gb
      have ndd : d * Nat.gcd (Nat.gcd a d) (Nat.gcd b d) ∣ d * d := Nat.mul_dvd_mul_left d gd
      have q1 : d * Nat.gcd (Nat.gcd a d) (Nat.gcd b d) ∣ a * Nat.gcd b d := by
        rw [← Nat.gcd_mul_left a b d]
        exact Nat.dvd_gcd nab nad
      have q2 : d * Nat.gcd (Nat.gcd a d) (Nat.gcd b d) ∣ d * Nat.gcd b d := by
        rw [← Nat.gcd_mul_left d b d]
        exact Nat.dvd_gcd ndb ndd
      have q3 := Nat.dvd_gcd q1 q2
      rw [Nat.gcd_mul_right] at q3
      exact q3
    rw [← Nat.gcd_mul_lcm (Nat.gcd a d) (Nat.gcd b d), Nat.mul_comm d] at N
    exact Nat.dvd_of_mul_dvd_mul_left gp N
  have k := key _ (Nat.gcd_dvd_left (Nat.lcm a b) L)
  have dL : Nat.gcd (Nat.lcm a b) L ∣ L := Nat.gcd_dvd_right _ _
  refine Nat.dvd_trans k (Nat.lcm_dvd (Nat.dvd_trans ?_ h1) (Nat.dvd_trans ?_ h2))
  · exact Nat.dvd_gcd (Nat.gcd_dvd_left _ _) (Nat.dvd_trans (Nat.gcd_dvd_right _ _) dL)
  · exact Nat.dvd_gcd (Nat.gcd_dvd_left _ _) (Nat.dvd_trans (Nat.gcd_dvd_right _ _) dL)
theorem gcd_lcms {L m : Nat} : ∀ (ns : List Nat) (a : Nat), Nat.gcd a L ∣ m → (∀ n ∈ ns, Nat.gcd n L ∣ m) → Nat.gcd (ns.foldl Nat.lcm a) L ∣ m
  | [], a, h, _ => h
  | b :: r, a, h, g => gcd_lcms r (Nat.lcm a b) (gcd_lcm_dvd h (g b List.mem_cons_self)) fun n hn => g n (List.mem_cons_of_mem _ hn)
theorem emod_eq_dvd {n x y : Int} : x % n = y % n ↔ n ∣ x - y := by
  rw [Int.emod_eq_emod_iff_emod_sub_eq_zero]
  exact ⟨Int.dvd_of_emod_eq_zero, Int.emod_eq_zero_of_dvd⟩
/-- places that by pairs can meet are those of some tick -/
theorem crt_all {ns : List Nat} {ps : List Int} (hl : ps.length = ns.length) (hp : ∀ (i n : Nat) (p : Int), ns[i]? = some n → ps[i]? = some p → 0 ≤ p ∧ p < (n : Int))
    (h : ∀ (i j a b : Nat) (p q : Int), i < j → ns[i]? = some a → ns[j]? = some b → ps[i]? = some p → ps[j]? = some q → ((Nat.gcd a b : Nat) : Int) ∣ p - q) :
    ∃ X : Int, ∀ (i n : Nat) (p : Int), ns[i]? = some n → ps[i]? = some p → X % (n : Int) = p := by
  have go : ∀ m : Nat, ∃ X : Int, ∀ (i n : Nat) (p : Int), i < m → ns[i]? = some n → ps[i]? = some p → X % (n : Int) = p := fun m => by
    induction m with
    | zero => exact ⟨0, fun i n p hi => absurd hi (Nat.not_lt_zero i)⟩
    | succ m ih =>
      obtain ⟨X, hX⟩ := ih
      cases en : ns[m]? with
      | none =>
        refine ⟨X, fun i n p hi e1 e2 => ?_⟩
        by_cases im : i < m
        · exact hX i n p im e1 e2
        · have : i = m := by omega
          subst this
          rw [en] at e1
          cases e1
      | some L =>
        have hm : m < ns.length := (List.getElem?_eq_some_iff.mp en).1
        have eq : ps[m]? = some (ps[m]'(by omega)) := List.getElem?_eq_getElem (by omega)
        have hd : ((Nat.gcd (lcmN (ns.take m)) L : Nat) : Int) ∣ ps[m]'(by omega) - X := by
          rw [Int.ofNat_dvd_left]
          refine gcd_lcms (ns.take m) 1 (by rw [Nat.gcd_one_left]; exact Nat.one_dvd _) fun n hn => ?_
          rw [← Int.ofNat_dvd_left]
          obtain ⟨i, hi⟩ := List.mem_iff_getElem?.mp hn
          have im : i < m := by
            have := (List.getElem?_eq_some_iff.mp hi).1
            rw [List.length_take] at this
            omega
          rw [List.getElem?_take_of_lt im] at hi
          have ep : ps[i]? = some (ps[i]'(by omega)) := List.getElem?_eq_getElem (by omega)
          have a1 := h i m n L _ _ im hi en ep eq
          have a2 : (n : Int) ∣ X - ps[i]'(by omega) := by
            have b1 := hX i n _ im hi ep
            obtain ⟨c1, c2⟩ := hp i n _ hi ep
            rw [← emod_eq_dvd, b1, Int.emod_eq_of_lt c1 c2]
          have a3 : ((Nat.gcd n L : Nat) : Int) ∣ X - ps[i]'(by omega) := Int.dvd_trans (Int.natCast_dvd_natCast.mpr (Nat.gcd_dvd_left n L)) a2
          have a4 := Int.dvd_add a1 a3
          have e : ps[i]'(by omega) - ps[m]'(by omega) + (X - ps[i]'(by omega)) = -(ps[m]'(by omega) - X) := by omega
          rw [e] at a4
          exact Int.dvd_neg.mp a4
        obtain ⟨Y, y1, y2⟩ := crt2 hd
        refine ⟨Y, fun i n p hi e1 e2 => ?_⟩
        by_cases im : i < m
        · rw [← hX i n p im e1 e2, emod_eq_dvd]
          refine Int.dvd_trans (Int.natCast_dvd_natCast.mpr (dvd_lcmN ?_)) y1
          exact List.mem_of_getElem? (i := i) (by rw [List.getElem?_take_of_lt im]; exact e1)
        · have : i = m := by omega
          subst this
          rw [en] at e1
          rw [eq] at e2
          cases e1
          cases e2
          obtain ⟨c1, c2⟩ := hp i L _ en eq
          have := emod_eq_dvd.mpr y2
          rw [this, Int.emod_eq_of_lt c1 c2]
  obtain ⟨X, hX⟩ := go ns.length
  exact ⟨X, fun i n p e1 e2 => hX i n p (List.getElem?_eq_some_iff.mp e1).1 e1 e2⟩
/-- the places of a tick -/
def plc (ns : List Nat) (t : Int) : List Int := ns.map fun n : Nat => t % (n : Int)
theorem plc_of {ns : List Nat} {ps : List Int} {X : Int} (hl : ps.length = ns.length) (h : ∀ (i n : Nat) (p : Int), ns[i]? = some n → ps[i]? = some p → X % (n : Int) = p) : ps = plc ns X := by
  refine List.ext_getElem? fun i => ?_
  unfold plc
  rw [List.getElem?_map]
  by_cases hi : i < ns.length
  · have e1 : ns[i]? = some ns[i] := List.getElem?_eq_getElem hi
    have e2 : ps[i]? = some (ps[i]'(by omega)) := List.getElem?_eq_getElem (by omega)
    rw [e1, e2, ← h i _ _ e1 e2]
    rfl
  · rw [List.getElem?_eq_none (by omega), List.getElem?_eq_none (show ns.length ≤ i by omega)]
    rfl
theorem plc_mod {ns : List Nat} {t u : Int} : plc ns t = plc ns u ↔ ((lcmN ns : Nat) : Int) ∣ t - u := by
  constructor
  · intro h
    rw [Int.ofNat_dvd_left]
    refine lcmN_dvd fun n hn => ?_
    rw [← Int.ofNat_dvd_left, ← emod_eq_dvd]
    exact List.map_inj_left.mp h n hn
  · intro h
    refine List.map_congr_left fun n hn => ?_
    rw [emod_eq_dvd]
    exact Int.dvd_trans (Int.natCast_dvd_natCast.mpr (dvd_lcmN hn)) h
theorem plc_lcm (ns : List Nat) (t : Int) : plc ns (t % (lcmN ns : Nat)) = plc ns t := by
  rw [plc_mod, ← emod_eq_dvd, Int.emod_emod]
theorem plc_one {ns : List Nat} {t u : Int} (h : plc ns t = plc ns u) (t0 : 0 ≤ t) (t1 : t < (lcmN ns : Nat)) (u0 : 0 ≤ u) (u1 : u < (lcmN ns : Nat)) : t = u := by
  have q := emod_eq_dvd.mpr (plc_mod.mp h)
  rw [Int.emod_eq_of_lt t0 t1, Int.emod_eq_of_lt u0 u1] at q
  exact q
end My

/-! sum of a tuple. -/
namespace L2
open PySem PySem.Spec PyProof.Rows HT
section
variable {prog : Program} {w : World} {A : Around} {E : Value → Shared → Prop} {s : Shared}
theorem sum_tup0 {l : Addr} {xs : Array (Int × Tok)} {Q : Value → Shared → Prop} (hh : A.handled = none) (ht : s.heap.IsTuple l (intItems xs))
    (h : ∀ h' tk t', (∀ b o, s.heap.get? b = some o → h'.get? b = some o) → Q (.int (preSum (numAt xs) xs.size) t') { s with heap := h', toks := tk }) : wpAny (model prog w) A (call (.builtin "sum") [.ref l]) Q E s := by
  have hlt : l < s.heap.objs.size := by
    obtain ⟨_, e, _⟩ := ht
    exact Heap.lt_size e
  refine PySem.call_sum_walkG (wpAny_pyIter_tuple ht ?_)
  have hT : (s.heap.push { cls := .type "tuple_iterator", data := .fields #[.ref l, .int 0 0] }).IsTuple l (intItems xs) := by
    obtain ⟨o, e, r⟩ := ht
    exact ⟨o, Heap.get?_push_of_some _ e, r⟩
  refine ⟨s.heap.objs.size, _, _, _, _, _, numAt xs, rfl, Walks.tuple (A := A.in1) hh s.heap.objs.size l (Nat.ne_of_lt hlt) (intItems xs), ⟨⟨_, Heap.get?_push_size _ rfl, rfl, rfl⟩, hT⟩, fun b hb => ?_, fun _ _ => intItems_at, fun h' tk t' hk => ?_⟩
  · show b < (s.heap.push _).objs.size
    rw [Heap.size_push]
    simp at hb
    rcases hb with q | q
    · rw [q]
      exact Nat.lt_succ_self _
    · rw [q]
      exact Nat.lt_succ_of_lt hlt
  · have q := h h' tk t' fun b o e => hk b o (fun z => by
      have := Heap.lt_size e
      rw [List.mem_singleton.mp z] at this
      exact absurd this (Nat.lt_irrefl _)) (Heap.get?_push_of_some _ e)
    simpa [intItems] using q
end
def rSumT (K : PySem.W.Frag) : List V → Hp → VK → Prop := fun vs H Q => ∃ (a : Addr) (ns : List Int), vs = [V.ref a] ∧ SqT K H a (ns.map V.int) ∧ Q (.int ns.sum) H
theorem k_sumT {X : Cx} {K : PySem.W.Frag} (hc : X.calm = true) (ek : X.K = K := by rfl) : CallR X (.builtin "sum") (rSumT K) := by
  subst ek
  intro pins s σ H vs us Q I r h
  obtain ⟨a, ns, rfl, hs, q⟩ := h
  obtain ⟨its, rv, ht, _⟩ := I.tuple hs
  rw [Vals.ref1 r]
  have hi := rv.ints
  obtain ⟨xs, e⟩ := hi.allInts.items
  have hn : numsOf (intItems xs).toList = ns := by rw [← e]; exact hi.numsOf
  rw [nums_intItems] at hn
  have ht' : s.heap.IsTuple a its.toArray := ht
  rw [e] at ht'
  refine sum_tup0 (I.ok.hd hc) ht' fun h' tk t' hk => ?_
  rw [preSum_eq, List.take_of_length_le (by simp), hn]
  exact ⟨.int _, H, I.kept hk, ⟨_, rfl⟩, q⟩
end L2

/-! zip(*t), t a tuple of one to four tuples, the target one name: the model's own zip, step by step; the rule pi_zipS, the walk walk_zipS. -/
namespace RZ
open PySem PySem.Spec PyProof.Rows L2
open PySem.Sem (wp)
structure ZA (z TI TO : Addr) (is ls : List Addr) : Prop where
  TIz : TI ≠ z
  TOz : TO ≠ z
  TITO : TI ≠ TO
  zi : z ∉ is
  TIi : TI ∉ is
  TOi : TO ∉ is
  nd : is.Nodup
  zl : z ∉ ls
  TOl : TO ∉ ls
  il : ∀ i ∈ is, i ∉ ls
structure ZN (h : Heap) (z TI TO : Addr) (is ls : List Addr) (f0 f1 : Value) (ks : Nat → Nat) (ws : List Value) (xss : List (List Value)) : Prop where
  hz : h.get? z = some { cls := .type "zip", dict := none, data := .fields #[f0, f1, .bool false, .ref TI, .ref TO], slots := #[] }
  hTI : h.get? TI = some { cls := .type "tuple", data := .seq (is.map Value.ref).toArray }
  hTO : h.get? TO = some { cls := .type "tuple", data := .seq ws.toArray }
  hit : ∀ (j : Nat) (i l : Addr), is[j]? = some i → ls[j]? = some l → h.IsTupleIter i l (ks j)
  hls : ∀ (j : Nat) (l : Addr) (xs : List Value), ls[j]? = some l → xss[j]? = some xs → h.IsTuple l xs.toArray
def KP (z TO : Addr) (is : List Addr) (h h' : Heap) : Prop := ∀ c o, c ≠ z → c ≠ TO → c ∉ is → h.get? c = some o → h'.get? c = some o
section
variable {z TI TO : Addr} {is ls : List Addr} {f0 f1 g0 g1 : Value} {ks : Nat → Nat} {ws : List Value} {xss : List (List Value)} {h h' h2 : Heap}
theorem KP.refl : KP z TO is h h := fun _ _ _ _ _ e => e
theorem KP.trans (a : KP z TO is h h') (b : KP z TO is h' h2) : KP z TO is h h2 := fun c o c1 c2 c3 e => b c o c1 c2 c3 (a c o c1 c2 c3 e)
theorem KP.ofZ (s : Heap.SameBut z h h') : KP z TO is h h' := fun c o c1 _ _ e => s.extBut _ _ c1 e
theorem KP.ofTO (s : Heap.SameBut TO h h') : KP z TO is h h' := fun c o _ c2 _ e => s.extBut _ _ c2 e
theorem KP.ofI {i : Addr} (hi : i ∈ is) (s : Heap.SameBut i h h') : KP z TO is h h' := fun c o _ _ c3 e => s.extBut _ _ (fun q => c3 (q ▸ hi)) e
theorem ZN.setZ (D : ZA z TI TO is ls) (Z : ZN h z TI TO is ls f0 f1 ks ws xss) (s : Heap.SameBut z h h') (e : h'.get? z = some { cls := .type "zip", dict := none, data := .fields #[g0, g1, .bool false, .ref TI, .ref TO], slots := #[] }) : ZN h' z TI TO is ls g0 g1 ks ws xss where
  hz := e
  hTI := s.extBut _ _ D.TIz Z.hTI
  hTO := s.extBut _ _ D.TOz Z.hTO
  hit := fun j i l a b => (Z.hit j i l a b).extBut s.extBut fun q => D.zi (q ▸ List.mem_of_getElem? a)
  hls := fun j l xs a b => (Z.hls j l xs a b).extBut s.extBut fun q => D.zl (q ▸ List.mem_of_getElem? a)
theorem ZN.setTO (D : ZA z TI TO is ls) {vs : List Value} (Z : ZN h z TI TO is ls f0 f1 ks ws xss) (s : Heap.SameBut TO h h') (e : h'.get? TO = some { cls := .type "tuple", data := .seq vs.toArray }) : ZN h' z TI TO is ls f0 f1 ks vs xss where
  hz := s.extBut _ _ (Ne.symm D.TOz) Z.hz
  hTI := s.extBut _ _ D.TITO Z.hTI
  hTO := e
  hit := fun j i l a b => (Z.hit j i l a b).extBut s.extBut fun q => D.TOi (q ▸ List.mem_of_getElem? a)
  hls := fun j l xs a b => (Z.hls j l xs a b).extBut s.extBut fun q => D.TOl (q ▸ List.mem_of_getElem? a)
theorem ZN.stepI (D : ZA z TI TO is ls) {ms : Nat → Nat} (Z : ZN h z TI TO is ls f0 f1 ks ws xss) {j : Nat} {i l : Addr} (hi : is[j]? = some i) (hl : ls[j]? = some l) (s : Heap.SameBut i h h') (e : h'.IsTupleIter i l (ms j)) (m : ∀ j', j' ≠ j → ms j' = ks j') : ZN h' z TI TO is ls f0 f1 ms ws xss where
  hz := s.extBut _ _ (fun q => D.zi (q ▸ List.mem_of_getElem? hi)) Z.hz
  hTI := s.extBut _ _ (fun q => D.TIi (q ▸ List.mem_of_getElem? hi)) Z.hTI
  hTO := s.extBut _ _ (fun q => D.TOi (q ▸ List.mem_of_getElem? hi)) Z.hTO
  hit := fun j' i' l' a b => by
    by_cases q : j' = j
    · subst q
      rw [hi] at a
      rw [hl] at b
      cases a
      cases b
      exact e
    · rw [m j' q]
      refine (Z.hit j' i' l' a b).extBut s.extBut fun p => ?_
      subst p
      obtain ⟨u1, v1⟩ := List.getElem?_eq_some_iff.mp a
      obtain ⟨u2, v2⟩ := List.getElem?_eq_some_iff.mp hi
      exact q ((List.getElem_inj (h₀ := u1) (h₁ := u2) D.nd).mp (v1.trans v2.symm))
  hls := fun j l xs a b => (Z.hls j l xs a b).extBut s.extBut fun q => D.il i (List.mem_of_getElem? hi) (q ▸ List.mem_of_getElem? a)
theorem ZN.ksame {ms : Nat → Nat} (Z : ZN h z TI TO is ls f0 f1 ks ws xss) (m : ∀ j, j < is.length → ms j = ks j) : ZN h z TI TO is ls f0 f1 ms ws xss where
  hz := Z.hz
  hTI := Z.hTI
  hTO := Z.hTO
  hit := fun j i l a b => by
    rw [m j (List.getElem?_eq_some_iff.mp a).1]
    exact Z.hit j i l a b
  hls := Z.hls
theorem ZN.up (Z : ZN h z TI TO is ls f0 f1 ks ws xss) (e : ∀ c o, h.get? c = some o → h'.get? c = some o) : ZN h' z TI TO is ls f0 f1 ks ws xss where
  hz := e _ _ Z.hz
  hTI := e _ _ Z.hTI
  hTO := e _ _ Z.hTO
  hit := fun j i l a b => (Z.hit j i l a b).at fun o q => e _ o q
  hls := fun j l xs a b => by
    obtain ⟨o, q, r⟩ := Z.hls j l xs a b
    exact ⟨o, e _ _ q, r⟩
end
section
variable {prog : Program} {w : World} {A : Around} {E : Value → Shared → Prop} {s : Shared}
/-- a loop of the model's own over a list, turn by turn -/
theorem forIn_by {α β : Type} {f : α → β → Sem (ForInStep β)} {Q : β → Shared → Prop} (P : Nat → β → Shared → Prop) : ∀ (l : List α) (n : Nat) (b : β) (s : Shared), P n b s →
    (∀ (j : Nat) (x : α) (b : β) (s : Shared), l[j]? = some x → P (n + j) b s → wpAny (model prog w) A (f x b) (fun r s' => ∃ b', r = .yield b' ∧ P (n + j + 1) b' s') E s) →
    (∀ b s, P (n + l.length) b s → Q b s) → wpAny (model prog w) A (forIn l b f) Q E s
  | [], n, b, s, h0, _, hd => by
    rw [List.forIn_nil]
    exact wpAny_pure (hd b s h0)
  | x :: r, n, b, s, h0, hs, hd => by
    rw [List.forIn_cons]
    refine wpAny_bind (thn (hs 0 x b s rfl h0) fun y s' ⟨b', e, h1⟩ => ?_)
    subst e
    refine forIn_by P r (n + 1) b' s' h1 (fun j x b s hx hp => ?_) fun b s hp => hd b s ?_
    · have e : n + 1 + j = n + (j + 1) := by omega
      rw [e] at hp ⊢
      exact hs (j + 1) x b s hx hp
    · have e : n + (x :: r).length = n + 1 + r.length := by simp; omega
      rw [e]
      exact hp
variable {z TI TO : Addr} {is ls : List Addr} {f0 f1 : Value} {ks : Nat → Nat} {ws col : List Value} {xss : List (List Value)}
/-- whether the tuple that was handed out may be written again: both ways -/
theorem zn_free {Q : Bool → Shared → Prop} (D : ZA z TI TO is ls) (Z : ZN s.heap z TI TO is ls f0 f1 ks ws xss) (hf : f0 = .none ∨ ∃ a t, f0 = .int a t)
    (k : ∀ b g1 h', ZN h' z TI TO is ls f0 g1 ks ws xss → Heap.SameBut z s.heap h' → Q b { s with heap := h' }) : wpAny (model prog w) A (Builtin.SmallTypes.ownedTupleIsFree (.ref z)) Q E s := by
  unfold Builtin.SmallTypes.ownedTupleIsFree
  refine wpAny_bind (wpAny_field Z.hz rfl (x := f0) rfl ?_)
  rcases hf with rfl | ⟨a, t, rfl⟩
  · exact wpAny_pure (k true f1 s.heap Z (Heap.SameBut.refl _ _))
  · show wpAny _ _ (loadIfAlive a.toNat >>= _) _ _ _
    refine wpAny_bind ?_
    have al : ∀ {Q' : Option Obj → Shared → Prop}, Q' (s.heap.get? a.toNat) s → wpAny (model prog w) A (loadIfAlive a.toNat) Q' E s := fun q Γ p hΓ => by
      unfold loadIfAlive
      rw [Sem.wp_loadIfAlive]
      exact wpAny_pure q Γ p hΓ
    refine al ?_
    cases e : s.heap.get? a.toNat with
    | none =>
      simp only [Option.isNone_none, if_true]
      exact wpAny_pure (k true f1 s.heap Z (Heap.SameBut.refl _ _))
    | some o =>
      simp only [Option.isNone_some, Bool.false_eq_true, if_false]
      refine wpAny_bind (wpAny_field Z.hz rfl (x := f1) rfl ?_)
      by_cases c : (f1 != Value.bool true) = true
      · rw [if_pos c]
        refine wpAny_bind (wpAny_setField_rec Z.hz (by simp) fun h1 z1 s1 => wpAny_pure ?_)
        exact k false _ h1 (Z.setZ D s1 z1) s1
      · rw [if_neg c]
        exact wpAny_pure (k false f1 s.heap Z (Heap.SameBut.refl _ _))
end
end RZ
namespace RZ
open PySem PySem.Spec PyProof.Rows L2
open PySem.Sem (wp)
section
variable {prog : Program} {w : World} {A : Around} {E : Value → Shared → Prop} {s : Shared}
variable {z TI TO : Addr} {is ls : List Addr} {f0 f1 : Value} {k : Nat} {ws col : List Value} {xss : List (List Value)}
theorem zn_item {Q : Value → Shared → Prop} (D : ZA z TI TO is ls) (Z : ZN s.heap z TI TO is ls f0 f1 (fun _ => k) ws xss) (hf : f0 = .none ∨ ∃ a t, f0 = .int a t)
    (n0 : is ≠ []) (nz : is.length ≤ 1000) (hn : ls.length = is.length) (hws : ws.length = is.length) (hc : col.length = is.length) (hcol : ∀ j, j < is.length → ∃ xs x, xss[j]? = some xs ∧ xs[k]? = some x ∧ col[j]? = some x)
    (hQ : ∀ h' g0 g1 vs, ZN h' z TI TO is ls g0 g1 (fun _ => k + 1) vs xss → (g0 = .none ∨ ∃ a t, g0 = .int a t) → vs.length = is.length → h'.get? s.heap.objs.size = some { cls := .type "tuple", data := .seq col.toArray } →
      h'.objs.size = s.heap.objs.size + 1 → KP z TO is s.heap h' → Q (.ref s.heap.objs.size) { s with heap := h' }) :
    wpAny (model prog w) A (Builtin.«zip.__next__» ⟨[.ref z], []⟩) (fun fin s' => ∃ v, fin = .done (.ret v) ∧ Q v s') E s := by
  show wpAny _ _ (field (.ref z) 2 >>= fun _ => _) _ _ _
  refine wpAny_bind (wpAny_field Z.hz rfl (x := Value.bool false) rfl ?_); show wpAny _ _ (field (.ref z) 3 >>= fun _ => _) _ _ _
  refine wpAny_bind (wpAny_field Z.hz rfl (x := Value.ref TI) rfl ?_); refine wpAny_bind (wpAny_seqItems Z.hTI rfl ?_)
  have ne : ((is.map Value.ref).toArray.isEmpty) = false := by
    cases is with
    | nil => exact absurd rfl n0
    | cons _ _ => simp
  dsimp only
  rw [ne]
  simp only [Bool.false_eq_true, if_false]
  refine wpAny_bind (zn_free D Z hf fun b g1 h1 Z1 s1 => ?_)
  have z1 : h1.objs.size = s.heap.objs.size := s1.1
  cases b with
  | true =>
    simp only [if_true]
    refine wpAny_bind (wpAny_rule ?_); refine wpAny_bind (wpAny_field (s := { s with heap := h1 }) Z1.hz rfl (x := Value.ref TO) rfl ?_)
    refine wpAny_bind (wpAny_setField_rec (s := { s with heap := h1 }) Z1.hz (by simp) fun h2 e2 s2 => ?_)
    have Z2 := Z1.setZ D (g0 := .ellipsis) (g1 := g1) s2 e2
    refine wpAny_bind (forIn_by (fun (j : Nat) (b : Option Fin × Unit) (s' : Shared) => b = (none, ()) ∧ ∃ h vs, s' = { s with heap := h } ∧ ZN h z TI TO is ls .ellipsis g1 (fun j' => if j' < j then k + 1 else k) vs xss ∧ vs.length = is.length ∧ (∀ j', j' < j → vs[j']? = col[j']?) ∧ h.objs.size = s.heap.objs.size ∧ KP z TO is s.heap h) _ 0 _ _ ⟨rfl, h2, ws, rfl, Z2.ksame fun j _ => if_neg (Nat.not_lt_zero j), hws, (fun j' q => absurd q (Nat.not_lt_zero j')), by rw [s2.1]; exact z1, (KP.ofZ s1).trans (KP.ofZ s2)⟩ (fun j x b s' hx hp => ?_) fun b s' hp => ?_)
    · rw [Nat.zero_add] at hp ⊢
      obtain ⟨rfl, h, vs, rfl, Z3, lv, hv, sz, kp⟩ := hp
      rw [List.getElem?_zipIdx] at hx
      cases ei : is[j]? with
      | none =>
        rw [List.getElem?_map, ei] at hx
        cases hx
      | some i =>
        rw [List.getElem?_map, ei] at hx
        cases hx
        have jl := (List.getElem?_eq_some_iff.mp ei).1
        have el : ls[j]? = some (ls[j]'(by omega)) := List.getElem?_eq_getElem (by omega)
        obtain ⟨xs, x, ex, hk, hc2⟩ := hcol j jl
        have it := Z3.hit j i _ ei el
        have lt := Z3.hls j _ xs el ex
        rw [if_neg (Nat.lt_irrefl j)] at it
        dsimp only
        refine wpAny_bind (wpAny_onRaise ?_)
        show wpAny _ _ (Builtin.SmallTypes.nextOf (.ref i) >>= fun _ => _) _ _ _
        refine wpAny_bind (nextOf_tuple_item (s := { s with heap := h }) it lt (x := x) (by simpa using hk) fun h4 it4 s4 => wpAny_pure ?_)
        have Z4 : ZN h4 z TI TO is ls .ellipsis g1 (fun j' => if j' < j + 1 then k + 1 else k) vs xss := Z3.stepI D (ms := fun j' => if j' < j + 1 then k + 1 else k) ei el s4 (by rw [if_pos (Nat.lt_succ_self j)]; exact it4) (fun j' q => by
          by_cases c : j' < j
          · rw [if_pos c, if_pos (by omega)]
          · rw [if_neg c, if_neg (by omega)])
        dsimp only
        refine wpAny_bind (wpAny_seqItems (s := { s with heap := h4 }) Z4.hTO rfl ?_)
        dsimp only
        have big : (1001 : Nat) ≤ sizeLine := by decide
        refine wpAny_bind (wpAny_updateSeq (s := { s with heap := h4 }) Z4.hTO rfl ?_ (by simp; omega) (by simp; omega))
        refine wpAny_bind (wpAny_letGo (wpAny_pure ⟨_, rfl, ?_⟩))
        have s5 : Heap.SameBut TO h4 (h4.update TO _) := Heap.SameBut.update (f := (·.mapSeq (·.setIfInBounds (0 + j) x))) ..
        have Z5 := Z4.setTO D (vs := vs.set j x) s5 (by
          rw [Heap.get?_update_self _ Z4.hTO rfl]
          simp [Obj.mapSeq])
        refine ⟨rfl, _, _, rfl, Z5, by simp [lv], fun j' q => ?_, ?_, ?_⟩
        · by_cases c : j' = j
          · subst c
            rw [List.getElem?_set_self (by omega), hc2]
          · rw [List.getElem?_set_ne (Ne.symm c)]
            exact hv j' (by omega)
        · rw [s5.1, s4.1]
          exact sz
        · exact kp.trans ((KP.ofI (List.mem_of_getElem? ei) s4).trans (KP.ofTO s5))
    obtain ⟨rfl, h, vs, rfl, Z3, lv, hv, sz, kp⟩ := hp
    simp only [Nat.zero_add, List.length_zipIdx, List.length_map] at Z3 hv
    have ev : vs = col := List.ext_getElem? fun j => by
      by_cases c : j < is.length
      · exact hv j c
      · rw [List.getElem?_eq_none (by omega), List.getElem?_eq_none (by omega)]
    subst ev
    have Z3 : ZN h z TI TO is ls .ellipsis g1 (fun _ => k + 1) vs xss := Z3.ksame fun j q => (if_pos q).symm
    dsimp only
    refine wpAny_bind (wpAny_seqItems (s := { s with heap := h }) Z3.hTO rfl ?_)
    dsimp only
    have big : (1001 : Nat) ≤ sizeLine := by decide
    refine wpAny_bind (wpAny_newTuple ?_ (by omega)); show wpAny _ _ (Builtin.SmallTypes.ownedTupleHandOut (.ref z) (.ref h.objs.size) >>= fun _ => _) _ _ _
    refine wpAny_bind ?_
    unfold Builtin.SmallTypes.ownedTupleHandOut
    have Z4 := Z3.up (h' := h.push { cls := .type "tuple", data := .seq vs.toArray }) fun c o q => Heap.get?_push_of_some _ q
    have t4 : (h.push { cls := .type "tuple", data := .seq vs.toArray }).get? h.objs.size = some { cls := .type "tuple", data := .seq vs.toArray } := Heap.get?_push_size _ rfl
    have n4 : (h.push { cls := .type "tuple", data := .seq vs.toArray }).objs.size = h.objs.size + 1 := Heap.size_push ..
    have zl : z < h.objs.size := Heap.lt_size Z3.hz
    refine wpAny_bind (wpAny_setField_rec (s := { s with heap := h.push { cls := .type "tuple", data := .seq vs.toArray } }) Z4.hz (by simp) fun h5 e5 s5 => ?_)
    have Z5 := Z4.setZ D (g0 := rawInt h.objs.size) (g1 := g1) s5 e5
    refine wpAny_setField_rec (s := { s with heap := h5 }) Z5.hz (by simp) fun h6 e6 s6 => ?_
    have Z6 := Z5.setZ D (g0 := rawInt h.objs.size) (g1 := .bool false) s6 e6
    have t6 := s6.extBut _ _ (Nat.ne_of_gt zl) (s5.extBut _ _ (Nat.ne_of_gt zl) t4)
    have k6 : KP z TO is s.heap h6 := fun c o c1 c2 c3 q => s6.extBut _ _ c1 (s5.extBut _ _ c1 (Heap.get?_push_of_some _ (kp c o c1 c2 c3 q)))
    have n6 : h6.objs.size = s.heap.objs.size + 1 := by rw [s6.1, s5.1, n4, sz]
    refine wpAny_pure ⟨_, rfl, ?_⟩
    show Q (.ref h.objs.size) _
    rw [sz] at t6 Z6 ⊢
    exact hQ h6 _ _ vs Z6 (.inr ⟨_, _, rfl⟩) lv t6 n6 k6
  | false =>
    simp only [Bool.false_eq_true, if_false]
    rw [← Array.forIn_toList]
    refine wpAny_bind (forIn_by (fun j b s' => b = (none, (col.take j).toArray) ∧ ∃ h, s' = { s with heap := h } ∧ ZN h z TI TO is ls f0 g1 (fun j' => if j' < j then k + 1 else k) ws xss ∧ h.objs.size = s.heap.objs.size ∧ KP z TO is s.heap h) _ 0 _ _
      ⟨by simp, h1, rfl, Z1.ksame fun j _ => if_neg (Nat.not_lt_zero j), z1, KP.ofZ s1⟩ (fun j x b s' hx hp => ?_) fun b s' hp => ?_)
    · rw [Nat.zero_add] at hp ⊢
      obtain ⟨rfl, h, rfl, Z3, sz, kp⟩ := hp
      cases ei : is[j]? with
      | none =>
        simp [ei] at hx
      | some i =>
        simp only [List.getElem?_map, ei, Option.map_some] at hx
        cases hx
        have jl := (List.getElem?_eq_some_iff.mp ei).1
        have el : ls[j]? = some (ls[j]'(by omega)) := List.getElem?_eq_getElem (by omega)
        obtain ⟨xs, x, ex, hk, hc2⟩ := hcol j jl
        have it := Z3.hit j i _ ei el
        have lt := Z3.hls j _ xs el ex
        rw [if_neg (Nat.lt_irrefl j)] at it
        dsimp only
        refine wpAny_bind (wpAny_holding ?_)
        show wpAny _ _ (Builtin.SmallTypes.nextOf (.ref i) >>= fun _ => _) _ _ _
        refine wpAny_bind (nextOf_tuple_item (s := { s with heap := h }) it lt (x := x) (by simpa using hk) fun h4 it4 s4 => wpAny_pure ?_)
        have Z4 : ZN h4 z TI TO is ls f0 g1 (fun j' => if j' < j + 1 then k + 1 else k) ws xss := Z3.stepI D (ms := fun j' => if j' < j + 1 then k + 1 else k) ei el s4 (by rw [if_pos (Nat.lt_succ_self j)]; exact it4) (fun j' q => by
          by_cases c : j' < j
          · rw [if_pos c, if_pos (by omega)]
          · rw [if_neg c, if_neg (by omega)])
        dsimp only
        refine wpAny_pure ⟨_, rfl, ?_, h4, rfl, Z4, by rw [s4.1]; exact sz, kp.trans (KP.ofI (List.mem_of_getElem? ei) s4)⟩
        rw [List.take_add_one, hc2]
        simp
    obtain ⟨rfl, h, rfl, Z3, sz, kp⟩ := hp
    simp only [Nat.zero_add, List.length_map, List.toList_toArray] at Z3
    have Z3 : ZN h z TI TO is ls f0 g1 (fun _ => k + 1) ws xss := Z3.ksame fun j q => (if_pos q).symm
    dsimp only
    rw [Nat.zero_add, List.length_map, ← hc, List.take_length]
    have big : (1001 : Nat) ≤ sizeLine := by decide
    refine wpAny_bind (wpAny_newTuple ?_ (by omega))
    have t4 : (h.push { cls := .type "tuple", data := .seq col.toArray }).get? h.objs.size = some { cls := .type "tuple", data := .seq col.toArray } := Heap.get?_push_size _ rfl
    have n4 : (h.push { cls := .type "tuple", data := .seq col.toArray }).objs.size = h.objs.size + 1 := Heap.size_push ..
    refine wpAny_pure ⟨_, rfl, ?_⟩
    show Q (.ref h.objs.size) _
    rw [sz] at t4 n4 ⊢
    exact hQ _ f0 g1 ws (Z3.up fun c o q => Heap.get?_push_of_some _ q) hf hws t4 n4 fun c o c1 c2 c3 q => Heap.get?_push_of_some _ (kp c o c1 c2 c3 q)
end
end RZ
namespace RZ
open PySem PySem.Spec PyProof.Rows L2
open PySem.Sem (wp)
section
variable {prog : Program} {w : World} {A : Around} {E : Value → Shared → Prop} {s : Shared}
variable {z TI TO i0 l0 : Addr} {is ls : List Addr} {f0 f1 : Value} {k : Nat} {ws x0 : List Value} {xss : List (List Value)}
theorem zn_end {Q : Fin → Shared → Prop} (hh : A.handled = none) (D : ZA z TI TO (i0 :: is) (l0 :: ls)) (Z : ZN s.heap z TI TO (i0 :: is) (l0 :: ls) f0 f1 (fun _ => k) ws (x0 :: xss)) (hf : f0 = .none ∨ ∃ a t, f0 = .int a t)
    (hx : x0[k]? = none) (hE : ∀ h' e, KP z TO (i0 :: is) s.heap h' → (∃ o, h'.get? e = some o ∧ o.cls = .type "StopIteration") → E (.ref e) { s with heap := h' }) :
    wpAny (model prog w) A (Builtin.«zip.__next__» ⟨[.ref z], []⟩) Q E s := by
  show wpAny _ _ (field (.ref z) 2 >>= fun _ => _) _ _ _
  refine wpAny_bind (wpAny_field Z.hz rfl (x := Value.bool false) rfl ?_); show wpAny _ _ (field (.ref z) 3 >>= fun _ => _) _ _ _
  refine wpAny_bind (wpAny_field Z.hz rfl (x := Value.ref TI) rfl ?_); refine wpAny_bind (wpAny_seqItems Z.hTI rfl ?_)
  have ne : (((i0 :: is).map Value.ref).toArray.isEmpty) = false := by simp
  dsimp only
  rw [ne]
  simp only [Bool.false_eq_true, if_false]
  refine wpAny_bind (zn_free D Z hf fun b g1 h1 Z1 s1 => ?_)
  cases b with
  | true =>
    simp only [if_true]
    refine wpAny_bind (wpAny_rule ?_); refine wpAny_bind (wpAny_field (s := { s with heap := h1 }) Z1.hz rfl (x := Value.ref TO) rfl ?_)
    refine wpAny_bind (wpAny_setField_rec (s := { s with heap := h1 }) Z1.hz (by simp) fun h2 e2 s2 => ?_)
    have Z2 := Z1.setZ D (g0 := .ellipsis) (g1 := g1) s2 e2
    simp only [List.map_cons, List.zipIdx_cons, List.forIn_cons]
    refine wpAny_bind (wpAny_bind (wpAny_bind (wpAny_onRaise ?_)))
    show wpAny _ _ (Builtin.SmallTypes.nextOf (.ref i0) >>= fun _ => _) _ _ _
    refine wpAny_bind (nextOf_tuple_end (s := { s with heap := h2 }) hh (Z2.hit 0 i0 l0 rfl rfl) (Z2.hls 0 l0 x0 rfl rfl) (by simpa using hx) fun h3 e s3 he => ?_)
    obtain ⟨oe, ho, hc⟩ := he
    have iz : i0 ≠ z := fun q => D.zi (q ▸ List.mem_cons_self)
    have zz := s3 _ _ iz.symm Z2.hz
    have ez : e ≠ z := fun q => by
      subst q
      rw [zz] at ho
      cases ho
      simp at hc
    refine wpAny_setField_rec (s := { s with heap := h3 }) zz (by simp) fun h4 _ s4 => hE h4 e (fun c o c1 _ c3 q => ?_) ⟨oe, s4.extBut _ _ ez ho, hc⟩
    exact s4.extBut _ _ c1 (s3 _ _ (fun q => c3 (q ▸ List.mem_cons_self)) (s2.extBut _ _ c1 (s1.extBut _ _ c1 q)))
  | false =>
    simp only [Bool.false_eq_true, if_false]
    rw [← Array.forIn_toList]
    simp only [List.map_cons, List.forIn_cons]
    refine wpAny_bind (wpAny_bind (wpAny_bind (wpAny_holding ?_)))
    show wpAny _ _ (Builtin.SmallTypes.nextOf (.ref i0) >>= fun _ => _) _ _ _
    refine wpAny_bind (nextOf_tuple_end (s := { s with heap := h1 }) hh (Z1.hit 0 i0 l0 rfl rfl) (Z1.hls 0 l0 x0 rfl rfl) (by simpa using hx) fun h3 e s3 he => ?_)
    exact hE h3 e (fun c o c1 _ c3 q => s3 _ _ (fun q => c3 (q ▸ List.mem_cons_self)) (s1.extBut _ _ c1 q)) he
theorem pyNext_zn_item {col : List Value} {Q : Option Value → Shared → Prop} {is ls : List Addr} {xss : List (List Value)} (D : ZA z TI TO is ls) (Z : ZN s.heap z TI TO is ls f0 f1 (fun _ => k) ws xss) (hf : f0 = .none ∨ ∃ a t, f0 = .int a t)
    (n0 : is ≠ []) (nz : is.length ≤ 1000) (hn : ls.length = is.length) (hws : ws.length = is.length) (hc : col.length = is.length) (hcol : ∀ j, j < is.length → ∃ xs x, xss[j]? = some xs ∧ xs[k]? = some x ∧ col[j]? = some x)
    (hQ : ∀ h' g0 g1 vs, ZN h' z TI TO is ls g0 g1 (fun _ => k + 1) vs xss → (g0 = .none ∨ ∃ a t, g0 = .int a t) → vs.length = is.length → h'.get? s.heap.objs.size = some { cls := .type "tuple", data := .seq col.toArray } →
      h'.objs.size = s.heap.objs.size + 1 → KP z TO is s.heap h' → Q (some (.ref s.heap.objs.size)) { s with heap := h' }) :
    wpAny (model prog w) A (pyNext (.ref z)) Q E s := by
  have ty : s.TypeIs (.ref z) "zip" := ⟨_, Z.hz, rfl⟩
  unfold pyNext
  refine wpAny_bind (wpAny_attempt (wpAny_callSpecial?_slot (name := Str.ofString "__next__") ty F.slot_zip_next (wpAny_call_entry F.slot_zip_next ty F.entry_zip_next ?_ (F.args_zip_next_1 _))))
  exact zn_item D Z hf n0 nz hn hws hc hcol fun h' g0 g1 vs a1 a2 a3 a4 a5 a6 => wpAny_pure (hQ h' g0 g1 vs a1 a2 a3 a4 a5 a6)
theorem pyNext_zn_end {Q : Option Value → Shared → Prop} (hh : A.handled = none) (D : ZA z TI TO (i0 :: is) (l0 :: ls)) (Z : ZN s.heap z TI TO (i0 :: is) (l0 :: ls) f0 f1 (fun _ => k) ws (x0 :: xss)) (hf : f0 = .none ∨ ∃ a t, f0 = .int a t)
    (hx : x0[k]? = none) (hQ : ∀ h', KP z TO (i0 :: is) s.heap h' → Q none { s with heap := h' }) : wpAny (model prog w) A (pyNext (.ref z)) Q E s := by
  have ty : s.TypeIs (.ref z) "zip" := ⟨_, Z.hz, rfl⟩
  unfold pyNext
  refine wpAny_bind (wpAny_attempt (wpAny_callSpecial?_slot (name := Str.ofString "__next__") ty F.slot_zip_next (wpAny_call_entry F.slot_zip_next ty F.entry_zip_next ?_ (F.args_zip_next_1 _))))
  refine zn_end hh D Z hf hx fun h' e hk he => ?_
  obtain ⟨o, ho, hc⟩ := he
  exact wpAny_bind (wpAny_isInstance (T := "StopIteration") (b := true) ⟨o, ho, hc⟩ isSubtype_stop (wpAny_pure (hQ _ hk)))
theorem pyIter_zn {is ls : List Addr} {xss : List (List Value)} {ks : Nat → Nat} {Q : Value → Shared → Prop} (Z : ZN s.heap z TI TO is ls f0 f1 ks ws xss) (h : Q (.ref z) s) : wpAny (model prog w) A (pyIter (.ref z)) Q E s := by
  have ty : s.TypeIs (.ref z) "zip" := ⟨_, Z.hz, rfl⟩
  refine wpAny_pyIter_slot ty F.slot_zip_iter (wpAny_call_entry F.slot_zip_iter ty F.entry_zip_iter ?_ (F.args_zip_iter_1 _))
  show wpAny _ _ (ret (.ref z)) _ _ s
  exact wpAny_pure ⟨_, rfl, "zip", _, ty, F.slot_zip_next.lookup, h⟩
end
end RZ
namespace RZ
open PySem PySem.Spec PyProof.Rows L2
open PySem.Sem (wp)
abbrev itO (l : Addr) : Obj := { cls := .type "tuple_iterator", data := .fields #[.ref l, .int 0 0] }
def zAll (h : Heap) : List Addr → Heap
  | [] => h
  | l :: r => zAll (h.push (itO l)) r
theorem tc_zip1 (v1 : Value) : checkTypeCall "zip" ⟨[v1], []⟩ = pure () := by kernel_rfl
theorem nc_zip1 (v1 : Value) : checkBuiltinCall "zip.__new__" ⟨[.type "zip", v1], []⟩ = pure () := by kernel_rfl
theorem ao_zip1 (o v1 : Value) : argsOk "object.__init__" ⟨[o, v1], []⟩ := by
  unfold argsOk
  rw [signature?_of (id := "object.__init__") (n := ['_', '_', 't', 'i', 'n', 'i', '_', '_']) (o := ['t', 'c', 'e', 'j', 'b', 'o']) (by kernel_rfl) PySem.F.owner_object]
  kernel_rfl
theorem mt_zip1 (l1 : Addr) (x1 : Array Value) : Meets (Builtin.«zip.__new__» ⟨[.type "zip", .ref l1], []⟩) (fun _ R s => s.heap.IsTuple l1 x1 ∧
    R (.ok (.ret (.ref (((s.heap.push (itO l1)).push { cls := .type "tuple", data := .seq #[.ref s.heap.objs.size] }).push { cls := .type "tuple", data := .seq #[.none] }).objs.size))) { s with heap := ((((s.heap.push (itO l1)).push { cls := .type "tuple", data := .seq #[.ref s.heap.objs.size] }).push { cls := .type "tuple", data := .seq #[.none] }).push { cls := .type "zip", data := .fields #[.none, .bool false, .bool false, .ref (s.heap.push (itO l1)).objs.size, .ref ((s.heap.push (itO l1)).push { cls := .type "tuple", data := .seq #[.ref s.heap.objs.size] }).objs.size] }) }) :=
  .of_wp fun prog w A R s h => by
    obtain ⟨hp, g, d, tk, os⟩ := s
    obtain ⟨q1, h⟩ := h
    have sz := sub_zip
    have y1 : Heap.IsTuple (Shared.heap ⟨hp, g, d, tk, os⟩) l1 x1 := q1
    wp_walk using wpAny_pyIter_tuple y1
    exact ⟨_, rfl, h⟩
theorem tc_zip2 (v1 v2 : Value) : checkTypeCall "zip" ⟨[v1, v2], []⟩ = pure () := by kernel_rfl
theorem nc_zip2 (v1 v2 : Value) : checkBuiltinCall "zip.__new__" ⟨[.type "zip", v1, v2], []⟩ = pure () := by kernel_rfl
theorem ao_zip2 (o v1 v2 : Value) : argsOk "object.__init__" ⟨[o, v1, v2], []⟩ := by
  unfold argsOk
  rw [signature?_of (id := "object.__init__") (n := ['_', '_', 't', 'i', 'n', 'i', '_', '_']) (o := ['t', 'c', 'e', 'j', 'b', 'o']) (by kernel_rfl) PySem.F.owner_object]
  kernel_rfl
theorem mt_zip2 (l1 l2 : Addr) (x1 x2 : Array Value) : Meets (Builtin.«zip.__new__» ⟨[.type "zip", .ref l1, .ref l2], []⟩) (fun _ R s => s.heap.IsTuple l1 x1 ∧ s.heap.IsTuple l2 x2 ∧
    R (.ok (.ret (.ref ((((s.heap.push (itO l1)).push (itO l2)).push { cls := .type "tuple", data := .seq #[.ref s.heap.objs.size, .ref (s.heap.push (itO l1)).objs.size] }).push { cls := .type "tuple", data := .seq #[.none, .none] }).objs.size))) { s with heap := (((((s.heap.push (itO l1)).push (itO l2)).push { cls := .type "tuple", data := .seq #[.ref s.heap.objs.size, .ref (s.heap.push (itO l1)).objs.size] }).push { cls := .type "tuple", data := .seq #[.none, .none] }).push { cls := .type "zip", data := .fields #[.none, .bool false, .bool false, .ref ((s.heap.push (itO l1)).push (itO l2)).objs.size, .ref (((s.heap.push (itO l1)).push (itO l2)).push { cls := .type "tuple", data := .seq #[.ref s.heap.objs.size, .ref (s.heap.push (itO l1)).objs.size] }).objs.size] }) }) :=
  .of_wp fun prog w A R s h => by
    obtain ⟨hp, g, d, tk, os⟩ := s
    obtain ⟨q1, q2, h⟩ := h
    have sz := sub_zip
    have y1 : Heap.IsTuple (Shared.heap ⟨hp, g, d, tk, os⟩) l1 x1 := q1
    have y2 : Heap.IsTuple (Shared.heap ⟨(hp.push (itO l1)), g, d, tk, os⟩) l2 x2 := (Heap.IsTuple.push q2 _)
    wp_walk using wpAny_pyIter_tuple y1, wpAny_pyIter_tuple y2
    exact ⟨_, rfl, h⟩
theorem tc_zip3 (v1 v2 v3 : Value) : checkTypeCall "zip" ⟨[v1, v2, v3], []⟩ = pure () := by kernel_rfl
theorem nc_zip3 (v1 v2 v3 : Value) : checkBuiltinCall "zip.__new__" ⟨[.type "zip", v1, v2, v3], []⟩ = pure () := by kernel_rfl
theorem ao_zip3 (o v1 v2 v3 : Value) : argsOk "object.__init__" ⟨[o, v1, v2, v3], []⟩ := by
  unfold argsOk
  rw [signature?_of (id := "object.__init__") (n := ['_', '_', 't', 'i', 'n', 'i', '_', '_']) (o := ['t', 'c', 'e', 'j', 'b', 'o']) (by kernel_rfl) PySem.F.owner_object]
  kernel_rfl
theorem mt_zip3 (l1 l2 l3 : Addr) (x1 x2 x3 : Array Value) : Meets (Builtin.«zip.__new__» ⟨[.type "zip", .ref l1, .ref l2, .ref l3], []⟩) (fun _ R s => s.heap.IsTuple l1 x1 ∧ s.heap.IsTuple l2 x2 ∧ s.heap.IsTuple l3 x3 ∧
    R (.ok (.ret (.ref (((((s.heap.push (itO l1)).push (itO l2)).push (itO l3)).push { cls := .type "tuple", data := .seq #[.ref s.heap.objs.size, .ref (s.heap.push (itO l1)).objs.size, .ref ((s.heap.push (itO l1)).push (itO l2)).objs.size] }).push { cls := .type "tuple", data := .seq #[.none, .none, .none] }).objs.size))) { s with heap := ((((((s.heap.push (itO l1)).push (itO l2)).push (itO l3)).push { cls := .type "tuple", data := .seq #[.ref s.heap.objs.size, .ref (s.heap.push (itO l1)).objs.size, .ref ((s.heap.push (itO l1)).push (itO l2)).objs.size] }).push { cls := .type "tuple", data := .seq #[.none, .none, .none] }).push { cls := .type "zip", data := .fields #[.none, .bool false, .bool false, .ref (((s.heap.push (itO l1)).push (itO l2)).push (itO l3)).objs.size, .ref ((((s.heap.push (itO l1)).push (itO l2)).push (itO l3)).push { cls := .type "tuple", data := .seq #[.ref s.heap.objs.size, .ref (s.heap.push (itO l1)).objs.size, .ref ((s.heap.push (itO l1)).push (itO l2)).objs.size] }).objs.size] }) }) :=
  .of_wp fun prog w A R s h => by
    obtain ⟨hp, g, d, tk, os⟩ := s
    obtain ⟨q1, q2, q3, h⟩ := h
    have sz := sub_zip
    have y1 : Heap.IsTuple (Shared.heap ⟨hp, g, d, tk, os⟩) l1 x1 := q1
    have y2 : Heap.IsTuple (Shared.heap ⟨(hp.push (itO l1)), g, d, tk, os⟩) l2 x2 := (Heap.IsTuple.push q2 _)
    have y3 : Heap.IsTuple (Shared.heap ⟨((hp.push (itO l1)).push (itO l2)), g, d, tk, os⟩) l3 x3 := (Heap.IsTuple.push (Heap.IsTuple.push q3 _) _)
    wp_walk using wpAny_pyIter_tuple y1, wpAny_pyIter_tuple y2, wpAny_pyIter_tuple y3
    exact ⟨_, rfl, h⟩
theorem tc_zip4 (v1 v2 v3 v4 : Value) : checkTypeCall "zip" ⟨[v1, v2, v3, v4], []⟩ = pure () := by kernel_rfl
theorem nc_zip4 (v1 v2 v3 v4 : Value) : checkBuiltinCall "zip.__new__" ⟨[.type "zip", v1, v2, v3, v4], []⟩ = pure () := by kernel_rfl
theorem ao_zip4 (o v1 v2 v3 v4 : Value) : argsOk "object.__init__" ⟨[o, v1, v2, v3, v4], []⟩ := by
  unfold argsOk
  rw [signature?_of (id := "object.__init__") (n := ['_', '_', 't', 'i', 'n', 'i', '_', '_']) (o := ['t', 'c', 'e', 'j', 'b', 'o']) (by kernel_rfl) PySem.F.owner_object]
  kernel_rfl
theorem mt_zip4 (l1 l2 l3 l4 : Addr) (x1 x2 x3 x4 : Array Value) : Meets (Builtin.«zip.__new__» ⟨[.type "zip", .ref l1, .ref l2, .ref l3, .ref l4], []⟩) (fun _ R s => s.heap.IsTuple l1 x1 ∧ s.heap.IsTuple l2 x2 ∧ s.heap.IsTuple l3 x3 ∧ s.heap.IsTuple l4 x4 ∧
    R (.ok (.ret (.ref ((((((s.heap.push (itO l1)).push (itO l2)).push (itO l3)).push (itO l4)).push { cls := .type "tuple", data := .seq #[.ref s.heap.objs.size, .ref (s.heap.push (itO l1)).objs.size, .ref ((s.heap.push (itO l1)).push (itO l2)).objs.size, .ref (((s.heap.push (itO l1)).push (itO l2)).push (itO l3)).objs.size] }).push { cls := .type "tuple", data := .seq #[.none, .none, .none, .none] }).objs.size))) { s with heap := (((((((s.heap.push (itO l1)).push (itO l2)).push (itO l3)).push (itO l4)).push { cls := .type "tuple", data := .seq #[.ref s.heap.objs.size, .ref (s.heap.push (itO l1)).objs.size, .ref ((s.heap.push (itO l1)).push (itO l2)).objs.size, .ref (((s.heap.push (itO l1)).push (itO l2)).push (itO l3)).objs.size] }).push { cls := .type "tuple", data := .seq #[.none, .none, .none, .none] }).push { cls := .type "zip", data := .fields #[.none, .bool false, .bool false, .ref ((((s.heap.push (itO l1)).push (itO l2)).push (itO l3)).push (itO l4)).objs.size, .ref (((((s.heap.push (itO l1)).push (itO l2)).push (itO l3)).push (itO l4)).push { cls := .type "tuple", data := .seq #[.ref s.heap.objs.size, .ref (s.heap.push (itO l1)).objs.size, .ref ((s.heap.push (itO l1)).push (itO l2)).objs.size, .ref (((s.heap.push (itO l1)).push (itO l2)).push (itO l3)).objs.size] }).objs.size] }) }) :=
  .of_wp fun prog w A R s h => by
    obtain ⟨hp, g, d, tk, os⟩ := s
    obtain ⟨q1, q2, q3, q4, h⟩ := h
    have sz := sub_zip
    have y1 : Heap.IsTuple (Shared.heap ⟨hp, g, d, tk, os⟩) l1 x1 := q1
    have y2 : Heap.IsTuple (Shared.heap ⟨(hp.push (itO l1)), g, d, tk, os⟩) l2 x2 := (Heap.IsTuple.push q2 _)
    have y3 : Heap.IsTuple (Shared.heap ⟨((hp.push (itO l1)).push (itO l2)), g, d, tk, os⟩) l3 x3 := (Heap.IsTuple.push (Heap.IsTuple.push q3 _) _)
    have y4 : Heap.IsTuple (Shared.heap ⟨(((hp.push (itO l1)).push (itO l2)).push (itO l3)), g, d, tk, os⟩) l4 x4 := (Heap.IsTuple.push (Heap.IsTuple.push (Heap.IsTuple.push q4 _) _) _)
    wp_walk using wpAny_pyIter_tuple y1, wpAny_pyIter_tuple y2, wpAny_pyIter_tuple y3, wpAny_pyIter_tuple y4
    exact ⟨_, rfl, h⟩
end RZ
namespace RZ
open PySem PySem.Spec PyProof.Rows L2
open PySem.Sem (wp)
section
variable {prog : Program} {w : World} {A : Around} {E : Value → Shared → Prop} {s : Shared}
theorem call_z1 {l1 : Addr} {x1 : List Value} {Q : Value → Shared → Prop} (q1 : s.heap.IsTuple l1 x1.toArray)
    (h : ∀ h', ZN h' (s.heap.objs.size + 3) (s.heap.objs.size + 1) (s.heap.objs.size + 2) [s.heap.objs.size] [l1] .none (.bool false) (fun _ => 0) [.none] [x1] → h'.objs.size = s.heap.objs.size + 4 → (∀ c o, s.heap.get? c = some o → h'.get? c = some o) → Q (.ref (s.heap.objs.size + 3)) { s with heap := h' }) :
    wpAny (model prog w) A (call (.type "zip") [.ref l1]) Q E s := by
  refine callType_new F.called_zip (by decide) (tc_zip1 _) (nc_zip1 _) (fun o => ao_zip1 o _) F.entry_zip_new (mt_zip1 l1 x1.toArray) ⟨q1, ?_⟩
  have z1 : (s.heap.push (itO l1)).objs.size = s.heap.objs.size + 1 := Heap.size_push ..
  have z2 : ((s.heap.push (itO l1)).push { cls := .type "tuple", data := .seq #[.ref s.heap.objs.size] }).objs.size = s.heap.objs.size + 2 := by rw [Heap.size_push, z1]
  have z3 : (((s.heap.push (itO l1)).push { cls := .type "tuple", data := .seq #[.ref s.heap.objs.size] }).push { cls := .type "tuple", data := .seq #[.none] }).objs.size = s.heap.objs.size + 3 := by rw [Heap.size_push, z2]
  have z4 : ((((s.heap.push (itO l1)).push { cls := .type "tuple", data := .seq #[.ref s.heap.objs.size] }).push { cls := .type "tuple", data := .seq #[.none] }).push { cls := .type "zip", data := .fields #[.none, .bool false, .bool false, .ref (s.heap.push (itO l1)).objs.size, .ref ((s.heap.push (itO l1)).push { cls := .type "tuple", data := .seq #[.ref s.heap.objs.size] }).objs.size] }).objs.size = s.heap.objs.size + 4 := by rw [Heap.size_push, z3]
  have g0 : ((((s.heap.push (itO l1)).push { cls := .type "tuple", data := .seq #[.ref s.heap.objs.size] }).push { cls := .type "tuple", data := .seq #[.none] }).push { cls := .type "zip", data := .fields #[.none, .bool false, .bool false, .ref (s.heap.push (itO l1)).objs.size, .ref ((s.heap.push (itO l1)).push { cls := .type "tuple", data := .seq #[.ref s.heap.objs.size] }).objs.size] }).get? s.heap.objs.size = some _ := (Heap.get?_push_of_some _ (Heap.get?_push_of_some _ (Heap.get?_push_of_some _ (Heap.get?_push_size _ rfl))))
  have g1 : ((((s.heap.push (itO l1)).push { cls := .type "tuple", data := .seq #[.ref s.heap.objs.size] }).push { cls := .type "tuple", data := .seq #[.none] }).push { cls := .type "zip", data := .fields #[.none, .bool false, .bool false, .ref (s.heap.push (itO l1)).objs.size, .ref ((s.heap.push (itO l1)).push { cls := .type "tuple", data := .seq #[.ref s.heap.objs.size] }).objs.size] }).get? (s.heap.push (itO l1)).objs.size = some _ := (Heap.get?_push_of_some _ (Heap.get?_push_of_some _ (Heap.get?_push_size _ rfl)))
  have g2 : ((((s.heap.push (itO l1)).push { cls := .type "tuple", data := .seq #[.ref s.heap.objs.size] }).push { cls := .type "tuple", data := .seq #[.none] }).push { cls := .type "zip", data := .fields #[.none, .bool false, .bool false, .ref (s.heap.push (itO l1)).objs.size, .ref ((s.heap.push (itO l1)).push { cls := .type "tuple", data := .seq #[.ref s.heap.objs.size] }).objs.size] }).get? ((s.heap.push (itO l1)).push { cls := .type "tuple", data := .seq #[.ref s.heap.objs.size] }).objs.size = some _ := (Heap.get?_push_of_some _ (Heap.get?_push_size _ rfl))
  have g3 : ((((s.heap.push (itO l1)).push { cls := .type "tuple", data := .seq #[.ref s.heap.objs.size] }).push { cls := .type "tuple", data := .seq #[.none] }).push { cls := .type "zip", data := .fields #[.none, .bool false, .bool false, .ref (s.heap.push (itO l1)).objs.size, .ref ((s.heap.push (itO l1)).push { cls := .type "tuple", data := .seq #[.ref s.heap.objs.size] }).objs.size] }).get? (((s.heap.push (itO l1)).push { cls := .type "tuple", data := .seq #[.ref s.heap.objs.size] }).push { cls := .type "tuple", data := .seq #[.none] }).objs.size = some _ := (Heap.get?_push_size _ rfl)
  have up : ∀ c o, s.heap.get? c = some o → ((((s.heap.push (itO l1)).push { cls := .type "tuple", data := .seq #[.ref s.heap.objs.size] }).push { cls := .type "tuple", data := .seq #[.none] }).push { cls := .type "zip", data := .fields #[.none, .bool false, .bool false, .ref (s.heap.push (itO l1)).objs.size, .ref ((s.heap.push (itO l1)).push { cls := .type "tuple", data := .seq #[.ref s.heap.objs.size] }).objs.size] }).get? c = some o := fun c o q => (Heap.get?_push_of_some _ (Heap.get?_push_of_some _ (Heap.get?_push_of_some _ (Heap.get?_push_of_some _ q))))
  show _ ∧ _
  generalize ((((s.heap.push (itO l1)).push { cls := .type "tuple", data := .seq #[.ref s.heap.objs.size] }).push { cls := .type "tuple", data := .seq #[.none] }).push { cls := .type "zip", data := .fields #[.none, .bool false, .bool false, .ref (s.heap.push (itO l1)).objs.size, .ref ((s.heap.push (itO l1)).push { cls := .type "tuple", data := .seq #[.ref s.heap.objs.size] }).objs.size] }) = h9 at g0 g1 g2 g3 z4 up ⊢
  rw [z1] at g1
  rw [z2] at g2
  rw [z1, z2, z3] at g3
  rw [z3]
  refine ⟨⟨_, g3, rfl⟩, h _ ⟨g3, ?_, ?_, fun j i l a b => match j, a, b with
    | 0, a, b => by cases a; cases b; exact ⟨_, g0, rfl, rfl⟩
    | _ + 1, a, b => by simp at a, fun j l xs a b => match j, a, b with
    | 0, a, b => by cases a; cases b; obtain ⟨o, u, v⟩ := q1; exact ⟨o, up _ _ u, v⟩
    | _ + 1, a, b => by simp at a⟩ z4 up⟩
  · exact g1
  · exact g2
theorem call_z2 {l1 l2 : Addr} {x1 x2 : List Value} {Q : Value → Shared → Prop} (q1 : s.heap.IsTuple l1 x1.toArray) (q2 : s.heap.IsTuple l2 x2.toArray)
    (h : ∀ h', ZN h' (s.heap.objs.size + 4) (s.heap.objs.size + 2) (s.heap.objs.size + 3) [s.heap.objs.size, s.heap.objs.size + 1] [l1, l2] .none (.bool false) (fun _ => 0) [.none, .none] [x1, x2] → h'.objs.size = s.heap.objs.size + 5 → (∀ c o, s.heap.get? c = some o → h'.get? c = some o) → Q (.ref (s.heap.objs.size + 4)) { s with heap := h' }) :
    wpAny (model prog w) A (call (.type "zip") [.ref l1, .ref l2]) Q E s := by
  refine callType_new F.called_zip (by decide) (tc_zip2 _ _) (nc_zip2 _ _) (fun o => ao_zip2 o _ _) F.entry_zip_new (mt_zip2 l1 l2 x1.toArray x2.toArray) ⟨q1, q2, ?_⟩
  have z1 : (s.heap.push (itO l1)).objs.size = s.heap.objs.size + 1 := Heap.size_push ..
  have z2 : ((s.heap.push (itO l1)).push (itO l2)).objs.size = s.heap.objs.size + 2 := by rw [Heap.size_push, z1]
  have z3 : (((s.heap.push (itO l1)).push (itO l2)).push { cls := .type "tuple", data := .seq #[.ref s.heap.objs.size, .ref (s.heap.push (itO l1)).objs.size] }).objs.size = s.heap.objs.size + 3 := by rw [Heap.size_push, z2]
  have z4 : ((((s.heap.push (itO l1)).push (itO l2)).push { cls := .type "tuple", data := .seq #[.ref s.heap.objs.size, .ref (s.heap.push (itO l1)).objs.size] }).push { cls := .type "tuple", data := .seq #[.none, .none] }).objs.size = s.heap.objs.size + 4 := by rw [Heap.size_push, z3]
  have z5 : (((((s.heap.push (itO l1)).push (itO l2)).push { cls := .type "tuple", data := .seq #[.ref s.heap.objs.size, .ref (s.heap.push (itO l1)).objs.size] }).push { cls := .type "tuple", data := .seq #[.none, .none] }).push { cls := .type "zip", data := .fields #[.none, .bool false, .bool false, .ref ((s.heap.push (itO l1)).push (itO l2)).objs.size, .ref (((s.heap.push (itO l1)).push (itO l2)).push { cls := .type "tuple", data := .seq #[.ref s.heap.objs.size, .ref (s.heap.push (itO l1)).objs.size] }).objs.size] }).objs.size = s.heap.objs.size + 5 := by rw [Heap.size_push, z4]
  have g0 : (((((s.heap.push (itO l1)).push (itO l2)).push { cls := .type "tuple", data := .seq #[.ref s.heap.objs.size, .ref (s.heap.push (itO l1)).objs.size] }).push { cls := .type "tuple", data := .seq #[.none, .none] }).push { cls := .type "zip", data := .fields #[.none, .bool false, .bool false, .ref ((s.heap.push (itO l1)).push (itO l2)).objs.size, .ref (((s.heap.push (itO l1)).push (itO l2)).push { cls := .type "tuple", data := .seq #[.ref s.heap.objs.size, .ref (s.heap.push (itO l1)).objs.size] }).objs.size] }).get? s.heap.objs.size = some _ := (Heap.get?_push_of_some _ (Heap.get?_push_of_some _ (Heap.get?_push_of_some _ (Heap.get?_push_of_some _ (Heap.get?_push_size _ rfl)))))
  have g1 : (((((s.heap.push (itO l1)).push (itO l2)).push { cls := .type "tuple", data := .seq #[.ref s.heap.objs.size, .ref (s.heap.push (itO l1)).objs.size] }).push { cls := .type "tuple", data := .seq #[.none, .none] }).push { cls := .type "zip", data := .fields #[.none, .bool false, .bool false, .ref ((s.heap.push (itO l1)).push (itO l2)).objs.size, .ref (((s.heap.push (itO l1)).push (itO l2)).push { cls := .type "tuple", data := .seq #[.ref s.heap.objs.size, .ref (s.heap.push (itO l1)).objs.size] }).objs.size] }).get? (s.heap.push (itO l1)).objs.size = some _ := (Heap.get?_push_of_some _ (Heap.get?_push_of_some _ (Heap.get?_push_of_some _ (Heap.get?_push_size _ rfl))))
  have g2 : (((((s.heap.push (itO l1)).push (itO l2)).push { cls := .type "tuple", data := .seq #[.ref s.heap.objs.size, .ref (s.heap.push (itO l1)).objs.size] }).push { cls := .type "tuple", data := .seq #[.none, .none] }).push { cls := .type "zip", data := .fields #[.none, .bool false, .bool false, .ref ((s.heap.push (itO l1)).push (itO l2)).objs.size, .ref (((s.heap.push (itO l1)).push (itO l2)).push { cls := .type "tuple", data := .seq #[.ref s.heap.objs.size, .ref (s.heap.push (itO l1)).objs.size] }).objs.size] }).get? ((s.heap.push (itO l1)).push (itO l2)).objs.size = some _ := (Heap.get?_push_of_some _ (Heap.get?_push_of_some _ (Heap.get?_push_size _ rfl)))
  have g3 : (((((s.heap.push (itO l1)).push (itO l2)).push { cls := .type "tuple", data := .seq #[.ref s.heap.objs.size, .ref (s.heap.push (itO l1)).objs.size] }).push { cls := .type "tuple", data := .seq #[.none, .none] }).push { cls := .type "zip", data := .fields #[.none, .bool false, .bool false, .ref ((s.heap.push (itO l1)).push (itO l2)).objs.size, .ref (((s.heap.push (itO l1)).push (itO l2)).push { cls := .type "tuple", data := .seq #[.ref s.heap.objs.size, .ref (s.heap.push (itO l1)).objs.size] }).objs.size] }).get? (((s.heap.push (itO l1)).push (itO l2)).push { cls := .type "tuple", data := .seq #[.ref s.heap.objs.size, .ref (s.heap.push (itO l1)).objs.size] }).objs.size = some _ := (Heap.get?_push_of_some _ (Heap.get?_push_size _ rfl))
  have g4 : (((((s.heap.push (itO l1)).push (itO l2)).push { cls := .type "tuple", data := .seq #[.ref s.heap.objs.size, .ref (s.heap.push (itO l1)).objs.size] }).push { cls := .type "tuple", data := .seq #[.none, .none] }).push { cls := .type "zip", data := .fields #[.none, .bool false, .bool false, .ref ((s.heap.push (itO l1)).push (itO l2)).objs.size, .ref (((s.heap.push (itO l1)).push (itO l2)).push { cls := .type "tuple", data := .seq #[.ref s.heap.objs.size, .ref (s.heap.push (itO l1)).objs.size] }).objs.size] }).get? ((((s.heap.push (itO l1)).push (itO l2)).push { cls := .type "tuple", data := .seq #[.ref s.heap.objs.size, .ref (s.heap.push (itO l1)).objs.size] }).push { cls := .type "tuple", data := .seq #[.none, .none] }).objs.size = some _ := (Heap.get?_push_size _ rfl)
  have up : ∀ c o, s.heap.get? c = some o → (((((s.heap.push (itO l1)).push (itO l2)).push { cls := .type "tuple", data := .seq #[.ref s.heap.objs.size, .ref (s.heap.push (itO l1)).objs.size] }).push { cls := .type "tuple", data := .seq #[.none, .none] }).push { cls := .type "zip", data := .fields #[.none, .bool false, .bool false, .ref ((s.heap.push (itO l1)).push (itO l2)).objs.size, .ref (((s.heap.push (itO l1)).push (itO l2)).push { cls := .type "tuple", data := .seq #[.ref s.heap.objs.size, .ref (s.heap.push (itO l1)).objs.size] }).objs.size] }).get? c = some o := fun c o q => (Heap.get?_push_of_some _ (Heap.get?_push_of_some _ (Heap.get?_push_of_some _ (Heap.get?_push_of_some _ (Heap.get?_push_of_some _ q)))))
  show _ ∧ _
  generalize (((((s.heap.push (itO l1)).push (itO l2)).push { cls := .type "tuple", data := .seq #[.ref s.heap.objs.size, .ref (s.heap.push (itO l1)).objs.size] }).push { cls := .type "tuple", data := .seq #[.none, .none] }).push { cls := .type "zip", data := .fields #[.none, .bool false, .bool false, .ref ((s.heap.push (itO l1)).push (itO l2)).objs.size, .ref (((s.heap.push (itO l1)).push (itO l2)).push { cls := .type "tuple", data := .seq #[.ref s.heap.objs.size, .ref (s.heap.push (itO l1)).objs.size] }).objs.size] }) = h9 at g0 g1 g2 g3 g4 z5 up ⊢
  rw [z1] at g1
  rw [z1, z2] at g2
  rw [z3] at g3
  rw [z2, z3, z4] at g4
  rw [z4]
  refine ⟨⟨_, g4, rfl⟩, h _ ⟨g4, ?_, ?_, fun j i l a b => match j, a, b with
    | 0, a, b => by cases a; cases b; exact ⟨_, g0, rfl, rfl⟩
    | 1, a, b => by cases a; cases b; exact ⟨_, g1, rfl, rfl⟩
    | _ + 2, a, b => by simp at a, fun j l xs a b => match j, a, b with
    | 0, a, b => by cases a; cases b; obtain ⟨o, u, v⟩ := q1; exact ⟨o, up _ _ u, v⟩
    | 1, a, b => by cases a; cases b; obtain ⟨o, u, v⟩ := q2; exact ⟨o, up _ _ u, v⟩
    | _ + 2, a, b => by simp at a⟩ z5 up⟩
  · exact g2
  · exact g3
theorem call_z3 {l1 l2 l3 : Addr} {x1 x2 x3 : List Value} {Q : Value → Shared → Prop} (q1 : s.heap.IsTuple l1 x1.toArray) (q2 : s.heap.IsTuple l2 x2.toArray) (q3 : s.heap.IsTuple l3 x3.toArray)
    (h : ∀ h', ZN h' (s.heap.objs.size + 5) (s.heap.objs.size + 3) (s.heap.objs.size + 4) [s.heap.objs.size, s.heap.objs.size + 1, s.heap.objs.size + 2] [l1, l2, l3] .none (.bool false) (fun _ => 0) [.none, .none, .none] [x1, x2, x3] → h'.objs.size = s.heap.objs.size + 6 → (∀ c o, s.heap.get? c = some o → h'.get? c = some o) → Q (.ref (s.heap.objs.size + 5)) { s with heap := h' }) :
    wpAny (model prog w) A (call (.type "zip") [.ref l1, .ref l2, .ref l3]) Q E s := by
  refine callType_new F.called_zip (by decide) (tc_zip3 _ _ _) (nc_zip3 _ _ _) (fun o => ao_zip3 o _ _ _) F.entry_zip_new (mt_zip3 l1 l2 l3 x1.toArray x2.toArray x3.toArray) ⟨q1, q2, q3, ?_⟩
  have z1 : (s.heap.push (itO l1)).objs.size = s.heap.objs.size + 1 := Heap.size_push ..
  have z2 : ((s.heap.push (itO l1)).push (itO l2)).objs.size = s.heap.objs.size + 2 := by rw [Heap.size_push, z1]
  have z3 : (((s.heap.push (itO l1)).push (itO l2)).push (itO l3)).objs.size = s.heap.objs.size + 3 := by rw [Heap.size_push, z2]
  have z4 : ((((s.heap.push (itO l1)).push (itO l2)).push (itO l3)).push { cls := .type "tuple", data := .seq #[.ref s.heap.objs.size, .ref (s.heap.push (itO l1)).objs.size, .ref ((s.heap.push (itO l1)).push (itO l2)).objs.size] }).objs.size = s.heap.objs.size + 4 := by rw [Heap.size_push, z3]
  have z5 : (((((s.heap.push (itO l1)).push (itO l2)).push (itO l3)).push { cls := .type "tuple", data := .seq #[.ref s.heap.objs.size, .ref (s.heap.push (itO l1)).objs.size, .ref ((s.heap.push (itO l1)).push (itO l2)).objs.size] }).push { cls := .type "tuple", data := .seq #[.none, .none, .none] }).objs.size = s.heap.objs.size + 5 := by rw [Heap.size_push, z4]
  have z6 : ((((((s.heap.push (itO l1)).push (itO l2)).push (itO l3)).push { cls := .type "tuple", data := .seq #[.ref s.heap.objs.size, .ref (s.heap.push (itO l1)).objs.size, .ref ((s.heap.push (itO l1)).push (itO l2)).objs.size] }).push { cls := .type "tuple", data := .seq #[.none, .none, .none] }).push { cls := .type "zip", data := .fields #[.none, .bool false, .bool false, .ref (((s.heap.push (itO l1)).push (itO l2)).push (itO l3)).objs.size, .ref ((((s.heap.push (itO l1)).push (itO l2)).push (itO l3)).push { cls := .type "tuple", data := .seq #[.ref s.heap.objs.size, .ref (s.heap.push (itO l1)).objs.size, .ref ((s.heap.push (itO l1)).push (itO l2)).objs.size] }).objs.size] }).objs.size = s.heap.objs.size + 6 := by rw [Heap.size_push, z5]
  have g0 : ((((((s.heap.push (itO l1)).push (itO l2)).push (itO l3)).push { cls := .type "tuple", data := .seq #[.ref s.heap.objs.size, .ref (s.heap.push (itO l1)).objs.size, .ref ((s.heap.push (itO l1)).push (itO l2)).objs.size] }).push { cls := .type "tuple", data := .seq #[.none, .none, .none] }).push { cls := .type "zip", data := .fields #[.none, .bool false, .bool false, .ref (((s.heap.push (itO l1)).push (itO l2)).push (itO l3)).objs.size, .ref ((((s.heap.push (itO l1)).push (itO l2)).push (itO l3)).push { cls := .type "tuple", data := .seq #[.ref s.heap.objs.size, .ref (s.heap.push (itO l1)).objs.size, .ref ((s.heap.push (itO l1)).push (itO l2)).objs.size] }).objs.size] }).get? s.heap.objs.size = some _ := (Heap.get?_push_of_some _ (Heap.get?_push_of_some _ (Heap.get?_push_of_some _ (Heap.get?_push_of_some _ (Heap.get?_push_of_some _ (Heap.get?_push_size _ rfl))))))
  have g1 : ((((((s.heap.push (itO l1)).push (itO l2)).push (itO l3)).push { cls := .type "tuple", data := .seq #[.ref s.heap.objs.size, .ref (s.heap.push (itO l1)).objs.size, .ref ((s.heap.push (itO l1)).push (itO l2)).objs.size] }).push { cls := .type "tuple", data := .seq #[.none, .none, .none] }).push { cls := .type "zip", data := .fields #[.none, .bool false, .bool false, .ref (((s.heap.push (itO l1)).push (itO l2)).push (itO l3)).objs.size, .ref ((((s.heap.push (itO l1)).push (itO l2)).push (itO l3)).push { cls := .type "tuple", data := .seq #[.ref s.heap.objs.size, .ref (s.heap.push (itO l1)).objs.size, .ref ((s.heap.push (itO l1)).push (itO l2)).objs.size] }).objs.size] }).get? (s.heap.push (itO l1)).objs.size = some _ := (Heap.get?_push_of_some _ (Heap.get?_push_of_some _ (Heap.get?_push_of_some _ (Heap.get?_push_of_some _ (Heap.get?_push_size _ rfl)))))
  have g2 : ((((((s.heap.push (itO l1)).push (itO l2)).push (itO l3)).push { cls := .type "tuple", data := .seq #[.ref s.heap.objs.size, .ref (s.heap.push (itO l1)).objs.size, .ref ((s.heap.push (itO l1)).push (itO l2)).objs.size] }).push { cls := .type "tuple", data := .seq #[.none, .none, .none] }).push { cls := .type "zip", data := .fields #[.none, .bool false, .bool false, .ref (((s.heap.push (itO l1)).push (itO l2)).push (itO l3)).objs.size, .ref ((((s.heap.push (itO l1)).push (itO l2)).push (itO l3)).push { cls := .type "tuple", data := .seq #[.ref s.heap.objs.size, .ref (s.heap.push (itO l1)).objs.size, .ref ((s.heap.push (itO l1)).push (itO l2)).objs.size] }).objs.size] }).get? ((s.heap.push (itO l1)).push (itO l2)).objs.size = some _ := (Heap.get?_push_of_some _ (Heap.get?_push_of_some _ (Heap.get?_push_of_some _ (Heap.get?_push_size _ rfl))))
  have g3 : ((((((s.heap.push (itO l1)).push (itO l2)).push (itO l3)).push { cls := .type "tuple", data := .seq #[.ref s.heap.objs.size, .ref (s.heap.push (itO l1)).objs.size, .ref ((s.heap.push (itO l1)).push (itO l2)).objs.size] }).push { cls := .type "tuple", data := .seq #[.none, .none, .none] }).push { cls := .type "zip", data := .fields #[.none, .bool false, .bool false, .ref (((s.heap.push (itO l1)).push (itO l2)).push (itO l3)).objs.size, .ref ((((s.heap.push (itO l1)).push (itO l2)).push (itO l3)).push { cls := .type "tuple", data := .seq #[.ref s.heap.objs.size, .ref (s.heap.push (itO l1)).objs.size, .ref ((s.heap.push (itO l1)).push (itO l2)).objs.size] }).objs.size] }).get? (((s.heap.push (itO l1)).push (itO l2)).push (itO l3)).objs.size = some _ := (Heap.get?_push_of_some _ (Heap.get?_push_of_some _ (Heap.get?_push_size _ rfl)))
  have g4 : ((((((s.heap.push (itO l1)).push (itO l2)).push (itO l3)).push { cls := .type "tuple", data := .seq #[.ref s.heap.objs.size, .ref (s.heap.push (itO l1)).objs.size, .ref ((s.heap.push (itO l1)).push (itO l2)).objs.size] }).push { cls := .type "tuple", data := .seq #[.none, .none, .none] }).push { cls := .type "zip", data := .fields #[.none, .bool false, .bool false, .ref (((s.heap.push (itO l1)).push (itO l2)).push (itO l3)).objs.size, .ref ((((s.heap.push (itO l1)).push (itO l2)).push (itO l3)).push { cls := .type "tuple", data := .seq #[.ref s.heap.objs.size, .ref (s.heap.push (itO l1)).objs.size, .ref ((s.heap.push (itO l1)).push (itO l2)).objs.size] }).objs.size] }).get? ((((s.heap.push (itO l1)).push (itO l2)).push (itO l3)).push { cls := .type "tuple", data := .seq #[.ref s.heap.objs.size, .ref (s.heap.push (itO l1)).objs.size, .ref ((s.heap.push (itO l1)).push (itO l2)).objs.size] }).objs.size = some _ := (Heap.get?_push_of_some _ (Heap.get?_push_size _ rfl))
  have g5 : ((((((s.heap.push (itO l1)).push (itO l2)).push (itO l3)).push { cls := .type "tuple", data := .seq #[.ref s.heap.objs.size, .ref (s.heap.push (itO l1)).objs.size, .ref ((s.heap.push (itO l1)).push (itO l2)).objs.size] }).push { cls := .type "tuple", data := .seq #[.none, .none, .none] }).push { cls := .type "zip", data := .fields #[.none, .bool false, .bool false, .ref (((s.heap.push (itO l1)).push (itO l2)).push (itO l3)).objs.size, .ref ((((s.heap.push (itO l1)).push (itO l2)).push (itO l3)).push { cls := .type "tuple", data := .seq #[.ref s.heap.objs.size, .ref (s.heap.push (itO l1)).objs.size, .ref ((s.heap.push (itO l1)).push (itO l2)).objs.size] }).objs.size] }).get? (((((s.heap.push (itO l1)).push (itO l2)).push (itO l3)).push { cls := .type "tuple", data := .seq #[.ref s.heap.objs.size, .ref (s.heap.push (itO l1)).objs.size, .ref ((s.heap.push (itO l1)).push (itO l2)).objs.size] }).push { cls := .type "tuple", data := .seq #[.none, .none, .none] }).objs.size = some _ := (Heap.get?_push_size _ rfl)
  have up : ∀ c o, s.heap.get? c = some o → ((((((s.heap.push (itO l1)).push (itO l2)).push (itO l3)).push { cls := .type "tuple", data := .seq #[.ref s.heap.objs.size, .ref (s.heap.push (itO l1)).objs.size, .ref ((s.heap.push (itO l1)).push (itO l2)).objs.size] }).push { cls := .type "tuple", data := .seq #[.none, .none, .none] }).push { cls := .type "zip", data := .fields #[.none, .bool false, .bool false, .ref (((s.heap.push (itO l1)).push (itO l2)).push (itO l3)).objs.size, .ref ((((s.heap.push (itO l1)).push (itO l2)).push (itO l3)).push { cls := .type "tuple", data := .seq #[.ref s.heap.objs.size, .ref (s.heap.push (itO l1)).objs.size, .ref ((s.heap.push (itO l1)).push (itO l2)).objs.size] }).objs.size] }).get? c = some o := fun c o q => (Heap.get?_push_of_some _ (Heap.get?_push_of_some _ (Heap.get?_push_of_some _ (Heap.get?_push_of_some _ (Heap.get?_push_of_some _ (Heap.get?_push_of_some _ q))))))
  show _ ∧ _
  generalize ((((((s.heap.push (itO l1)).push (itO l2)).push (itO l3)).push { cls := .type "tuple", data := .seq #[.ref s.heap.objs.size, .ref (s.heap.push (itO l1)).objs.size, .ref ((s.heap.push (itO l1)).push (itO l2)).objs.size] }).push { cls := .type "tuple", data := .seq #[.none, .none, .none] }).push { cls := .type "zip", data := .fields #[.none, .bool false, .bool false, .ref (((s.heap.push (itO l1)).push (itO l2)).push (itO l3)).objs.size, .ref ((((s.heap.push (itO l1)).push (itO l2)).push (itO l3)).push { cls := .type "tuple", data := .seq #[.ref s.heap.objs.size, .ref (s.heap.push (itO l1)).objs.size, .ref ((s.heap.push (itO l1)).push (itO l2)).objs.size] }).objs.size] }) = h9 at g0 g1 g2 g3 g4 g5 z6 up ⊢
  rw [z1] at g1
  rw [z2] at g2
  rw [z1, z2, z3] at g3
  rw [z4] at g4
  rw [z3, z4, z5] at g5
  rw [z5]
  refine ⟨⟨_, g5, rfl⟩, h _ ⟨g5, ?_, ?_, fun j i l a b => match j, a, b with
    | 0, a, b => by cases a; cases b; exact ⟨_, g0, rfl, rfl⟩
    | 1, a, b => by cases a; cases b; exact ⟨_, g1, rfl, rfl⟩
    | 2, a, b => by cases a; cases b; exact ⟨_, g2, rfl, rfl⟩
    | _ + 3, a, b => by simp at a, fun j l xs a b => match j, a, b with
    | 0, a, b => by cases a; cases b; obtain ⟨o, u, v⟩ := q1; exact ⟨o, up _ _ u, v⟩
    | 1, a, b => by cases a; cases b; obtain ⟨o, u, v⟩ := q2; exact ⟨o, up _ _ u, v⟩
    | 2, a, b => by cases a; cases b; obtain ⟨o, u, v⟩ := q3; exact ⟨o, up _ _ u, v⟩
    | _ + 3, a, b => by simp at a⟩ z6 up⟩
  · exact g3
  · exact g4
theorem call_z4 {l1 l2 l3 l4 : Addr} {x1 x2 x3 x4 : List Value} {Q : Value → Shared → Prop} (q1 : s.heap.IsTuple l1 x1.toArray) (q2 : s.heap.IsTuple l2 x2.toArray) (q3 : s.heap.IsTuple l3 x3.toArray) (q4 : s.heap.IsTuple l4 x4.toArray)
    (h : ∀ h', ZN h' (s.heap.objs.size + 6) (s.heap.objs.size + 4) (s.heap.objs.size + 5) [s.heap.objs.size, s.heap.objs.size + 1, s.heap.objs.size + 2, s.heap.objs.size + 3] [l1, l2, l3, l4] .none (.bool false) (fun _ => 0) [.none, .none, .none, .none] [x1, x2, x3, x4] → h'.objs.size = s.heap.objs.size + 7 → (∀ c o, s.heap.get? c = some o → h'.get? c = some o) → Q (.ref (s.heap.objs.size + 6)) { s with heap := h' }) :
    wpAny (model prog w) A (call (.type "zip") [.ref l1, .ref l2, .ref l3, .ref l4]) Q E s := by
  refine callType_new F.called_zip (by decide) (tc_zip4 _ _ _ _) (nc_zip4 _ _ _ _) (fun o => ao_zip4 o _ _ _ _) F.entry_zip_new (mt_zip4 l1 l2 l3 l4 x1.toArray x2.toArray x3.toArray x4.toArray) ⟨q1, q2, q3, q4, ?_⟩
  have z1 : (s.heap.push (itO l1)).objs.size = s.heap.objs.size + 1 := Heap.size_push ..
  have z2 : ((s.heap.push (itO l1)).push (itO l2)).objs.size = s.heap.objs.size + 2 := by rw [Heap.size_push, z1]
  have z3 : (((s.heap.push (itO l1)).push (itO l2)).push (itO l3)).objs.size = s.heap.objs.size + 3 := by rw [Heap.size_push, z2]
  have z4 : ((((s.heap.push (itO l1)).push (itO l2)).push (itO l3)).push (itO l4)).objs.size = s.heap.objs.size + 4 := by rw [Heap.size_push, z3]
  have z5 : (((((s.heap.push (itO l1)).push (itO l2)).push (itO l3)).push (itO l4)).push { cls := .type "tuple", data := .seq #[.ref s.heap.objs.size, .ref (s.heap.push (itO l1)).objs.size, .ref ((s.heap.push (itO l1)).push (itO l2)).objs.size, .ref (((s.heap.push (itO l1)).push (itO l2)).push (itO l3)).objs.size] }).objs.size = s.heap.objs.size + 5 := by rw [Heap.size_push, z4]
  have z6 : ((((((s.heap.push (itO l1)).push (itO l2)).push (itO l3)).push (itO l4)).push { cls := .type "tuple", data := .seq #[.ref s.heap.objs.size, .ref (s.heap.push (itO l1)).objs.size, .ref ((s.heap.push (itO l1)).push (itO l2)).objs.size, .ref (((s.heap.push (itO l1)).push (itO l2)).push (itO l3)).objs.size] }).push { cls := .type "tuple", data := .seq #[.none, .none, .none, .none] }).objs.size = s.heap.objs.size + 6 := by rw [Heap.size_push, z5]
  have z7 : (((((((s.heap.push (itO l1)).push (itO l2)).push (itO l3)).push (itO l4)).push { cls := .type "tuple", data := .seq #[.ref s.heap.objs.size, .ref (s.heap.push (itO l1)).objs.size, .ref ((s.heap.push (itO l1)).push (itO l2)).objs.size, .ref (((s.heap.push (itO l1)).push (itO l2)).push (itO l3)).objs.size] }).push { cls := .type "tuple", data := .seq #[.none, .none, .none, .none] }).push { cls := .type "zip", data := .fields #[.none, .bool false, .bool false, .ref ((((s.heap.push (itO l1)).push (itO l2)).push (itO l3)).push (itO l4)).objs.size, .ref (((((s.heap.push (itO l1)).push (itO l2)).push (itO l3)).push (itO l4)).push { cls := .type "tuple", data := .seq #[.ref s.heap.objs.size, .ref (s.heap.push (itO l1)).objs.size, .ref ((s.heap.push (itO l1)).push (itO l2)).objs.size, .ref (((s.heap.push (itO l1)).push (itO l2)).push (itO l3)).objs.size] }).objs.size] }).objs.size = s.heap.objs.size + 7 := by rw [Heap.size_push, z6]
  have g0 : (((((((s.heap.push (itO l1)).push (itO l2)).push (itO l3)).push (itO l4)).push { cls := .type "tuple", data := .seq #[.ref s.heap.objs.size, .ref (s.heap.push (itO l1)).objs.size, .ref ((s.heap.push (itO l1)).push (itO l2)).objs.size, .ref (((s.heap.push (itO l1)).push (itO l2)).push (itO l3)).objs.size] }).push { cls := .type "tuple", data := .seq #[.none, .none, .none, .none] }).push { cls := .type "zip", data := .fields #[.none, .bool false, .bool false, .ref ((((s.heap.push (itO l1)).push (itO l2)).push (itO l3)).push (itO l4)).objs.size, .ref (((((s.heap.push (itO l1)).push (itO l2)).push (itO l3)).push (itO l4)).push { cls := .type "tuple", data := .seq #[.ref s.heap.objs.size, .ref (s.heap.push (itO l1)).objs.size, .ref ((s.heap.push (itO l1)).push (itO l2)).objs.size, .ref (((s.heap.push (itO l1)).push (itO l2)).push (itO l3)).objs.size] }).objs.size] }).get? s.heap.objs.size = some _ := (Heap.get?_push_of_some _ (Heap.get?_push_of_some _ (Heap.get?_push_of_some _ (Heap.get?_push_of_some _ (Heap.get?_push_of_some _ (Heap.get?_push_of_some _ (Heap.get?_push_size _ rfl)))))))
  have g1 : (((((((s.heap.push (itO l1)).push (itO l2)).push (itO l3)).push (itO l4)).push { cls := .type "tuple", data := .seq #[.ref s.heap.objs.size, .ref (s.heap.push (itO l1)).objs.size, .ref ((s.heap.push (itO l1)).push (itO l2)).objs.size, .ref (((s.heap.push (itO l1)).push (itO l2)).push (itO l3)).objs.size] }).push { cls := .type "tuple", data := .seq #[.none, .none, .none, .none] }).push { cls := .type "zip", data := .fields #[.none, .bool false, .bool false, .ref ((((s.heap.push (itO l1)).push (itO l2)).push (itO l3)).push (itO l4)).objs.size, .ref (((((s.heap.push (itO l1)).push (itO l2)).push (itO l3)).push (itO l4)).push { cls := .type "tuple", data := .seq #[.ref s.heap.objs.size, .ref (s.heap.push (itO l1)).objs.size, .ref ((s.heap.push (itO l1)).push (itO l2)).objs.size, .ref (((s.heap.push (itO l1)).push (itO l2)).push (itO l3)).objs.size] }).objs.size] }).get? (s.heap.push (itO l1)).objs.size = some _ := (Heap.get?_push_of_some _ (Heap.get?_push_of_some _ (Heap.get?_push_of_some _ (Heap.get?_push_of_some _ (Heap.get?_push_of_some _ (Heap.get?_push_size _ rfl))))))
  have g2 : (((((((s.heap.push (itO l1)).push (itO l2)).push (itO l3)).push (itO l4)).push { cls := .type "tuple", data := .seq #[.ref s.heap.objs.size, .ref (s.heap.push (itO l1)).objs.size, .ref ((s.heap.push (itO l1)).push (itO l2)).objs.size, .ref (((s.heap.push (itO l1)).push (itO l2)).push (itO l3)).objs.size] }).push { cls := .type "tuple", data := .seq #[.none, .none, .none, .none] }).push { cls := .type "zip", data := .fields #[.none, .bool false, .bool false, .ref ((((s.heap.push (itO l1)).push (itO l2)).push (itO l3)).push (itO l4)).objs.size, .ref (((((s.heap.push (itO l1)).push (itO l2)).push (itO l3)).push (itO l4)).push { cls := .type "tuple", data := .seq #[.ref s.heap.objs.size, .ref (s.heap.push (itO l1)).objs.size, .ref ((s.heap.push (itO l1)).push (itO l2)).objs.size, .ref (((s.heap.push (itO l1)).push (itO l2)).push (itO l3)).objs.size] }).objs.size] }).get? ((s.heap.push (itO l1)).push (itO l2)).objs.size = some _ := (Heap.get?_push_of_some _ (Heap.get?_push_of_some _ (Heap.get?_push_of_some _ (Heap.get?_push_of_some _ (Heap.get?_push_size _ rfl)))))
  have g3 : (((((((s.heap.push (itO l1)).push (itO l2)).push (itO l3)).push (itO l4)).push { cls := .type "tuple", data := .seq #[.ref s.heap.objs.size, .ref (s.heap.push (itO l1)).objs.size, .ref ((s.heap.push (itO l1)).push (itO l2)).objs.size, .ref (((s.heap.push (itO l1)).push (itO l2)).push (itO l3)).objs.size] }).push { cls := .type "tuple", data := .seq #[.none, .none, .none, .none] }).push { cls := .type "zip", data := .fields #[.none, .bool false, .bool false, .ref ((((s.heap.push (itO l1)).push (itO l2)).push (itO l3)).push (itO l4)).objs.size, .ref (((((s.heap.push (itO l1)).push (itO l2)).push (itO l3)).push (itO l4)).push { cls := .type "tuple", data := .seq #[.ref s.heap.objs.size, .ref (s.heap.push (itO l1)).objs.size, .ref ((s.heap.push (itO l1)).push (itO l2)).objs.size, .ref (((s.heap.push (itO l1)).push (itO l2)).push (itO l3)).objs.size] }).objs.size] }).get? (((s.heap.push (itO l1)).push (itO l2)).push (itO l3)).objs.size = some _ := (Heap.get?_push_of_some _ (Heap.get?_push_of_some _ (Heap.get?_push_of_some _ (Heap.get?_push_size _ rfl))))
  have g4 : (((((((s.heap.push (itO l1)).push (itO l2)).push (itO l3)).push (itO l4)).push { cls := .type "tuple", data := .seq #[.ref s.heap.objs.size, .ref (s.heap.push (itO l1)).objs.size, .ref ((s.heap.push (itO l1)).push (itO l2)).objs.size, .ref (((s.heap.push (itO l1)).push (itO l2)).push (itO l3)).objs.size] }).push { cls := .type "tuple", data := .seq #[.none, .none, .none, .none] }).push { cls := .type "zip", data := .fields #[.none, .bool false, .bool false, .ref ((((s.heap.push (itO l1)).push (itO l2)).push (itO l3)).push (itO l4)).objs.size, .ref (((((s.heap.push (itO l1)).push (itO l2)).push (itO l3)).push (itO l4)).push { cls := .type "tuple", data := .seq #[.ref s.heap.objs.size, .ref (s.heap.push (itO l1)).objs.size, .ref ((s.heap.push (itO l1)).push (itO l2)).objs.size, .ref (((s.heap.push (itO l1)).push (itO l2)).push (itO l3)).objs.size] }).objs.size] }).get? ((((s.heap.push (itO l1)).push (itO l2)).push (itO l3)).push (itO l4)).objs.size = some _ := (Heap.get?_push_of_some _ (Heap.get?_push_of_some _ (Heap.get?_push_size _ rfl)))
  have g5 : (((((((s.heap.push (itO l1)).push (itO l2)).push (itO l3)).push (itO l4)).push { cls := .type "tuple", data := .seq #[.ref s.heap.objs.size, .ref (s.heap.push (itO l1)).objs.size, .ref ((s.heap.push (itO l1)).push (itO l2)).objs.size, .ref (((s.heap.push (itO l1)).push (itO l2)).push (itO l3)).objs.size] }).push { cls := .type "tuple", data := .seq #[.none, .none, .none, .none] }).push { cls := .type "zip", data := .fields #[.none, .bool false, .bool false, .ref ((((s.heap.push (itO l1)).push (itO l2)).push (itO l3)).push (itO l4)).objs.size, .ref (((((s.heap.push (itO l1)).push (itO l2)).push (itO l3)).push (itO l4)).push { cls := .type "tuple", data := .seq #[.ref s.heap.objs.size, .ref (s.heap.push (itO l1)).objs.size, .ref ((s.heap.push (itO l1)).push (itO l2)).objs.size, .ref (((s.heap.push (itO l1)).push (itO l2)).push (itO l3)).objs.size] }).objs.size] }).get? (((((s.heap.push (itO l1)).push (itO l2)).push (itO l3)).push (itO l4)).push { cls := .type "tuple", data := .seq #[.ref s.heap.objs.size, .ref (s.heap.push (itO l1)).objs.size, .ref ((s.heap.push (itO l1)).push (itO l2)).objs.size, .ref (((s.heap.push (itO l1)).push (itO l2)).push (itO l3)).objs.size] }).objs.size = some _ := (Heap.get?_push_of_some _ (Heap.get?_push_size _ rfl))
  have g6 : (((((((s.heap.push (itO l1)).push (itO l2)).push (itO l3)).push (itO l4)).push { cls := .type "tuple", data := .seq #[.ref s.heap.objs.size, .ref (s.heap.push (itO l1)).objs.size, .ref ((s.heap.push (itO l1)).push (itO l2)).objs.size, .ref (((s.heap.push (itO l1)).push (itO l2)).push (itO l3)).objs.size] }).push { cls := .type "tuple", data := .seq #[.none, .none, .none, .none] }).push { cls := .type "zip", data := .fields #[.none, .bool false, .bool false, .ref ((((s.heap.push (itO l1)).push (itO l2)).push (itO l3)).push (itO l4)).objs.size, .ref (((((s.heap.push (itO l1)).push (itO l2)).push (itO l3)).push (itO l4)).push { cls := .type "tuple", data := .seq #[.ref s.heap.objs.size, .ref (s.heap.push (itO l1)).objs.size, .ref ((s.heap.push (itO l1)).push (itO l2)).objs.size, .ref (((s.heap.push (itO l1)).push (itO l2)).push (itO l3)).objs.size] }).objs.size] }).get? ((((((s.heap.push (itO l1)).push (itO l2)).push (itO l3)).push (itO l4)).push { cls := .type "tuple", data := .seq #[.ref s.heap.objs.size, .ref (s.heap.push (itO l1)).objs.size, .ref ((s.heap.push (itO l1)).push (itO l2)).objs.size, .ref (((s.heap.push (itO l1)).push (itO l2)).push (itO l3)).objs.size] }).push { cls := .type "tuple", data := .seq #[.none, .none, .none, .none] }).objs.size = some _ := (Heap.get?_push_size _ rfl)
  have up : ∀ c o, s.heap.get? c = some o → (((((((s.heap.push (itO l1)).push (itO l2)).push (itO l3)).push (itO l4)).push { cls := .type "tuple", data := .seq #[.ref s.heap.objs.size, .ref (s.heap.push (itO l1)).objs.size, .ref ((s.heap.push (itO l1)).push (itO l2)).objs.size, .ref (((s.heap.push (itO l1)).push (itO l2)).push (itO l3)).objs.size] }).push { cls := .type "tuple", data := .seq #[.none, .none, .none, .none] }).push { cls := .type "zip", data := .fields #[.none, .bool false, .bool false, .ref ((((s.heap.push (itO l1)).push (itO l2)).push (itO l3)).push (itO l4)).objs.size, .ref (((((s.heap.push (itO l1)).push (itO l2)).push (itO l3)).push (itO l4)).push { cls := .type "tuple", data := .seq #[.ref s.heap.objs.size, .ref (s.heap.push (itO l1)).objs.size, .ref ((s.heap.push (itO l1)).push (itO l2)).objs.size, .ref (((s.heap.push (itO l1)).push (itO l2)).push (itO l3)).objs.size] }).objs.size] }).get? c = some o := fun c o q => (Heap.get?_push_of_some _ (Heap.get?_push_of_some _ (Heap.get?_push_of_some _ (Heap.get?_push_of_some _ (Heap.get?_push_of_some _ (Heap.get?_push_of_some _ (Heap.get?_push_of_some _ q)))))))
  show _ ∧ _
  generalize (((((((s.heap.push (itO l1)).push (itO l2)).push (itO l3)).push (itO l4)).push { cls := .type "tuple", data := .seq #[.ref s.heap.objs.size, .ref (s.heap.push (itO l1)).objs.size, .ref ((s.heap.push (itO l1)).push (itO l2)).objs.size, .ref (((s.heap.push (itO l1)).push (itO l2)).push (itO l3)).objs.size] }).push { cls := .type "tuple", data := .seq #[.none, .none, .none, .none] }).push { cls := .type "zip", data := .fields #[.none, .bool false, .bool false, .ref ((((s.heap.push (itO l1)).push (itO l2)).push (itO l3)).push (itO l4)).objs.size, .ref (((((s.heap.push (itO l1)).push (itO l2)).push (itO l3)).push (itO l4)).push { cls := .type "tuple", data := .seq #[.ref s.heap.objs.size, .ref (s.heap.push (itO l1)).objs.size, .ref ((s.heap.push (itO l1)).push (itO l2)).objs.size, .ref (((s.heap.push (itO l1)).push (itO l2)).push (itO l3)).objs.size] }).objs.size] }) = h9 at g0 g1 g2 g3 g4 g5 g6 z7 up ⊢
  rw [z1] at g1
  rw [z2] at g2
  rw [z3] at g3
  rw [z1, z2, z3, z4] at g4
  rw [z5] at g5
  rw [z4, z5, z6] at g6
  rw [z6]
  refine ⟨⟨_, g6, rfl⟩, h _ ⟨g6, ?_, ?_, fun j i l a b => match j, a, b with
    | 0, a, b => by cases a; cases b; exact ⟨_, g0, rfl, rfl⟩
    | 1, a, b => by cases a; cases b; exact ⟨_, g1, rfl, rfl⟩
    | 2, a, b => by cases a; cases b; exact ⟨_, g2, rfl, rfl⟩
    | 3, a, b => by cases a; cases b; exact ⟨_, g3, rfl, rfl⟩
    | _ + 4, a, b => by simp at a, fun j l xs a b => match j, a, b with
    | 0, a, b => by cases a; cases b; obtain ⟨o, u, v⟩ := q1; exact ⟨o, up _ _ u, v⟩
    | 1, a, b => by cases a; cases b; obtain ⟨o, u, v⟩ := q2; exact ⟨o, up _ _ u, v⟩
    | 2, a, b => by cases a; cases b; obtain ⟨o, u, v⟩ := q3; exact ⟨o, up _ _ u, v⟩
    | 3, a, b => by cases a; cases b; obtain ⟨o, u, v⟩ := q4; exact ⟨o, up _ _ u, v⟩
    | _ + 4, a, b => by simp at a⟩ z7 up⟩
  · exact g4
  · exact g5
end
end RZ
namespace RZ
open PySem PySem.Spec PyProof.Rows L2
open PySem.Sem (wp)
/-- the tuples at as, side by side: a turn gives a new tuple of their items -/
def ItzN (K : PySem.W.Frag) (as : List Addr) : It :=
  ⟨fun i H => ∀ a ∈ as, ∃ xs : List V, SqT K H a xs ∧ i < xs.length,
    fun i H v H' => ∃ (T : Addr) (col : List V), v = .ref T ∧ H T = none ∧ H' = upd H T (.tup col) ∧ col.length = as.length ∧ ∀ (j : Nat) (a : Addr) (xs : List V), as[j]? = some a → SqT K H a xs → xs[i]? = col[j]?,
    fun i H => (∀ a ∈ as, ∃ xs : List V, SqT K H a xs) ∧ ∃ (a : Addr) (r : List Addr) (xs : List V), as = a :: r ∧ SqT K H a xs ∧ xs.length ≤ i⟩
theorem ZN.bare {h : Heap} {z TI TO : Addr} {is ls : List Addr} {f0 f1 : Value} {ks : Nat → Nat} {ws : List Value} {xss : List (List Value)} (Z : ZN h z TI TO is ls f0 f1 ks ws xss) : ZN h z TI TO is ls f0 f1 ks ws [] :=
  ⟨Z.hz, Z.hTI, Z.hTO, Z.hit, fun j l xs _ b => by simp at b⟩
theorem ZN.with {h : Heap} {z TI TO : Addr} {is ls : List Addr} {f0 f1 : Value} {ks : Nat → Nat} {ws : List Value} {xss : List (List Value)} (Z : ZN h z TI TO is ls f0 f1 ks ws []) (e : ∀ (j : Nat) (l : Addr) (xs : List Value), ls[j]? = some l → xss[j]? = some xs → h.IsTuple l xs.toArray) : ZN h z TI TO is ls f0 f1 ks ws xss :=
  ⟨Z.hz, Z.hTI, Z.hTO, Z.hit, e⟩
/-- what stands at tuples that are read: their values -/
theorem vals_of {X : Cx} {pins : List (Addr × Obj)} {σ : L2.St} {H : Hp} {s : Shared} (I : Inv X pins σ H s) : ∀ (as : List Addr), (∀ a ∈ as, ∃ xs : List V, SqT X.K H a xs) →
    ∃ (xss : List (List V)) (vss : List (List Value)), xss.length = as.length ∧ vss.length = as.length ∧ (∀ (j : Nat) (a : Addr) (xs : List V), as[j]? = some a → xss[j]? = some xs → SqT X.K H a xs) ∧
      (∀ (j : Nat) (a : Addr) (vs : List Value), as[j]? = some a → vss[j]? = some vs → s.heap.IsTuple a vs.toArray) ∧ ∀ (j : Nat) (xs : List V) (vs : List Value), xss[j]? = some xs → vss[j]? = some vs → Vals xs vs
  | [], _ => ⟨[], [], rfl, rfl, fun _ _ _ a => by simp at a, fun _ _ _ a => by simp at a, fun _ _ _ a => by simp at a⟩
  | a :: r, h => by
    obtain ⟨xs, hx⟩ := h a List.mem_cons_self
    obtain ⟨its, rv, p, _⟩ := I.tuple hx
    obtain ⟨xss, vss, l1, l2, t1, t2, t3⟩ := vals_of I r fun b hb => h b (List.mem_cons_of_mem _ hb)
    refine ⟨xs :: xss, its :: vss, by simp [l1], by simp [l2], fun j b ys e1 e2 => ?_, fun j b ys e1 e2 => ?_, fun j ys us e1 e2 => ?_⟩
    · cases j with
      | zero => cases e1; cases e2; exact hx
      | succ j => exact t1 j b ys e1 e2
    · cases j with
      | zero => cases e1; cases e2; exact p
      | succ j => exact t2 j b ys e1 e2
    · cases j with
      | zero => cases e1; cases e2; exact rv
      | succ j => exact t3 j ys us e1 e2
theorem vals_at {xs : List V} {vs : List Value} {i : Nat} (r : Vals xs vs) (h : i < xs.length) : ∃ x u, xs[i]? = some x ∧ vs[i]? = some u ∧ RelV x u := by
  have hx : xs[i]? = some xs[i] := List.getElem?_eq_getElem h
  obtain ⟨u, hu, ru⟩ := r.get hx
  exact ⟨_, u, hx, hu, ru⟩
theorem vals_col {i : Nat} : ∀ (xss : List (List V)) (vss : List (List Value)), xss.length = vss.length → (∀ (j : Nat) (xs : List V) (vs : List Value), xss[j]? = some xs → vss[j]? = some vs → Vals xs vs) → (∀ xs ∈ xss, i < xs.length) →
    ∃ (col : List V) (us : List Value), Vals col us ∧ col.length = xss.length ∧ us.length = xss.length ∧ (∀ (j : Nat) (xs : List V), xss[j]? = some xs → xs[i]? = col[j]?) ∧ ∀ j, j < vss.length → ∃ vs u, vss[j]? = some vs ∧ vs[i]? = some u ∧ us[j]? = some u
  | [], [], _, _, _ => ⟨[], [], .nil, rfl, rfl, fun _ _ a => by simp at a, fun j a => by simp at a⟩
  | [], _ :: _, h, _, _ => by simp at h
  | _ :: _, [], h, _, _ => by simp at h
  | xs :: xss, vs :: vss, h, hv, hi => by
    obtain ⟨x, u, e1, e2, ru⟩ := vals_at (hv 0 xs vs rfl rfl) (hi xs List.mem_cons_self)
    obtain ⟨col, us, rv, l1, l2, c1, c2⟩ := vals_col xss vss (by simpa using h) (fun j => hv (j + 1)) fun ys hy => hi ys (List.mem_cons_of_mem _ hy)
    refine ⟨x :: col, u :: us, .cons ru rv, by simp [l1], by simp [l2], fun j ys e => ?_, fun j q => ?_⟩
    · cases j with
      | zero => cases e; exact e1
      | succ j => exact c1 j ys e
    · cases j with
      | zero => exact ⟨vs, u, rfl, e2, rfl⟩
      | succ j => exact c2 j (by simpa using q)
theorem turn_zn {P : Program} {w : World} {K : PySem.W.Frag} {tn : Str} {tpos : Pos} {z TI TO : Addr} {is as : List Addr} (D : ZA z TI TO is as) (n0 : is ≠ []) (nz : is.length ≤ 1000) (hn : as.length = is.length) :
    Turn P w K (.Name tn tpos) (ItzN K as) (z :: TI :: TO :: is) z (fun i h => ∃ f0 f1 ws, ZN h z TI TO is as f0 f1 (fun _ => i) ws [] ∧ (f0 = .none ∨ ∃ a t, f0 = .int a t) ∧ ws.length = is.length) where
  mem := by simp
  obj := fun i h st c hc => by
    obtain ⟨f0, f1, ws, Z, _, _⟩ := st
    simp only [List.mem_cons] at hc
    rcases hc with q | q | q | q
    · rw [q]; exact ⟨_, Z.hz, fun v q => nomatch q⟩
    · rw [q]; exact ⟨_, Z.hTI, fun v q => nomatch q⟩
    · rw [q]; exact ⟨_, Z.hTO, fun v q => nomatch q⟩
    · obtain ⟨j, jl, rfl⟩ := List.mem_iff_getElem.mp q
      obtain ⟨o, e, _, dd⟩ := Z.hit j _ (as[j]'(by omega)) (List.getElem?_eq_getElem jl) (List.getElem?_eq_getElem (by omega))
      exact ⟨o, e, fun v q => by rw [dd] at q; cases q⟩
  keep := fun i h h' st k => by
    obtain ⟨f0, f1, ws, Z, a1, a2⟩ := st
    refine ⟨f0, f1, ws, ⟨k z (by simp) _ Z.hz, k TI (by simp) _ Z.hTI, k TO (by simp) _ Z.hTO, fun j i' l a b => ?_, fun j l xs _ b => by simp at b⟩, a1, a2⟩
    exact (Z.hit j i' l a b).at fun o q => k i' (by simp [List.mem_of_getElem? a]) o q
  item := by
    intro X hP hw hK hc i pins s σ H E I hf st hg
    subst hP hw hK
    obtain ⟨f0, f1, ws, Z, a1, a2⟩ := st
    obtain ⟨xss, vss, l1, l2, t1, t2, t3⟩ := vals_of I as fun a ha => by
      obtain ⟨xs, q, _⟩ := hg a ha
      exact ⟨xs, q⟩
    have hlen : ∀ xs ∈ xss, i < xs.length := fun xs hx => by
      obtain ⟨j, jl, rfl⟩ := List.mem_iff_getElem.mp hx
      obtain ⟨ys, q, qi⟩ := hg (as[j]'(by omega)) (List.getElem_mem _)
      have q2 := t1 j _ _ (List.getElem?_eq_getElem (by omega)) (List.getElem?_eq_getElem jl)
      rw [I.tuple_inj q2 q]
      exact qi
    obtain ⟨col, us, rv, c1, c2, c3, c4⟩ := vals_col (i := i) xss vss (by omega) t3 hlen
    refine pyNext_zn_item D (Z.with t2) a1 n0 nz hn a2 (col := us) (by omega) (fun j q => c4 j (by omega)) fun h' g0 g1 vs Z' b1 b2 hT hsz kp => ?_
    refine ⟨_, rfl, ?_⟩
    have go : ∀ {Q : Unit → Shared → Prop} {s : Shared}, Q () s → wpAny (model X.prog X.w) X.A (letOwnedTupleGo (.Name tn tpos) (.ref z) (.ref s.heap.objs.size)) Q E s := fun q => by
      unfold letOwnedTupleGo
      exact wpAny_pure q
    have new : ObjOk X.prog X.w (upd H s.heap.objs.size (.tup col)) h' s.heap.objs.size (.tup col) :=
      ⟨by show col.length ≤ sizeLine; have big : (1001 : Nat) ≤ sizeLine := by decide
          omega, us, rv, ⟨_, hT, rfl, _, rfl⟩⟩
    have I1 : Inv X pins σ (upd H s.heap.objs.size (.tup col)) { s with heap := h' } :=
      I.turnedNew (t' := s.toks) (ch := z :: TI :: TO :: is) (fun c o hb q => kp c o (fun q' => hb (by simp [q'])) (fun q' => hb (by simp [q'])) (fun q' => hb (by simp [q'])) q) hf (Nat.le_refl _) new
    unfold letOwnedTupleGo
    refine wpAny_pure ⟨.ref s.heap.objs.size, _, I1, rfl, ⟨_, col, rfl, I.hok.fresh (Nat.le_refl _), rfl, by omega, fun j a xs ha hx => ?_⟩, ⟨g0, g1, vs, Z'.bare, b1, b2⟩, fun c hcm => ?_⟩
    · have jl := (List.getElem?_eq_some_iff.mp ha).1
      have e : xss[j]? = some (xss[j]'(by omega)) := List.getElem?_eq_getElem (by omega)
      rw [I.tuple_inj hx (t1 j a _ ha e)]
      exact c3 j _ e
    · have hlt : c < s.heap.objs.size := by
        simp only [List.mem_cons] at hcm
        rcases hcm with q | q | q | q
        · rw [q]; exact Heap.lt_size Z.hz
        · rw [q]; exact Heap.lt_size Z.hTI
        · rw [q]; exact Heap.lt_size Z.hTO
        · obtain ⟨j, jl, rfl⟩ := List.mem_iff_getElem.mp q
          obtain ⟨o, e, _⟩ := Z.hit j _ (as[j]'(by omega)) (List.getElem?_eq_getElem jl) (List.getElem?_eq_getElem (by omega))
          exact Heap.lt_size e
      rw [upd_ne (Nat.ne_of_lt hlt)]
      exact (hf c hcm).1
  done := by
    intro X hP hw hK hc i pins s σ H E I hf st hg
    subst hP hw hK
    obtain ⟨f0, f1, ws, Z, a1, a2⟩ := st
    obtain ⟨hall, a, r, xs, rfl, hx, hend⟩ := hg
    obtain ⟨xss, vss, l1, l2, t1, t2, t3⟩ := vals_of I _ hall
    cases is with
    | nil => exact absurd rfl n0
    | cons i0 is =>
    cases xss with
    | nil => simp at l1
    | cons x0 xss =>
    cases vss with
    | nil => simp at l2
    | cons v0 vss =>
      have rv := t3 0 x0 v0 rfl rfl
      have e := I.tuple_inj hx (t1 0 a x0 rfl rfl)
      subst e
      have ll := rv.length
      refine pyNext_zn_end (I.ok.hd hc) D (Z.with t2) a1 (List.getElem?_eq_none (by omega)) fun h' kp => ⟨rfl, ?_⟩
      exact I.turnedL (t' := s.toks) (ch := z :: TI :: TO :: i0 :: is) (fun c o hb q => kp c o (fun q' => hb (by simp [q'])) (fun q' => hb (by simp [q'])) (fun q' => hb (List.mem_cons_of_mem _ (List.mem_cons_of_mem _ (List.mem_cons_of_mem _ q')))) q) hf
  self := fun A i s Q E st h => by
    obtain ⟨f0, f1, ws, Z, _, _⟩ := st
    exact pyIter_zn Z h
end RZ
namespace RZ
open PySem PySem.Spec PyProof.Rows L2 StX
open PySem.Sem (wp)
def iZipStar (K : PySem.W.Frag) (te : TE) : TI := fun σ H R => te σ H fun x H1 => ∃ (p : Addr) (as : List Addr), x = V.ref p ∧ SqT K H1 p (as.map V.ref) ∧ 1 ≤ as.length ∧ as.length ≤ 4 ∧ (∀ a ∈ as, ∃ xs : List V, SqT K H1 a xs) ∧ R (ItzN K as) H1
theorem vals_refs : ∀ {as : List Addr} {us : List Value}, Vals (as.map V.ref) us → us = as.map Value.ref
  | [], _, r => by cases r; rfl
  | a :: as, _, r => by
    cases r with
    | cons x y =>
      cases x
      rw [vals_refs y]
      rfl
theorem za_of {N n : Nat} {as is : List Addr} (hi : is = (List.range n).map (N + ·)) (ha : ∀ a ∈ as, a < N) : ZA (N + (n + 2)) (N + n) (N + (n + 1)) is as := by
  subst hi
  have mem : ∀ c, c ∈ (List.range n).map (N + ·) → N ≤ c ∧ c < N + n := fun c hc => by
    obtain ⟨j, hj, rfl⟩ := List.mem_map.mp hc
    rw [List.mem_range] at hj
    omega
  have ne : ∀ {x y : Nat}, x < y → (show Addr from x) ≠ (show Addr from y) := fun h => Nat.ne_of_lt h
  refine ⟨ne (by omega), ne (by omega), ne (by omega), fun q => ?_, fun q => ?_, fun q => ?_, ?_, fun q => ?_, fun q => ?_, fun i q q2 => ?_⟩
  · have := (mem _ q).2
    exact absurd this (Nat.not_lt.mpr (Nat.add_le_add_left (Nat.le_add_right n 2) N))
  · have := (mem _ q).2
    exact absurd this (Nat.lt_irrefl _)
  · have := (mem _ q).2
    exact absurd this (Nat.not_lt.mpr (Nat.add_le_add_left (Nat.le_add_right n 1) N))
  · refine List.pairwise_map.mpr (List.nodup_range.imp fun {a b} q z => q (Nat.add_left_cancel z))
  · have := ha _ q
    exact absurd this (Nat.not_lt.mpr (Nat.le_add_right N _))
  · have := ha _ q
    exact absurd this (Nat.not_lt.mpr (Nat.le_add_right N _))
  · have h1 := (mem _ q).1
    have h2 := ha _ q2
    exact absurd h1 (Nat.not_le.mpr h2)
theorem pi_zipS {X : Cx} {e : Expr} {te : TE} {p pos tpos sp : Pos} {tn : Str} (hg : Gl X "zip") (hm : X.mg "zip" = none) (he : PE X e te)
    (hst : starEach [.Starred e sp] X.env = [(true, eval e X.env)] := by rfl) : PI X (.Name tn tpos) (.Call (.Name "zip" p) [.Starred e sp] [] pos) (iZipStar X.K te) := by
  refine ⟨fun pins s σ H R I h => ?_⟩
  refine Call_ (ld_blt I hg hm PyProof.Rows.boot_zip ?_)
  rw [hst]
  refine PySem.W.ks_call (P := fun _ => True) rfl (fun h _ => ⟨.machine, .inr (.inl rfl), PySem.W.Looks.of_pure rfl⟩) (PySem.W.ks_lone (thn (he.run pins s σ H _ I h) fun v s1 ⟨y, H1, I1, ry, a, as, ey, hx, n1, n4, hall, q⟩ => ?_))
  subst ey
  obtain rfl : v = Value.ref a := ry
  refine StX.star_any I1 (.inl hx) fun us s2 I2 rv => ⟨trivial, ?_⟩
  obtain rfl := vals_refs rv
  obtain ⟨xss, vss, l1, l2, t1, t2, t3⟩ := vals_of I2 as hall
  have lo : ∀ a ∈ as, a < s2.heap.objs.size := fun a ha => by
    obtain ⟨j, jl, rfl⟩ := List.mem_iff_getElem.mp ha
    obtain ⟨o, e, _⟩ := t2 j _ (vss[j]'(by omega)) (List.getElem?_eq_getElem jl) (List.getElem?_eq_getElem (by omega))
    exact Heap.lt_size e
  have z1 : ∀ (as : List Addr) (vss : List (List Value)), as.length = 1 → vss.length = as.length → (∀ a ∈ as, a < s2.heap.objs.size) → (∀ (j : Nat) (a : Addr) (vs : List Value), as[j]? = some a → vss[j]? = some vs → s2.heap.IsTuple a vs.toArray) → R (ItzN X.K as) H1 →
      wpAny (model X.prog X.w) X.A (call (.type "zip") ([] ++ as.map Value.ref)) (fun v s1 => wpAny (model X.prog X.w) X.A (pyIter v) (PIE X pins σ (.Name tn tpos) R) X.xe s1) X.xe s2 := fun as vss e1 e2 lo t2 q => by
    match as, vss, e1, e2, lo, t2, q with
    | [a1], [v1], _, _, lo, t2, q =>
      refine call_z1 (t2 0 _ _ rfl rfl) fun h' Z sz up => ?_
      have I3 : Inv X pins σ H1 { s2 with heap := h' } := I2.kept (t' := s2.toks) up
      have D := za_of (N := s2.heap.objs.size) (n := 1) (as := [a1]) (is := [s2.heap.objs.size]) rfl lo
      refine pyIter_zn (s := { s2 with heap := h' }) Z ?_
      refine ⟨_, _, _, _, H1, rfl, I3, turn_zn (tn := tn) (tpos := tpos) D (by simp) (by simp) (by simp), ⟨_, _, _, Z.bare, .inl rfl, rfl⟩, fun c hc => ?_, q⟩
      have hle : s2.heap.objs.size ≤ c := by
        simp only [List.mem_cons, List.not_mem_nil, or_false] at hc
        rcases hc with q | q | q | q <;> (rw [q]; first | exact Nat.le_refl _ | exact Nat.le_add_right _ _)
      exact I2.fpOk hle (I2.hok.fresh hle)
  have z2 : ∀ (as : List Addr) (vss : List (List Value)), as.length = 2 → vss.length = as.length → (∀ a ∈ as, a < s2.heap.objs.size) → (∀ (j : Nat) (a : Addr) (vs : List Value), as[j]? = some a → vss[j]? = some vs → s2.heap.IsTuple a vs.toArray) → R (ItzN X.K as) H1 →
      wpAny (model X.prog X.w) X.A (call (.type "zip") ([] ++ as.map Value.ref)) (fun v s1 => wpAny (model X.prog X.w) X.A (pyIter v) (PIE X pins σ (.Name tn tpos) R) X.xe s1) X.xe s2 := fun as vss e1 e2 lo t2 q => by
    match as, vss, e1, e2, lo, t2, q with
    | [a1, a2], [v1, v2], _, _, lo, t2, q =>
      refine call_z2 (t2 0 _ _ rfl rfl) (t2 1 _ _ rfl rfl) fun h' Z sz up => ?_
      have I3 : Inv X pins σ H1 { s2 with heap := h' } := I2.kept (t' := s2.toks) up
      have D := za_of (N := s2.heap.objs.size) (n := 2) (as := [a1, a2]) (is := [s2.heap.objs.size, s2.heap.objs.size + 1]) rfl lo
      refine pyIter_zn (s := { s2 with heap := h' }) Z ?_
      refine ⟨_, _, _, _, H1, rfl, I3, turn_zn (tn := tn) (tpos := tpos) D (by simp) (by simp) (by simp), ⟨_, _, _, Z.bare, .inl rfl, rfl⟩, fun c hc => ?_, q⟩
      have hle : s2.heap.objs.size ≤ c := by
        simp only [List.mem_cons, List.not_mem_nil, or_false] at hc
        rcases hc with q | q | q | q | q <;> (rw [q]; first | exact Nat.le_refl _ | exact Nat.le_add_right _ _)
      exact I2.fpOk hle (I2.hok.fresh hle)
  have z3 : ∀ (as : List Addr) (vss : List (List Value)), as.length = 3 → vss.length = as.length → (∀ a ∈ as, a < s2.heap.objs.size) → (∀ (j : Nat) (a : Addr) (vs : List Value), as[j]? = some a → vss[j]? = some vs → s2.heap.IsTuple a vs.toArray) → R (ItzN X.K as) H1 →
      wpAny (model X.prog X.w) X.A (call (.type "zip") ([] ++ as.map Value.ref)) (fun v s1 => wpAny (model X.prog X.w) X.A (pyIter v) (PIE X pins σ (.Name tn tpos) R) X.xe s1) X.xe s2 := fun as vss e1 e2 lo t2 q => by
    match as, vss, e1, e2, lo, t2, q with
    | [a1, a2, a3], [v1, v2, v3], _, _, lo, t2, q =>
      refine call_z3 (t2 0 _ _ rfl rfl) (t2 1 _ _ rfl rfl) (t2 2 _ _ rfl rfl) fun h' Z sz up => ?_
      have I3 : Inv X pins σ H1 { s2 with heap := h' } := I2.kept (t' := s2.toks) up
      have D := za_of (N := s2.heap.objs.size) (n := 3) (as := [a1, a2, a3]) (is := [s2.heap.objs.size, s2.heap.objs.size + 1, s2.heap.objs.size + 2]) rfl lo
      refine pyIter_zn (s := { s2 with heap := h' }) Z ?_
      refine ⟨_, _, _, _, H1, rfl, I3, turn_zn (tn := tn) (tpos := tpos) D (by simp) (by simp) (by simp), ⟨_, _, _, Z.bare, .inl rfl, rfl⟩, fun c hc => ?_, q⟩
      have hle : s2.heap.objs.size ≤ c := by
        simp only [List.mem_cons, List.not_mem_nil, or_false] at hc
        rcases hc with q | q | q | q | q | q <;> (rw [q]; first | exact Nat.le_refl _ | exact Nat.le_add_right _ _)
      exact I2.fpOk hle (I2.hok.fresh hle)
  have z4 : ∀ (as : List Addr) (vss : List (List Value)), as.length = 4 → vss.length = as.length → (∀ a ∈ as, a < s2.heap.objs.size) → (∀ (j : Nat) (a : Addr) (vs : List Value), as[j]? = some a → vss[j]? = some vs → s2.heap.IsTuple a vs.toArray) → R (ItzN X.K as) H1 →
      wpAny (model X.prog X.w) X.A (call (.type "zip") ([] ++ as.map Value.ref)) (fun v s1 => wpAny (model X.prog X.w) X.A (pyIter v) (PIE X pins σ (.Name tn tpos) R) X.xe s1) X.xe s2 := fun as vss e1 e2 lo t2 q => by
    match as, vss, e1, e2, lo, t2, q with
    | [a1, a2, a3, a4], [v1, v2, v3, v4], _, _, lo, t2, q =>
      refine call_z4 (t2 0 _ _ rfl rfl) (t2 1 _ _ rfl rfl) (t2 2 _ _ rfl rfl) (t2 3 _ _ rfl rfl) fun h' Z sz up => ?_
      have I3 : Inv X pins σ H1 { s2 with heap := h' } := I2.kept (t' := s2.toks) up
      have D := za_of (N := s2.heap.objs.size) (n := 4) (as := [a1, a2, a3, a4]) (is := [s2.heap.objs.size, s2.heap.objs.size + 1, s2.heap.objs.size + 2, s2.heap.objs.size + 3]) rfl lo
      refine pyIter_zn (s := { s2 with heap := h' }) Z ?_
      refine ⟨_, _, _, _, H1, rfl, I3, turn_zn (tn := tn) (tpos := tpos) D (by simp) (by simp) (by simp), ⟨_, _, _, Z.bare, .inl rfl, rfl⟩, fun c hc => ?_, q⟩
      have hle : s2.heap.objs.size ≤ c := by
        simp only [List.mem_cons, List.not_mem_nil, or_false] at hc
        rcases hc with q | q | q | q | q | q | q <;> (rw [q]; first | exact Nat.le_refl _ | exact Nat.le_add_right _ _)
      exact I2.fpOk hle (I2.hok.fresh hle)
  have c : as.length = 1 ∨ as.length = 2 ∨ as.length = 3 ∨ as.length = 4 := by omega
  rcases c with c | c | c | c
  · exact z1 as vss c l2 lo t2 q
  · exact z2 as vss c l2 lo t2 q
  · exact z3 as vss c l2 lo t2 q
  · exact z4 as vss c l2 lo t2 q
/-- a walk over tuples of one length, side by side -/
theorem walk_zipS {K : PySem.W.Frag} {as : List Addr} {n : Nat} (h0 : as ≠ []) : Walk (ItzN K as) n (fun H => ∀ a ∈ as, ∃ xs : List V, SqT K H a xs ∧ xs.length = n)
    (fun i H x H' => ∃ (T : Addr) (col : List V), x = .ref T ∧ H T = none ∧ H' = upd H T (.tup col) ∧ col.length = as.length ∧ ∀ (j : Nat) (a : Addr) (xs : List V), as[j]? = some a → SqT K H a xs → xs[i]? = col[j]?) where
  goes := fun i H hi q a ha => by
    obtain ⟨xs, h1, h2⟩ := q a ha
    exact ⟨xs, h1, by omega⟩
  stops := fun H q => by
    cases as with
    | nil => exact absurd rfl h0
    | cons a r =>
      obtain ⟨xs, h1, h2⟩ := q a List.mem_cons_self
      exact ⟨fun b hb => by obtain ⟨ys, h3, _⟩ := q b hb; exact ⟨ys, h3⟩, a, r, xs, rfl, h1, by omega⟩
  yields := fun i H x H' _ _ q => q
end RZ

/-! Tracks and pedals: what they are, what they sound, how they go on. -/
namespace L2
open PySem PySem.Spec PyProof.Rows
theorem k_inS {X : Cx} {K : PySem.W.Frag} (e : X.K = K := by rfl) : OpR X (compareOp .In) (rIn K false) := by
  subst e
  exact op_in_seq
theorem k_notInS {X : Cx} {K : PySem.W.Frag} (e : X.K = K := by rfl) : OpR X (compareOp .NotIn) (rIn K true) := by
  subst e
  exact op_notIn_seq
theorem k_piZS {X : Cx} {K : PySem.W.Frag} {e : Expr} {te : TE} {p pos tpos sp : Pos} {tn : Str} (hg : Gl X "zip") (hm : X.mg "zip" = none) (he : PE X e te)
    (hst : starEach [.Starred e sp] X.env = [(true, eval e X.env)] := by rfl) (ek : X.K = K := by rfl) : PI X (.Name tn tpos) (.Call (.Name "zip" p) [.Starred e sp] [] pos) (RZ.iZipStar K te) := by
  subst ek
  exact RZ.pi_zipS hg hm he hst
end L2
namespace My
open PySem PySem.Spec PyProof.Rows L2
variable {K : PySem.W.Frag} {H H' : Hp}
inductive Md where
  | empty
  | record
  | play
  | dub
  | stop
  deriving DecidableEq
def Md.s : Md → Str
  | .empty => "empty"
  | .record => "record"
  | .play => "play"
  | .dub => "dub"
  | .stop => "stop"
structure Tr where
  md : Md
  lay : List (List Int)
  und : List (List Int)
  pt : Int
  way : Int
  pace : Int
  sign : Int
  mu : Bool
def Tr.e : Tr := ⟨.empty, [], [], 0, 1, 2, 1, false⟩
abbrev Tr.rc (c : List Int) : Tr := ⟨.record, [c], [], 0, 1, 2, 1, false⟩
def trD (t : Tr) : PyData := .tuple [.str t.md.s, dLoops t.lay, dLoops t.und, .int t.pt, .int t.way, .int t.pace, .int t.sign, .bool t.mu]
abbrev dBoard (ts : List Tr) : PyData := .tuple (ts.map trD)
def Md.on : Md → Bool
  | .play => true
  | .dub => true
  | _ => false
def Md.holds : Md → Bool
  | .play => true
  | .dub => true
  | .stop => true
  | _ => false
structure OkH (t : Tr) (n : Nat) : Prop where
  md : t.md.holds = true
  n1 : 1 ≤ n
  n64 : n ≤ 64
  l1 : 1 ≤ t.lay.length
  l4 : t.lay.length + t.und.length ≤ 4
  ln : ∀ l ∈ t.lay, l.length = n
  un : ∀ l ∈ t.und, l.length = n
  db : t.md = .dub → 2 ≤ t.lay.length ∧ t.und = []
  p0 : 0 ≤ t.pt
  p1 : t.pt < 2 * (n : Int)
  st : t.md = .stop → t.pt = 0
  wy : t.way = 1 ∨ t.way = -1
  pc : t.pace = 1 ∨ t.pace = 2 ∨ t.pace = 4
  sg : t.sign = 1 ∨ t.sign = -1
inductive OkT : Tr → Prop
  | e : OkT Tr.e
  | r (c : List Int) (h : c.length < 64) : OkT (Tr.rc c)
  | h (t : Tr) (n : Nat) (h : OkH t n) : OkT t
def OkB (ts : List Tr) : Prop := 1 ≤ ts.length ∧ ts.length ≤ 4 ∧ ∀ t ∈ ts, OkT t
theorem _root_.L2.Dp.tr {v : V} {t : Tr} (h : Dp K H v (trD t)) : ∃ a v1 v2, v = .ref a ∧ SqT K H a [.str t.md.s, v1, v2, .int t.pt, .int t.way, .int t.pace, .int t.sign, .bl t.mu] ∧ Dp K H v1 (dLoops t.lay) ∧ Dp K H v2 (dLoops t.und) := by
  obtain ⟨a, xs, rfl, hT, hX⟩ := Dp.tuple h
  cases hX with
  | cons a1 hX =>
  cases hX with
  | cons a2 hX =>
  cases hX with
  | cons a3 hX =>
  cases hX with
  | cons a4 hX =>
  cases hX with
  | cons a5 hX =>
  cases hX with
  | cons a6 hX =>
  cases hX with
  | cons a7 hX =>
  cases hX with
  | cons a8 hX =>
  cases hX
  cases a1
  cases a4
  cases a5
  cases a6
  cases a7
  cases a8
  exact ⟨a, _, _, rfl, hT, a2, a3⟩
theorem Dp.ofTr {a : Addr} {v1 v2 : V} {t : Tr} (h : SqT K H a [.str t.md.s, v1, v2, .int t.pt, .int t.way, .int t.pace, .int t.sign, .bl t.mu]) (h1 : Dp K H v1 (dLoops t.lay)) (h2 : Dp K H v2 (dLoops t.und)) : Dp K H (.ref a) (trD t) :=
  .tup h (.cons (.str _) (.cons h1 (.cons h2 (.cons (.int _) (.cons (.int _) (.cons (.int _) (.cons (.int _) (.cons (.bl _) .nil))))))))
theorem dpRefs : ∀ {ls : List (List Int)} {xs : List V}, DpAll K H xs (ls.map dInts) → ∃ as : List Addr, xs = as.map V.ref ∧ as.length = ls.length ∧ ∀ (j : Nat) (a : Addr) (l : List Int), as[j]? = some a → ls[j]? = some l → SqT K H a (l.map V.int)
  | [], _, h => by
    cases h
    exact ⟨[], rfl, rfl, fun j a l e => by simp at e⟩
  | l :: r, _, h => by
    cases h with
    | cons h1 h2 =>
    obtain ⟨a, rfl, hT⟩ := Dp.ints h1
    obtain ⟨as, rfl, hl, q⟩ := dpRefs h2
    refine ⟨a :: as, rfl, by simp [hl], fun j b m e1 e2 => ?_⟩
    cases j with
    | zero => cases e1; cases e2; exact hT
    | succ j => exact q j b m e1 e2
/-! ### what tracks sound and how they go on -/
def colS (ls : List (List Int)) (c : Nat) : Int := (ls.map fun l => l.getD c 0).sum
def sndT (t : Tr) : Int := if t.md.on then colS t.lay (t.pt.toNat / 2) else 0
def hearB (ts : List Tr) : Int := (ts.map fun t => if t.mu then 0 else t.sign * sndT t).sum
def lenT (t : Tr) : Nat := (t.lay.headD []).length
def wrapP (t : Tr) : Int := (t.pt + t.way * t.pace) % (2 * (lenT t : Int))
def addAt (l : List Int) (c : Nat) (s : Int) : List Int := l.set c (l.getD c 0 + s)
def dubL (ls : List (List Int)) (c : Nat) (s : Int) : List (List Int) := ls.dropLast ++ [addAt (ls.getLastD []) c s]
def goT (t : Tr) (s : Int) : Tr := match t.md with
  | .record => if (t.lay.headD [] ++ [s]).length = 64 then { t with md := .play, lay := [t.lay.headD [] ++ [s]] } else { t with lay := [t.lay.headD [] ++ [s]] }
  | .play => { t with pt := wrapP t }
  | .dub => { t with lay := dubL t.lay (t.pt.toNat / 2) s, pt := wrapP t }
  | _ => t
def goB (ts : List Tr) (s : Int) : List Tr := ts.map fun t => goT t s
theorem wrap_lt {t : Tr} {n : Nat} (h : lenT t = n) (n1 : 1 ≤ n) : 0 ≤ wrapP t ∧ wrapP t < 2 * (n : Int) := by
  unfold wrapP
  rw [h]
  exact ⟨Int.emod_nonneg _ (by omega), Int.emod_lt_of_pos _ (by omega)⟩
theorem OkH.len {t : Tr} {n : Nat} (h : OkH t n) : lenT t = n := by
  obtain ⟨md, lay, und, pt, way, pace, sign, mu⟩ := t
  have l1 := h.l1
  cases lay with
  | nil => simp at l1
  | cons l r => exact h.ln l List.mem_cons_self
theorem go_ok {t : Tr} (s : Int) (h : OkT t) : OkT (goT t s) := by
  cases h with
  | e => exact .e
  | r c h =>
    by_cases e : (c ++ [s]).length = 64
    · have g : goT (Tr.rc c) s = ⟨.play, [c ++ [s]], [], 0, 1, 2, 1, false⟩ := by
        show (if (c ++ [s]).length = 64 then _ else _) = _
        rw [if_pos e]
        rfl
      rw [g]
      exact .h _ 64 ⟨rfl, by decide, by decide, Nat.le_refl 1, by simp, by simpa using e, by simp, by simp, by simp, by simp, by simp, .inl rfl, .inr (.inl rfl), .inl rfl⟩
    · have g : goT (Tr.rc c) s = Tr.rc (c ++ [s]) := by
        show (if (c ++ [s]).length = 64 then _ else _) = _
        rw [if_neg e]
        rfl
      rw [g]
      exact .r _ (by simp at e ⊢; omega)
  | h t n h =>
    obtain ⟨w0, w1⟩ := wrap_lt h.len h.n1
    obtain ⟨md, lay, und, pt, way, pace, sign, mu⟩ := t
    have hm := h.md
    cases md with
    | empty => cases hm
    | record => cases hm
    | stop => exact .h _ n h
    | play => exact .h _ n ⟨rfl, h.n1, h.n64, h.l1, h.l4, h.ln, h.un, h.db, w0, w1, (by intro z; cases z), h.wy, h.pc, h.sg⟩
    | dub =>
      obtain ⟨d1, d2⟩ := h.db rfl
      have hl := h.ln
      have h4 := h.l4
      dsimp only at d1 d2 hl h4
      have eL : (dubL lay (pt.toNat / 2) s).length = lay.length := by
        unfold dubL
        simp
        omega
      refine .h _ n ⟨rfl, h.n1, h.n64, ?_, ?_, fun l hm => ?_, h.un, fun _ => ⟨?_, d2⟩, w0, w1, (by intro z; cases z), h.wy, h.pc, h.sg⟩
      · show 1 ≤ (dubL lay (pt.toNat / 2) s).length
        omega
      · show (dubL lay (pt.toNat / 2) s).length + und.length ≤ 4
        omega
      · have hm : l ∈ dubL lay (pt.toNat / 2) s := hm
        unfold dubL at hm
        rcases List.mem_append.mp hm with q | q
        · exact hl l ((List.dropLast_sublist _).subset q)
        · rw [List.mem_singleton.mp q]
          unfold addAt
          rw [List.length_set]
          cases lay with
          | nil => simp at d1
          | cons x r =>
            rw [List.getLastD_cons]
            cases r with
            | nil => exact hl x List.mem_cons_self
            | cons y r =>
              refine hl _ (List.mem_cons_of_mem _ ?_)
              rw [List.getLastD_eq_getLast?, List.getLast?_eq_some_getLast (by simp)]
              exact List.getLast_mem _
      · show 2 ≤ (dubL lay (pt.toNat / 2) s).length
        omega
theorem goB_ok {ts : List Tr} (s : Int) (h : OkB ts) : OkB (goB ts s) := by
  unfold goB
  refine ⟨by rw [List.length_map]; exact h.1, by rw [List.length_map]; exact h.2.1, fun t ht => ?_⟩
  obtain ⟨u, hu, rfl⟩ := List.mem_map.mp ht
  exact go_ok s (h.2.2 u hu)
end My
namespace My
/-- what a turning track adds once round -/
def onceT (t : Tr) : List Int := (List.range (2 * lenT t / Nat.gcd (2 * lenT t) t.pace.toNat)).map fun k => t.sign * colS t.lay (((t.pt + t.way * t.pace * (k : Nat)) % (2 * (lenT t : Int))).toNat / 2)
def waitT (t : Tr) : Nat := if t.md = .record then 64 - lenT t else 0
def waitB (ts : List Tr) : Nat := (ts.map waitT).foldr max 0
def runB : Nat → List Tr → List Int × List Tr
  | 0, ts => ([], ts)
  | n + 1, ts => (hearB ts :: (runB n (goB ts 0)).1, (runB n (goB ts 0)).2)
def earlyB (ts : List Tr) : List Int := (runB (waitB ts) ts).1
def endB (ts : List Tr) : List Tr := (runB (waitB ts) ts).2
def turns (t : Tr) : Bool := t.md.on && !t.mu
def turnB (ts : List Tr) : List (List Int) := ((endB ts).filter turns).map onceT
theorem wait_go {t : Tr} (h : OkT t) (s : Int) : waitT (goT t s) = waitT t - 1 := by
  cases h with
  | e => rfl
  | r c h =>
    by_cases e : (c ++ [s]).length = 64
    · have g : goT (Tr.rc c) s = ⟨.play, [c ++ [s]], [], 0, 1, 2, 1, false⟩ := by
        show (if (c ++ [s]).length = 64 then _ else _) = _
        rw [if_pos e]
        rfl
      rw [g]
      show 0 = 64 - c.length - 1
      simp at e
      omega
    · have g : goT (Tr.rc c) s = Tr.rc (c ++ [s]) := by
        show (if (c ++ [s]).length = 64 then _ else _) = _
        rw [if_neg e]
        rfl
      rw [g]
      show 64 - (c ++ [s]).length = 64 - c.length - 1
      simp
      omega
  | h t n h =>
    obtain ⟨md, lay, und, pt, way, pace, sign, mu⟩ := t
    have hm := h.md
    cases md with
    | empty => cases hm
    | record => cases hm
    | stop => rfl
    | play => rfl
    | dub => rfl
theorem wait_pos {t : Tr} (h : OkT t) : 0 < waitT t ↔ t.md = .record := by
  cases h with
  | e => exact ⟨fun q => absurd q (by decide), fun q => by cases q⟩
  | r c h =>
    refine ⟨fun _ => rfl, fun _ => ?_⟩
    show 0 < 64 - c.length
    omega
  | h t n h =>
    obtain ⟨md, lay, und, pt, way, pace, sign, mu⟩ := t
    have hm := h.md
    cases md with
    | empty => cases hm
    | record => cases hm
    | stop => exact ⟨fun q => absurd q (by simp [waitT]), fun q => by cases q⟩
    | play => exact ⟨fun q => absurd q (by simp [waitT]), fun q => by cases q⟩
    | dub => exact ⟨fun q => absurd q (by simp [waitT]), fun q => by cases q⟩
theorem waitB_go : ∀ {ts : List Tr}, (∀ t ∈ ts, OkT t) → ∀ s, waitB (goB ts s) = waitB ts - 1
  | [], _, _ => rfl
  | t :: r, h, s => by
    have q := waitB_go (ts := r) (fun u hu => h u (List.mem_cons_of_mem _ hu)) s
    have q1 := wait_go (h t List.mem_cons_self) s
    show max (waitT (goT t s)) (waitB (goB r s)) = max (waitT t) (waitB r) - 1
    rw [q, q1]
    omega
theorem waitB_pos : ∀ {ts : List Tr}, (∀ t ∈ ts, OkT t) → (0 < waitB ts ↔ ∃ t ∈ ts, t.md = .record)
  | [], _ => ⟨fun q => absurd q (by decide), fun ⟨_, q, _⟩ => by cases q⟩
  | t :: r, h => by
    have q := waitB_pos (ts := r) fun u hu => h u (List.mem_cons_of_mem _ hu)
    have q1 := wait_pos (h t List.mem_cons_self)
    show 0 < max (waitT t) (waitB r) ↔ _
    constructor
    · intro z
      by_cases e : 0 < waitT t
      · exact ⟨t, List.mem_cons_self, q1.mp e⟩
      · obtain ⟨u, hu, e2⟩ := q.mp (by omega)
        exact ⟨u, List.mem_cons_of_mem _ hu, e2⟩
    · rintro ⟨u, hu, e⟩
      cases hu with
      | head => have := q1.mpr e; omega
      | tail _ hu => have := q.mpr ⟨u, hu, e⟩; omega
theorem run_step {ts : List Tr} (h : ∀ t ∈ ts, OkT t) (p : 0 < waitB ts) : runB (waitB ts) ts = (hearB ts :: (runB (waitB (goB ts 0)) (goB ts 0)).1, (runB (waitB (goB ts 0)) (goB ts 0)).2) := by
  rw [waitB_go h 0]
  cases e : waitB ts with
  | zero => omega
  | succ n => rfl
theorem waitT_le {t : Tr} (_ : OkT t) : waitT t ≤ 64 := by
  unfold waitT
  split <;> omega
theorem waitB_le : ∀ {ts : List Tr}, (∀ t ∈ ts, OkT t) → waitB ts ≤ 64
  | [], _ => by decide
  | t :: r, h => by
    have q := waitB_le (ts := r) fun u hu => h u (List.mem_cons_of_mem _ hu)
    have q1 := waitT_le (h t List.mem_cons_self)
    show max (waitT t) (waitB r) ≤ 64
    omega
end My
namespace My
open PySem PySem.Spec PyProof.Rows L2
theorem cutD_pre (ds : List PyData) (i : Nat) : cutD ds none (some (i : Int)) = ds.take i := by
  have e := cutD_to (fun d : PyData => d) ds (i := (i : Int)) (by omega)
  rw [List.map_id', List.map_id'] at e
  exact e
theorem cutD_suf (ds : List PyData) {i : Nat} (h : i ≤ ds.length) : cutD ds (some (i : Int)) none = ds.drop i := by
  have e := cutD_from (fun d : PyData => d) ds (i := (i : Int)) (by omega) (by omega)
  rw [List.map_id', List.map_id'] at e
  exact e
theorem cutD_last (ds : List PyData) : cutD ds none (some (-1)) = ds.dropLast := by
  unfold L2.cutD HT.sIx
  cases ds with
  | nil => rfl
  | cons d r =>
    rw [List.dropLast_eq_take]
    simp
    have e : (-1 + ((r.length : Int) + 1)).toNat = r.length := by omega
    rw [e]
    omega
theorem any_false {bs : List Bool} (h : ∀ b ∈ bs, b = false) : bs.any id = false := by
  induction bs with
  | nil => rfl
  | cons b r ih =>
    rw [List.any_cons, ih fun c hc => h c (List.mem_cons_of_mem _ hc), h b List.mem_cons_self]
    rfl
theorem _root_.L2.DpAll.map_get {α : Type} {K : PySem.W.Frag} {H : Hp} {f : α → PyData} {ls : List α} {xs : List V} {i : Nat} {x : V} (h : DpAll K H xs (ls.map f)) (hx : xs[i]? = some x) : ∃ l, ls[i]? = some l ∧ Dp K H x (f l) := by
  obtain ⟨d, e, q⟩ := h.get hx
  rw [List.getElem?_map] at e
  cases el : ls[i]? with
  | none => rw [el] at e; cases e
  | some l =>
    rw [el] at e
    cases e
    exact ⟨l, rfl, q⟩
end My
namespace My
open PySem PySem.Spec PyProof.Rows L2
theorem flat_ints (ns : List Int) : (ns.map V.int).all flatV = true := by
  rw [List.all_eq_true]
  intro v hv
  obtain ⟨i, _, rfl⟩ := List.mem_map.mp hv
  rfl
theorem inV_ints {ns : List Int} {x : Int} (h : x ∈ ns) : inV (.int x) (ns.map V.int) = true := by
  unfold inV
  rw [List.any_eq_true]
  exact ⟨.int x, List.mem_map_of_mem h, beq_self_eq_true x⟩
end My
namespace My
open PySem PySem.Spec PyProof.Rows L2
theorem ret_nat {r p k : Nat} (hr : 0 < r) : r ∣ p * k ↔ r / Nat.gcd r p ∣ k := by
  have g0 : 0 < Nat.gcd r p := Nat.gcd_pos_of_pos_left _ hr
  have e1 : r = Nat.gcd r p * (r / Nat.gcd r p) := (Nat.mul_div_cancel' (Nat.gcd_dvd_left r p)).symm
  have e2 : p = Nat.gcd r p * (p / Nat.gcd r p) := (Nat.mul_div_cancel' (Nat.gcd_dvd_right r p)).symm
  have cp : Nat.Coprime (r / Nat.gcd r p) (p / Nat.gcd r p) := Nat.coprime_div_gcd_div_gcd g0
  constructor
  · intro h
    have h2 : Nat.gcd r p * (r / Nat.gcd r p) ∣ Nat.gcd r p * ((p / Nat.gcd r p) * k) := by
      rw [← e1, ← Nat.mul_assoc, ← e2]
      exact h
    exact cp.dvd_of_dvd_mul_left (Nat.dvd_of_mul_dvd_mul_left g0 h2)
  · rintro ⟨j, rfl⟩
    refine ⟨p / Nat.gcd r p * j, ?_⟩
    calc p * (r / Nat.gcd r p * j) = (Nat.gcd r p * (p / Nat.gcd r p)) * (r / Nat.gcd r p * j) := by rw [← e2]
      _ = (Nat.gcd r p * (r / Nat.gcd r p)) * (p / Nat.gcd r p * j) := by
          rw [Nat.mul_assoc, Nat.mul_assoc, Nat.mul_left_comm (p / Nat.gcd r p)]
      _ = r * (p / Nat.gcd r p * j) := by rw [← e1]
theorem ret_iff {n : Nat} {pt way pace : Int} (n1 : 1 ≤ n) (p0 : 0 ≤ pt) (p1 : pt < 2 * (n : Int)) (hw : way = 1 ∨ way = -1) (hp : 1 ≤ pace) (k : Nat) :
    (pt + way * pace * (k : Int)) % (2 * (n : Int)) = pt ↔ 2 * n / Nat.gcd (2 * n) pace.toNat ∣ k := by
  rw [← ret_nat (by omega)]
  have ep : pace = ((pace.toNat : Nat) : Int) := by omega
  have e0 : (2 * (n : Int)) = ((2 * n : Nat) : Int) := by omega
  have key : (pt + way * pace * (k : Int)) % (2 * (n : Int)) = pt ↔ (2 * (n : Int)) ∣ way * pace * (k : Int) := by
    constructor
    · intro h
      have h2 : (pt + way * pace * (k : Int)) % (2 * (n : Int)) = pt % (2 * (n : Int)) := by rw [h, Int.emod_eq_of_lt p0 p1]
      have h3 := Int.emod_emod_of_dvd (pt + way * pace * (k : Int)) (Int.dvd_refl (2 * (n : Int)))
      have h4 : (pt + way * pace * (k : Int) - pt) % (2 * (n : Int)) = 0 := Int.emod_eq_emod_iff_emod_sub_eq_zero.mp h2
      have h5 : pt + way * pace * (k : Int) - pt = way * pace * (k : Int) := by omega
      rw [h5] at h4
      exact Int.dvd_of_emod_eq_zero h4
    · rintro ⟨j, hj⟩
      rw [hj, Int.add_mul_emod_self_left, Int.emod_eq_of_lt p0 p1]
  rw [key, e0]
  rcases hw with rfl | rfl
  · rw [Int.one_mul, ep, ← Int.natCast_mul, Int.natCast_dvd_natCast]
    rw [Int.toNat_natCast]
  · rw [Int.neg_mul, Int.neg_mul, Int.dvd_neg, Int.one_mul, ep, ← Int.natCast_mul, Int.natCast_dvd_natCast]
    rw [Int.toNat_natCast]
def atK (t : Tr) (k : Nat) : Tr := { t with pt := (t.pt + t.way * t.pace * (k : Int)) % (2 * (lenT t : Int)) }
theorem add0 {l : List Int} (c : Nat) : addAt l c 0 = l := by
  unfold addAt
  rw [Int.add_zero]
  refine List.ext_getElem? fun j => ?_
  by_cases e : j = c
  · subst e
    rw [List.getElem?_set_self']
    cases h : l[j]? with
    | none => rfl
    | some y =>
      show some (l.getD j 0) = some y
      rw [List.getD_eq_getElem?_getD, h]
      rfl
  · rw [List.getElem?_set_ne (Ne.symm e)]
theorem dub0 {lay : List (List Int)} (h : lay ≠ []) (c : Nat) : dubL lay c 0 = lay := by
  unfold dubL
  have e : lay.getLastD [] = lay.getLast h := by
    rw [List.getLastD_eq_getLast?, List.getLast?_eq_some_getLast h]
    rfl
  rw [add0, e, List.dropLast_concat_getLast h]
theorem go0 {t : Tr} {n : Nat} (h : OkH t n) (e : t.md.on = true) : goT t 0 = { t with pt := wrapP t } := by
  obtain ⟨md, lay, und, pt, way, pace, sign, mu⟩ := t
  have l1 := h.l1
  have lne : lay ≠ [] := fun z => by rw [z] at l1; simp at l1
  cases md with
  | play => rfl
  | dub =>
    show Tr.mk .dub (dubL lay (pt.toNat / 2) 0) und _ way pace sign mu = _
    rw [dub0 lne]
  | empty => cases e
  | stop => cases e
  | record => cases e
theorem atK_ok {t : Tr} {n : Nat} (h : OkH t n) (e : t.md.on = true) (k : Nat) : OkH (atK t k) n := by
  have n1 := h.n1
  have el := h.len
  have q0 : 0 ≤ (t.pt + t.way * t.pace * (k : Int)) % (2 * (lenT t : Int)) := Int.emod_nonneg _ (by omega)
  have q1 : (t.pt + t.way * t.pace * (k : Int)) % (2 * (lenT t : Int)) < 2 * (n : Int) := by
    rw [el]
    exact Int.emod_lt_of_pos _ (by omega)
  exact ⟨h.md, h.n1, h.n64, h.l1, h.l4, h.ln, h.un, h.db, q0, q1, (fun z => by
    have z : t.md = .stop := z
    rw [z] at e
    cases e), h.wy, h.pc, h.sg⟩
theorem atK_go {t : Tr} {n : Nat} (h : OkH t n) (e : t.md.on = true) (k : Nat) : goT (atK t k) 0 = atK t (k + 1) := by
  rw [go0 (atK_ok h e k) e]
  show Tr.mk t.md t.lay t.und (wrapP (atK t k)) t.way t.pace t.sign t.mu = Tr.mk t.md t.lay t.und _ t.way t.pace t.sign t.mu
  congr 1
  show ((t.pt + t.way * t.pace * (k : Int)) % (2 * (lenT t : Int)) + t.way * t.pace) % (2 * (lenT t : Int)) = (t.pt + t.way * t.pace * ((k + 1 : Nat) : Int)) % (2 * (lenT t : Int))
  rw [Int.emod_add_emod]
  congr 1
  rw [Int.natCast_add, Int.mul_add]
  omega
theorem atK_zero {t : Tr} {n : Nat} (h : OkH t n) : atK t 0 = t := by
  have p0 := h.p0
  have p1 := h.p1
  unfold atK
  have e : (t.pt + t.way * t.pace * ((0 : Nat) : Int)) % (2 * (lenT t : Int)) = t.pt := by
    rw [h.len, Int.natCast_zero, Int.mul_zero, Int.add_zero, Int.emod_eq_of_lt p0 p1]
  rw [e]
def ringT (t : Tr) : Nat := 2 * lenT t / Nat.gcd (2 * lenT t) t.pace.toNat
theorem ring_pos {t : Tr} {n : Nat} (h : OkH t n) : 1 ≤ ringT t := by
  unfold ringT
  have n1 := h.n1
  rw [h.len]
  exact Nat.div_pos (Nat.gcd_le_left _ (by omega)) (Nat.gcd_pos_of_pos_left _ (by omega))
theorem ring_le {t : Tr} {n : Nat} (h : OkH t n) : ringT t ≤ 128 := by
  unfold ringT
  have n64 := h.n64
  rw [h.len]
  exact Nat.le_trans (Nat.div_le_self _ _) (by omega)
theorem atK_ret {t : Tr} {n : Nat} (h : OkH t n) (k : Nat) : (atK t k).pt = t.pt ↔ ringT t ∣ k := by
  have q := ret_iff (pace := t.pace) h.n1 h.p0 h.p1 h.wy (by rcases h.pc with e | e | e <;> rw [e] <;> decide) k
  show (t.pt + t.way * t.pace * (k : Int)) % (2 * (lenT t : Int)) = t.pt ↔ _
  unfold ringT
  rw [h.len]
  exact q
theorem once_at {t : Tr} {n : Nat} (h : OkH t n) (e : t.md.on = true) : onceT t = (List.range (ringT t)).map fun k => (atK t k).sign * sndT (atK t k) := by
  unfold onceT ringT
  refine List.map_congr_left fun k _ => ?_
  show _ = t.sign * (if t.md.on then colS t.lay (((t.pt + t.way * t.pace * (k : Int)) % (2 * (lenT t : Int))).toNat / 2) else 0)
  rw [e, if_pos rfl]
end My
namespace My
open PySem PySem.Spec PyProof.Rows L2
/-! ### what is told of pedals -/
def smA (z : Int) : Prop := z.natAbs ≤ 10 ^ 22
def SmT (t : Tr) : Prop := (∀ l ∈ t.lay, ∀ z ∈ l, smA z) ∧ ∀ l ∈ t.und, ∀ z ∈ l, smA z
/-- a track all of whose numbers have few digits -/
def FitT (t : Tr) : Prop := (∀ l ∈ t.lay, ∀ z ∈ l, z.natAbs < 10 ^ 40) ∧ ∀ l ∈ t.und, ∀ z ∈ l, z.natAbs < 10 ^ 40
theorem SmT.fit {t : Tr} (h : SmT t) : FitT t :=
  ⟨fun l hl z hz => Nat.lt_of_le_of_lt (h.1 l hl z hz) (by decide), fun l hl z hz => Nat.lt_of_le_of_lt (h.2 l hl z hz) (by decide)⟩
theorem md_fits : ∀ m : Md, fits 40 (.str m.s) = true
  | .empty => by decide +kernel
  | .record => by decide +kernel
  | .play => by decide +kernel
  | .dub => by decide +kernel
  | .stop => by decide +kernel
theorem OkT.pts {t : Tr} (h : OkT t) : 0 ≤ t.pt ∧ t.pt < 128 := by
  cases h with
  | e => exact ⟨by decide, by decide⟩
  | r c h => exact ⟨by show (0 : Int) ≤ 0; decide, by show (0 : Int) < 128; decide⟩
  | h t n h =>
    have := h.p0
    have := h.p1
    have := h.n64
    omega
theorem OkT.nums {t : Tr} (h : OkT t) : t.way.natAbs ≤ 1 ∧ t.pace.natAbs ≤ 4 ∧ t.sign.natAbs ≤ 1 := by
  cases h with
  | e => exact ⟨by decide, by decide, by decide⟩
  | r c h => exact ⟨by show (1 : Int).natAbs ≤ 1; decide, by show (2 : Int).natAbs ≤ 4; decide, by show (1 : Int).natAbs ≤ 1; decide⟩
  | h t n h =>
    refine ⟨?_, ?_, ?_⟩
    · rcases h.wy with e | e <;> rw [e] <;> decide
    · rcases h.pc with e | e | e <;> rw [e] <;> decide
    · rcases h.sg with e | e <;> rw [e] <;> decide
theorem lays4 {t : Tr} (h : OkT t) : (t.lay.length ≤ 4 ∧ ∀ l ∈ t.lay, l.length ≤ 64) ∧ t.und.length ≤ 4 ∧ ∀ l ∈ t.und, l.length ≤ 64 := by
  cases h with
  | e => exact ⟨⟨by decide, fun l hl => by cases hl⟩, by decide, fun l hl => by cases hl⟩
  | r c h => exact ⟨⟨by show 1 ≤ 4; decide, fun l hl => by rw [List.mem_singleton.mp hl]; omega⟩, by show 0 ≤ 4; decide, fun l hl => by cases hl⟩
  | h t n h =>
    have := h.l4
    have := h.n64
    exact ⟨⟨by omega, fun l hl => by rw [h.ln l hl]; omega⟩, by omega, fun l hl => by rw [h.un l hl]; omega⟩
theorem fitI {z : Int} (h : z.natAbs < 10 ^ 40) : fits 40 (.int z) = true := decide_eq_true h
theorem fits_tr {t : Tr} (ok : OkT t) (f : FitT t) : fits 40 (trD t) = true := by
  have e : (10 : Nat) ^ 40 > 1000 := by decide
  obtain ⟨p0, p1⟩ := ok.pts
  obtain ⟨w, p, s⟩ := ok.nums
  show (fits 40 (.str t.md.s) && (fits.go 40 (t.lay.map dInts) && (fits.go 40 (t.und.map dInts) && (fits 40 (.int t.pt) && (fits 40 (.int t.way) && (fits 40 (.int t.pace) && (fits 40 (.int t.sign) && (fits 40 (.bool t.mu) && true)))))))) = true
  rw [md_fits, fits_loops f.1, fits_loops f.2, fitI (by omega), fitI (by omega), fitI (by omega), fitI (by omega)]
  rfl
theorem room_tr {t : Tr} (ok : OkT t) : room 40 (trD t) ≤ 30000 := by
  obtain ⟨⟨a1, a2⟩, b1, b2⟩ := lays4 ok
  have q1 := room_loops 40 64 t.lay a2
  have q2 := room_loops 40 64 t.und b2
  show (1000 + 2 + (room.go 40 (t.lay.map dInts) + 4 + 2 + (room.go 40 (t.und.map dInts) + 4 + 2 + (41 + 2 + (41 + 2 + (41 + 2 + (41 + 2 + (10 + 2 + 0)))))))) + 4 ≤ 30000
  omega
theorem depth_tr (t : Tr) : (trD t).depth ≤ 3 := by
  have q1 := depth_loops t.lay
  have q2 := depth_loops t.und
  show max 0 (max (PyData.depthAll (t.lay.map dInts) + 1) (max (PyData.depthAll (t.und.map dInts) + 1) (max 0 (max 0 (max 0 (max 0 (max 0 0))))))) + 1 ≤ 3
  omega
theorem fits_board : ∀ {ts : List Tr}, (∀ t ∈ ts, OkT t) → (∀ t ∈ ts, FitT t) → fits.go 40 (ts.map trD) = true
  | [], _, _ => rfl
  | t :: r, h, f => by
    show (fits 40 (trD t) && fits.go 40 (r.map trD)) = true
    rw [fits_tr (h t List.mem_cons_self) (f t List.mem_cons_self), fits_board (fun u hu => h u (List.mem_cons_of_mem _ hu)) fun u hu => f u (List.mem_cons_of_mem _ hu)]
    rfl
theorem room_board : ∀ {ts : List Tr}, (∀ t ∈ ts, OkT t) → room.go 40 (ts.map trD) ≤ 30002 * ts.length
  | [], _ => Nat.le_refl _
  | t :: r, h => by
    have q := room_board (ts := r) fun u hu => h u (List.mem_cons_of_mem _ hu)
    have q1 := room_tr (h t List.mem_cons_self)
    show room 40 (trD t) + 2 + room.go 40 (r.map trD) ≤ 30002 * (r.length + 1)
    omega
theorem depth_board : ∀ ts : List Tr, PyData.depthAll (ts.map trD) ≤ 3
  | [] => by decide
  | t :: r => by
    have q := depth_board r
    have q1 := depth_tr t
    show max (trD t).depth (PyData.depthAll (r.map trD)) ≤ 3
    omega
theorem tells_board {ts : List Tr} (ok : OkB ts) (f : ∀ t ∈ ts, FitT t) : Tells (dBoard ts) := by
  refine tells 40 (by decide) (by decide) rfl (fits_board ok.2.2 f) ?_ ?_
  · have q := depth_board ts
    show PyData.depthAll (ts.map trD) + 1 ≤ 8
    omega
  · have q := room_board ok.2.2
    have := ok.2.1
    show room.go 40 (ts.map trD) + 4 ≤ _
    omega
theorem tells_pair {i : Int} {ls : List (List Int)} (hi : i.natAbs < 10 ^ 40) (hz : ∀ l ∈ ls, ∀ z ∈ l, z.natAbs < 10 ^ 40) (hb : ∀ l ∈ ls, l.length ≤ 128) (hl : ls.length ≤ 100) : Tells (.tuple [.int i, dLoops ls]) := by
  refine tells 40 (by decide) (by decide) rfl ?_ ?_ ?_
  · show (fits 40 (.int i) && (fits.go 40 (ls.map dInts) && true)) = true
    rw [fitI hi, fits_loops hz]
    rfl
  · have q := depth_loops ls
    show max 0 (max (PyData.depthAll (ls.map dInts) + 1) 0) + 1 ≤ 8
    omega
  · have q := room_loops 40 128 ls hb
    show (41 + 2 + (room.go 40 (ls.map dInts) + 4 + 2 + 0)) + 4 ≤ 16000000
    have q2 : ((40 + 3) * 128 + 6) * ls.length ≤ ((40 + 3) * 128 + 6) * 100 := Nat.mul_le_mul_left _ hl
    omega
theorem sm_add0 {l : List Int} (h : ∀ z ∈ l, smA z) : ∀ z ∈ l ++ [0], smA z := fun z hz => by
  rcases List.mem_append.mp hz with q | q
  · exact h z q
  · rw [List.mem_singleton.mp q]
    exact Nat.zero_le _
theorem SmT_go {t : Tr} (ok : OkT t) (h : SmT t) : SmT (goT t 0) := by
  cases ok with
  | e => exact h
  | r c hc =>
    have q := sm_add0 (h.1 c (by simp))
    by_cases e : (c ++ [0]).length = 64
    · have g : goT (Tr.rc c) 0 = ⟨.play, [c ++ [0]], [], 0, 1, 2, 1, false⟩ := by
        show (if (c ++ [0]).length = 64 then _ else _) = _
        rw [if_pos e]
        rfl
      rw [g]
      exact ⟨fun l hl => by rw [List.mem_singleton.mp hl]; exact q, fun l hl => by cases hl⟩
    · have g : goT (Tr.rc c) 0 = Tr.rc (c ++ [0]) := by
        show (if (c ++ [0]).length = 64 then _ else _) = _
        rw [if_neg e]
        rfl
      rw [g]
      exact ⟨fun l hl => by rw [List.mem_singleton.mp hl]; exact q, fun l hl => by cases hl⟩
  | h t n hh =>
    cases eo : t.md.on with
    | true =>
      rw [go0 hh eo]
      exact h
    | false =>
      obtain ⟨md, lay, und, pt, way, pace, sign, mu⟩ := t
      have hm := hh.md
      cases md with
      | empty => cases hm
      | record => cases hm
      | play => cases eo
      | dub => cases eo
      | stop => exact h
theorem SmB_go {ts : List Tr} (ok : ∀ t ∈ ts, OkT t) (h : ∀ t ∈ ts, SmT t) : ∀ t ∈ goB ts 0, SmT t := fun t ht => by
  obtain ⟨u, hu, rfl⟩ := List.mem_map.mp ht
  exact SmT_go (ok u hu) (h u hu)
theorem run_sm : ∀ (n : Nat) {ts : List Tr}, OkB ts → (∀ t ∈ ts, SmT t) → OkB (runB n ts).2 ∧ ∀ t ∈ (runB n ts).2, SmT t
  | 0, _, ok, h => ⟨ok, h⟩
  | n + 1, ts, ok, h => run_sm n (goB_ok 0 ok) (SmB_go ok.2.2 h)
theorem run_len : ∀ (n : Nat) (ts : List Tr), (runB n ts).1.length = n
  | 0, _ => rfl
  | n + 1, ts => by
    show (runB n (goB ts 0)).1.length + 1 = n + 1
    rw [run_len n]
theorem early_len (ts : List Tr) : (earlyB ts).length = waitB ts := run_len _ _
theorem col_small {B : Nat} : ∀ {ls : List (List Int)}, (∀ l ∈ ls, ∀ z ∈ l, z.natAbs ≤ B) → ∀ c, (colS ls c).natAbs ≤ B * ls.length
  | [], _, _ => Nat.zero_le _
  | l :: r, h, c => by
    have q := col_small (ls := r) (fun m hm => h m (List.mem_cons_of_mem _ hm)) c
    have e : (l.getD c 0).natAbs ≤ B := by
      rw [List.getD_eq_getElem?_getD]
      cases e : l[c]? with
      | none => exact Nat.zero_le _
      | some z => exact h l List.mem_cons_self z (List.mem_of_getElem? e)
    show (l.getD c 0 + colS r c).natAbs ≤ B * (r.length + 1)
    rw [Nat.mul_add]
    omega
theorem once_small {t : Tr} (ok : OkT t) (h : SmT t) : ∀ z ∈ onceT t, z.natAbs < 10 ^ 40 := fun z hz => by
  unfold onceT at hz
  obtain ⟨k, _, rfl⟩ := List.mem_map.mp hz
  have q := col_small h.1 (((t.pt + t.way * t.pace * (k : Nat)) % (2 * (lenT t : Int))).toNat / 2)
  have l4 := (lays4 ok).1.1
  have s1 := ok.nums.2.2
  rw [Int.natAbs_mul]
  have q2 : 10 ^ 22 * t.lay.length ≤ 10 ^ 22 * 4 := Nat.mul_le_mul_left _ l4
  exact Nat.lt_of_le_of_lt (Nat.mul_le_mul s1 (Nat.le_trans q q2)) (by decide)
theorem once_len {t : Tr} {n : Nat} (h : OkH t n) : (onceT t).length ≤ 128 := by
  unfold onceT
  rw [List.length_map, List.length_range]
  exact ring_le h
theorem turns_ok {t : Tr} (h : turns t = true) (ok : OkT t) : ∃ n, OkH t n := by
  unfold turns at h
  have e := (Bool.and_eq_true_iff.mp h).1
  cases ok with
  | e => cases e
  | r c h => cases e
  | h t n h => exact ⟨n, h⟩
theorem turn_facts {ts : List Tr} (ok : OkB ts) (h : ∀ t ∈ ts, SmT t) : (turnB ts).length ≤ 4 ∧ (∀ l ∈ turnB ts, l.length ≤ 128) ∧ ∀ l ∈ turnB ts, ∀ z ∈ l, z.natAbs < 10 ^ 40 := by
  obtain ⟨ok2, h2⟩ := run_sm (waitB ts) ok h
  unfold turnB endB
  refine ⟨?_, fun l hl => ?_, fun l hl => ?_⟩
  · rw [List.length_map]
    exact Nat.le_trans (List.length_filter_le _ _) ok2.2.1
  · obtain ⟨t, ht, rfl⟩ := List.mem_map.mp hl
    obtain ⟨a, b⟩ := List.mem_filter.mp ht
    obtain ⟨n, hn⟩ := turns_ok b (ok2.2.2 t a)
    exact once_len hn
  · obtain ⟨t, ht, rfl⟩ := List.mem_map.mp hl
    obtain ⟨a, b⟩ := List.mem_filter.mp ht
    exact once_small (ok2.2.2 t a) (h2 t a)
end My

/-! A dict of the written part whose keys are texts: its keys walked (pi_word, walk_word). -/
namespace RD
open PySem PySem.Spec PyProof.Rows L2
/-- at d: a written dict with these texts as keys, in their order -/
def Words (K : PySem.W.Frag) (d : Addr) (ks : List Str) : Prop :=
  ∃ es n, K.lookup d = some ⟨.type "dict", none, .dict es n, #[]⟩ ∧ (d == sysModules) = false ∧ ks.length = es.size ∧ ∀ (i : Nat) (k : Str), ks[i]? = some k → ∃ en t, es[i]? = some en ∧ en.key = .str k t
def Itw (ks : List Str) : It :=
  ⟨fun i _ => i < ks.length, fun i H x H' => H' = H ∧ ∃ k, ks[i]? = some k ∧ x = .str k, fun i _ => ks.length ≤ i⟩
theorem turn_word {P : Program} {w : World} {K : PySem.W.Frag} {tg : Expr} {d : Addr} {ks : List Str} {es : Array DictEntry} {n : Nat} (hl : K.lookup d = some ⟨.type "dict", none, .dict es n, #[]⟩) (hs : ks.length = es.size)
    (hk : ∀ (i : Nat) (k : Str), ks[i]? = some k → ∃ en t, es[i]? = some en ∧ en.key = .str k t) (it : Addr) : Turn P w K tg (Itw ks) [it] it (fun i h => h.IsKeyIter it d i es.size n) where
  mem := by simp
  obj := fun i h st b hb => by
    have e : b = it := by simpa using hb
    subst e
    obtain ⟨oi, e, c, dd⟩ := st
    exact ⟨oi, e, fun v z => by rw [dd] at z; cases z⟩
  keep := fun i h h' st k => st.at fun oi e => k it (by simp) oi e
  item := by
    intro X hP hw hK hc i pins s σ H E I hf st hg
    subst hP hw hK
    obtain ⟨f0, f1, f2, f3, f4, f5⟩ := hf it (by simp)
    have hi : i < ks.length := hg
    obtain ⟨en, t, hen, hkey⟩ := hk i _ (List.getElem?_eq_getElem hi)
    refine next_key_item st (I.kIn d _ hl) rfl rfl hen fun h' st' sb => ?_
    have I1 : Inv X pins σ H { s with heap := h' } := I.turned (t' := s.toks) (fun b ob hb e => (sb.2 b hb).trans e) f0 f1 f3 f4 f5
    obtain ⟨oi, e, c, dd⟩ := id st'
    rw [hkey]
    exact ⟨_, rfl, go_of (s := { s with heap := h' }) e c dd (by decide) ⟨.str ks[i], H, I1, ⟨t, rfl⟩, ⟨rfl, _, List.getElem?_eq_getElem hi, rfl⟩, st', fun b hb => (hf b hb).1⟩⟩
  done := by
    intro X hP hw hK hc i pins s σ H E I hf st hg
    subst hP hw hK
    obtain ⟨f0, f1, f2, f3, f4, f5⟩ := hf it (by simp)
    have hi : ks.length ≤ i := hg
    exact next_key_end (I.ok.hd hc) st (I.kIn d _ hl) rfl rfl (by rw [← hs]; exact hi) fun h' eb => ⟨rfl, I.turned (t' := s.toks) (fun b ob hb e => eb b ob hb e) f0 f1 f3 f4 f5⟩
  self := fun A i s Q E st h => wpAny_pyIter_keyiter st h
def iWords (K : PySem.W.Frag) (td : TE) : TI := fun σ H R => td σ H fun x H1 => ∃ d ks, x = .ref d ∧ Words K d ks ∧ R (Itw ks) H1
section
variable {X : Cx} {tg e : Expr} {td : TE}
theorem pi_word (he : PE X e td) : PI X tg e (iWords X.K td) := by
  refine ⟨fun pins s σ H R I h => ?_⟩
  refine thn (he.run pins s σ H _ I h) fun u s1 ⟨x, H1, I1, rx, d, ks, ex, ⟨es, n, hl, lo, hs, hk⟩, q⟩ => ?_
  subst ex
  obtain rfl : u = Value.ref d := rx
  exact iter_keys lo (I1.kIn d _ hl) ⟨rfl, rfl, rfl⟩ rfl (pi_one (tk := s1.toks) I1 _ (turn_word hl hs hk _) ⟨_, Heap.get?_push_size _ rfl, rfl, rfl⟩ q)
end
theorem walk_word {ks : List Str} : Walk (Itw ks) ks.length (fun _ => True) (fun i H x H' => H' = H ∧ ∃ k, ks[i]? = some k ∧ x = .str k) :=
  ⟨fun _ _ h _ => h, fun _ _ => Nat.le_refl _, fun _ _ _ _ _ _ y => y⟩
end RD
namespace L2
open PySem PySem.Spec PyProof.Rows
theorem k_piW {X : Cx} {K : PySem.W.Frag} {tg e : Expr} {td : TE} (he : PE X e td) (ek : X.K = K := by rfl) : PI X tg e (RD.iWords K td) := by
  subst ek
  exact RD.pi_word he
theorem k_ixD {X : Cx} {K : PySem.W.Frag} {w : World} (ek : X.K = K := by rfl) (ew : X.w = w := by rfl) : IxR X (rIxD K w) := by
  subst ek ew
  exact ix_kdict
/-- a call of a local that holds one of several defs: which one, and what it promises -/
def tCallR (i : Nat) (S : Addr → Sp → Prop) (t : TA) : TE := fun σ H Q => ∃ f sp, σ[i]? = some (some (.ref f)) ∧ S f sp ∧ t σ H fun vs H1 => sp vs H1 Q (fun _ _ _ => False)
theorem pe_callR {X : Cx} {k i : Nat} {x : Str} {p pos : Pos} {e : Expr} {es : List Expr} {t : TA} {S : Addr → Sp → Prop} (A : ∀ f sp, S f sp → Held X.prog X.w X.K X.mg X.base k f sp) (hr : Room k X.A) (ha : PA X (e :: es) t)
    (hN : X.N[i]? = some x := by rfl) (hv : Vis X.env.scope x := by first | exact Or.inl rfl | exact Or.inr (Or.inl rfl) | exact Or.inr (Or.inr rfl))
    (hdb : (x == ("__debug__" : Str)) = false := by decide) (hcd : (x == ("__classdict__" : Str)) = false := by decide)
    (he : starEach (e :: es) X.env = (false, eval e X.env) :: starEach es X.env := by rfl) (hpl : (backTo pos (starEach es X.env)).any (·.1) = false := by rfl) : PE X (.Call (.Name x p) (e :: es) [] pos) (tCallR i S t) := by
  refine ⟨fun pins s σ H Q I h => ?_⟩
  obtain ⟨f, sp, hs, hS, ht⟩ := h
  obtain ⟨fd, ps, F, hk, hb⟩ := (A f sp hS).ex
  refine (pe_callL (i := i) (f := f) (sp := sp) (dvs := []) (E := fun _ _ _ => False) F hr hN hv hk hb .nil (fun _ _ _ _ _ _ _ z => z.elim) ha hdb hcd he hpl).run pins s σ H Q I ⟨hs, ?_⟩
  have e0 : (fun (vs : List V) (H1 : Hp) => sp (vs ++ []) H1 Q (fun _ _ _ => False)) = fun vs H1 => sp vs H1 Q (fun _ _ _ => False) := by
    funext vs H1
    rw [List.append_nil]
  show t σ H (fun vs H1 => sp (vs ++ []) H1 Q (fun _ _ _ => False))
  rw [e0]
  exact ht
end L2

/-! Presses: what they make of tracks and pedals. -/
namespace My
open PySem PySem.Spec PyProof.Rows L2
inductive Dd where
  | tap
  | stop
  | clear
  | undo
  | redo
  | join
  | turn
  | flip
  | mute
  deriving DecidableEq
def Dd.s : Dd → Str
  | .tap => "tap"
  | .stop => "stop"
  | .clear => "clear"
  | .undo => "undo"
  | .redo => "redo"
  | .join => "join"
  | .turn => "turn"
  | .flip => "flip"
  | .mute => "mute"
def allD : List Dd := [.tap, .stop, .clear, .undo, .redo, .join, .turn, .flip, .mute]
theorem Dd.mem (d : Dd) : d ∈ allD := by cases d <;> decide
def joinL (ls : List (List Int)) : List Int := (List.range (ls.headD []).length).map fun c => colS ls c
def tapT (t : Tr) : Tr := match t.md with
  | .empty => Tr.rc []
  | .record => if t.lay = [[]] then Tr.e else { t with md := .play }
  | .play => if t.lay.length = 4 then t else { t with md := .dub, lay := t.lay ++ [List.replicate (lenT t) 0], und := [] }
  | _ => { t with md := .play }
def stopT (t : Tr) : Tr := if t.md = .empty ∨ t.lay = [[]] then Tr.e else { t with md := .stop, pt := 0 }
def undoT (t : Tr) : Tr := if t.lay.length < 2 then t else { t with md := if t.md = .dub then .play else t.md, lay := t.lay.dropLast, und := t.und ++ [t.lay.getLastD []] }
def redoT (t : Tr) : Tr := if t.und = [] then t else { t with lay := t.lay ++ [t.und.getLastD []], und := t.und.dropLast }
def joinT (t : Tr) : Tr := if t.md = .dub ∨ t.lay.length < 2 then t else { t with lay := [joinL t.lay], und := [] }
def turnT (t : Tr) : Tr := if t.md.holds then { t with way := - t.way } else t
def flipT (t : Tr) : Tr := if t.md.holds then { t with sign := - t.sign } else t
def muteT (t : Tr) : Tr := if t.md.holds then { t with mu := !t.mu } else t
def paceT (p : Int) (t : Tr) : Tr := if t.md.holds then { t with pace := p } else t
def deedT : Dd → Tr → Tr
  | .tap => tapT
  | .stop => stopT
  | .clear => fun _ => Tr.e
  | .undo => undoT
  | .redo => redoT
  | .join => joinT
  | .turn => turnT
  | .flip => flipT
  | .mute => muteT
inductive Pr where
  | d (w : Dd) (a : Nat)
  | p (a : Nat) (n : Int)
def Pr.at : Pr → Nat
  | .d _ a => a
  | .p a _ => a
def Pr.s : Pr → Str
  | .d w _ => w.s
  | .p _ _ => "pace"
def prD : Pr → PyData
  | .d w a => .tuple [.str w.s, .int (a : Nat)]
  | .p a n => .tuple [.str "pace", .int (a : Nat), .int n]
def pressT : Pr → Tr → Tr
  | .d w _ => deedT w
  | .p _ n => paceT n
structure OkP (p : Pr) (tracks : Nat) : Prop where
  at_ : p.at < tracks
  pc : ∀ a n, p = .p a n → n = 1 ∨ n = 2 ∨ n = 4
def pressB (ts : List Tr) (p : Pr) : List Tr := ts.set p.at (pressT p (ts.getD p.at Tr.e))
theorem OkH.lay_ne {t : Tr} {n : Nat} (h : OkH t n) : t.lay ≠ [[]] := fun e => by
  have q := h.ln [] (by rw [e]; exact List.mem_singleton.mpr rfl)
  have := h.n1
  simp at q
  omega
theorem OkH.ne {t : Tr} {n : Nat} (h : OkH t n) : t.lay ≠ [] := fun e => by
  have := h.l1
  rw [e] at this
  simp at this
theorem lastD_mem {α : Type} {ls : List α} (h : ls ≠ []) (d : α) : ls.getLastD d ∈ ls := by
  rw [List.getLastD_eq_getLast?, List.getLast?_eq_some_getLast h]
  exact List.getLast_mem h
theorem tap_ok {t : Tr} (h : OkT t) : OkT (tapT t) := by
  cases h with
  | e => exact .r [] (by decide)
  | r c h =>
    by_cases e : (Tr.rc c).lay = [[]]
    · have g : tapT (Tr.rc c) = Tr.e := by
        show (if (Tr.rc c).lay = [[]] then _ else _) = _
        rw [if_pos e]
      rw [g]
      exact .e
    · have g : tapT (Tr.rc c) = ⟨.play, [c], [], 0, 1, 2, 1, false⟩ := by
        show (if (Tr.rc c).lay = [[]] then _ else _) = _
        rw [if_neg e]
      rw [g]
      have c1 : c ≠ [] := fun q => e (by rw [q])
      have := List.length_pos_iff.mpr c1
      exact .h _ c.length ⟨rfl, this, by omega, Nat.le_refl 1, by simp, by simp, by simp, by simp, by simp, by simp; omega, by simp, .inl rfl, .inr (.inl rfl), .inl rfl⟩
  | h t n h =>
    have hn := h.len
    obtain ⟨md, lay, und, pt, way, pace, sign, mu⟩ := t
    have hm := h.md
    cases md with
    | empty => cases hm
    | record => cases hm
    | stop =>
      have e := h.st rfl
      exact .h _ n ⟨rfl, h.n1, h.n64, h.l1, h.l4, h.ln, h.un, (by intro z; cases z), h.p0, h.p1, (by intro z; cases z), h.wy, h.pc, h.sg⟩
    | dub => exact .h _ n ⟨rfl, h.n1, h.n64, h.l1, h.l4, h.ln, h.un, (by intro z; cases z), h.p0, h.p1, (by intro z; cases z), h.wy, h.pc, h.sg⟩
    | play =>
      by_cases e : lay.length = 4
      · have g : tapT ⟨.play, lay, und, pt, way, pace, sign, mu⟩ = ⟨.play, lay, und, pt, way, pace, sign, mu⟩ := by
          show (if lay.length = 4 then _ else _) = _
          rw [if_pos e]
        rw [g]
        exact .h _ n h
      · have g : tapT ⟨.play, lay, und, pt, way, pace, sign, mu⟩ = ⟨.dub, lay ++ [List.replicate n 0], [], pt, way, pace, sign, mu⟩ := by
          show (if lay.length = 4 then _ else _) = _
          rw [if_neg e]
          rw [hn]
        rw [g]
        have l1 := h.l1
        have l4 := h.l4
        dsimp only at l1 l4
        refine .h _ n ⟨rfl, h.n1, h.n64, ?_, ?_, fun l hl => ?_, by simp, fun _ => ⟨?_, rfl⟩, h.p0, h.p1, (by intro z; cases z), h.wy, h.pc, h.sg⟩
        · simp
        · simp
          omega
        · rcases List.mem_append.mp hl with q | q
          · exact h.ln l q
          · rw [List.mem_singleton.mp q, List.length_replicate]
        · simp
          omega
theorem stop_ok {t : Tr} (h : OkT t) : OkT (stopT t) := by
  unfold stopT
  split
  · exact .e
  · rename_i q
    cases h with
    | e => exact absurd (.inl rfl) q
    | r c h =>
      have c1 : c ≠ [] := fun z => q (.inr (by rw [z]))
      have := List.length_pos_iff.mpr c1
      exact .h _ c.length ⟨rfl, this, by omega, Nat.le_refl 1, by simp, by simp, by simp, by simp, by simp, by simp; omega, by simp, .inl rfl, .inr (.inl rfl), .inl rfl⟩
    | h t n h =>
      have := h.n1
      exact .h _ n ⟨rfl, h.n1, h.n64, h.l1, h.l4, h.ln, h.un, (by intro z; cases z), Int.le_refl 0, by show (0 : Int) < 2 * (n : Int); omega, fun _ => rfl, h.wy, h.pc, h.sg⟩
theorem undo_ok {t : Tr} (h : OkT t) : OkT (undoT t) := by
  unfold undoT
  split
  · exact h
  · rename_i q
    cases h with
    | e => exact absurd (by decide) q
    | r c h => exact absurd (by show 1 < 2; decide) q
    | h t n h =>
      have ne := h.ne
      have hl := lastD_mem ne []
      have l4 := h.l4
      refine .h _ n ⟨?_, h.n1, h.n64, ?_, ?_, fun l hl2 => h.ln l ((List.dropLast_sublist _).subset hl2), fun l hl2 => ?_, fun z => ?_, h.p0, h.p1, fun z => ?_, h.wy, h.pc, h.sg⟩
      · show (if t.md = .dub then Md.play else t.md).holds = true
        split
        · rfl
        · exact h.md
      · show 1 ≤ t.lay.dropLast.length
        rw [List.length_dropLast]
        omega
      · show t.lay.dropLast.length + (t.und ++ [t.lay.getLastD []]).length ≤ 4
        rw [List.length_dropLast, List.length_append, List.length_singleton]
        omega
      · rcases List.mem_append.mp hl2 with z | z
        · exact h.un l z
        · rw [List.mem_singleton.mp z]
          exact h.ln _ hl
      · exact absurd (show (if t.md = .dub then Md.play else t.md) = .dub from z) (by split <;> simp_all)
      · have z : (if t.md = .dub then Md.play else t.md) = .stop := z
        split at z
        · cases z
        · exact h.st z
theorem redo_ok {t : Tr} (h : OkT t) : OkT (redoT t) := by
  unfold redoT
  split
  · exact h
  · rename_i q
    cases h with
    | e => exact absurd rfl q
    | r c h => exact absurd rfl q
    | h t n h =>
      have hl := lastD_mem q []
      have l4 := h.l4
      have := List.length_pos_iff.mpr q
      refine .h _ n ⟨h.md, h.n1, h.n64, ?_, ?_, fun l hl2 => ?_, fun l hl2 => h.un l ((List.dropLast_sublist _).subset hl2), fun z => absurd (h.db z).2 q, h.p0, h.p1, h.st, h.wy, h.pc, h.sg⟩
      · show 1 ≤ (t.lay ++ [t.und.getLastD []]).length
        simp
      · show (t.lay ++ [t.und.getLastD []]).length + t.und.dropLast.length ≤ 4
        rw [List.length_dropLast, List.length_append, List.length_singleton]
        omega
      · rcases List.mem_append.mp hl2 with z | z
        · exact h.ln l z
        · rw [List.mem_singleton.mp z]
          exact h.un _ hl
theorem join_ok {t : Tr} (h : OkT t) : OkT (joinT t) := by
  unfold joinT
  split
  · exact h
  · rename_i q
    cases h with
    | e => exact absurd (.inr (by decide)) q
    | r c h => exact absurd (.inr (by show 1 < 2; decide)) q
    | h t n h =>
      have hn : (joinL t.lay).length = n := by
        have e := h.len
        unfold lenT at e
        unfold joinL
        rw [List.length_map, List.length_range]
        exact e
      refine .h _ n ⟨h.md, h.n1, h.n64, Nat.le_refl 1, (by show 1 + 0 ≤ 4; decide), fun l hl2 => ?_, (fun l hl2 => by cases hl2), fun z => absurd (.inl z) q, h.p0, h.p1, h.st, h.wy, h.pc, h.sg⟩
      rw [List.mem_singleton.mp hl2]
      exact hn
theorem neg_one {w : Int} (h : w = 1 ∨ w = -1) : -w = 1 ∨ -w = -1 := by omega
theorem turn_ok {t : Tr} (h : OkT t) : OkT (turnT t) := by
  unfold turnT
  split
  · rename_i q
    cases h with
    | e => cases q
    | r c h => cases q
    | h t n h => exact .h _ n ⟨h.md, h.n1, h.n64, h.l1, h.l4, h.ln, h.un, h.db, h.p0, h.p1, h.st, neg_one h.wy, h.pc, h.sg⟩
  · exact h
theorem flip_ok {t : Tr} (h : OkT t) : OkT (flipT t) := by
  unfold flipT
  split
  · rename_i q
    cases h with
    | e => cases q
    | r c h => cases q
    | h t n h => exact .h _ n ⟨h.md, h.n1, h.n64, h.l1, h.l4, h.ln, h.un, h.db, h.p0, h.p1, h.st, h.wy, h.pc, neg_one h.sg⟩
  · exact h
theorem mute_ok {t : Tr} (h : OkT t) : OkT (muteT t) := by
  unfold muteT
  split
  · rename_i q
    cases h with
    | e => cases q
    | r c h => cases q
    | h t n h => exact .h _ n ⟨h.md, h.n1, h.n64, h.l1, h.l4, h.ln, h.un, h.db, h.p0, h.p1, h.st, h.wy, h.pc, h.sg⟩
  · exact h
theorem pace_ok {t : Tr} {p : Int} (hp : p = 1 ∨ p = 2 ∨ p = 4) (h : OkT t) : OkT (paceT p t) := by
  unfold paceT
  split
  · rename_i q
    cases h with
    | e => cases q
    | r c h => cases q
    | h t n h => exact .h _ n ⟨h.md, h.n1, h.n64, h.l1, h.l4, h.ln, h.un, h.db, h.p0, h.p1, h.st, h.wy, hp, h.sg⟩
  · exact h
theorem deed_ok (d : Dd) {t : Tr} (h : OkT t) : OkT (deedT d t) := by
  cases d with
  | tap => exact tap_ok h
  | stop => exact stop_ok h
  | clear => exact .e
  | undo => exact undo_ok h
  | redo => exact redo_ok h
  | join => exact join_ok h
  | turn => exact turn_ok h
  | flip => exact flip_ok h
  | mute => exact mute_ok h
theorem press_ok {p : Pr} {n : Nat} (hp : OkP p n) {t : Tr} (h : OkT t) : OkT (pressT p t) := by
  cases p with
  | d w a => exact deed_ok w h
  | p a m => exact pace_ok (hp.pc a m rfl) h
theorem pressB_ok {ts : List Tr} {p : Pr} (hp : OkP p ts.length) (h : OkB ts) : OkB (pressB ts p) := by
  unfold pressB
  refine ⟨by rw [List.length_set]; exact h.1, by rw [List.length_set]; exact h.2.1, fun t ht => ?_⟩
  rcases List.mem_or_eq_of_mem_set ht with q | q
  · exact h.2.2 t q
  · rw [q]
    refine press_ok hp (h.2.2 _ ?_)
    rw [List.getD_eq_getElem?_getD, List.getElem?_eq_getElem hp.at_]
    exact List.getElem_mem _
/-! ### how great the cells are: all of a column together -/
def colA (ls : List (List Int)) (c : Nat) : Nat := (ls.map fun l => (l.getD c 0).natAbs).sum
def BdT (t : Tr) (b : Nat) : Prop := ∀ c, colA (t.lay ++ t.und) c ≤ b
theorem colA_app (ls ms : List (List Int)) (c : Nat) : colA (ls ++ ms) c = colA ls c + colA ms c := by
  unfold colA
  rw [List.map_append, List.sum_append]
theorem colA_one (l : List Int) (c : Nat) : colA [l] c = (l.getD c 0).natAbs := by simp [colA]
theorem colS_le : ∀ (ls : List (List Int)) (c : Nat), (colS ls c).natAbs ≤ colA ls c
  | [], c => by simp [colS, colA]
  | l :: r, c => by
    have q := colS_le r c
    unfold colS colA at q ⊢
    rw [List.map_cons, List.sum_cons, List.map_cons, List.sum_cons]
    omega
theorem join_at (ls : List (List Int)) (c : Nat) : ((joinL ls).getD c 0).natAbs ≤ colA ls c := by
  unfold joinL
  rw [List.getD_eq_getElem?_getD, List.getElem?_map]
  by_cases h : c < (ls.headD []).length
  · rw [List.getElem?_range h]
    exact colS_le ls c
  · rw [List.getElem?_eq_none (by rw [List.length_range]; omega)]
    simp
theorem colA_last {ls : List (List Int)} (h : ls ≠ []) (c : Nat) : colA ls.dropLast c + ((ls.getLastD []).getD c 0).natAbs = colA ls c := by
  rw [show ls.getLastD [] = ls.getLast h from by rw [List.getLastD_eq_getLast?, List.getLast?_eq_some_getLast h]; rfl, ← colA_one, ← colA_app, List.dropLast_concat_getLast]
theorem BdT.e (b : Nat) : BdT Tr.e b := fun c => Nat.zero_le _
theorem rep_get0 (n c : Nat) : (List.replicate n (0 : Int)).getD c 0 = 0 := by
  rw [List.getD_eq_getElem?_getD, List.getElem?_replicate]
  split <;> rfl
theorem deed_bd (d : Dd) {t : Tr} {b : Nat} (h : BdT t b) : BdT (deedT d t) b := by
  intro c
  have q := h c
  rw [colA_app] at q
  cases d with
  | tap =>
    show colA ((tapT t).lay ++ (tapT t).und) c ≤ b
    obtain ⟨md, lay, und, pt, way, pace, sign, mu⟩ := t
    dsimp only at q
    rw [colA_app]
    cases md with
    | empty => exact Nat.zero_le _
    | record =>
      show colA (if lay = [[]] then Tr.e else _).lay c + colA (if lay = [[]] then Tr.e else _).und c ≤ b
      split
      · exact Nat.zero_le _
      · exact q
    | play =>
      unfold tapT
      dsimp only
      split
      · exact q
      · show colA (lay ++ [_]) c + 0 ≤ b
        rw [colA_app, colA_one, rep_get0]
        show colA lay c + 0 + 0 ≤ b
        omega
    | dub => exact q
    | stop => exact q
  | stop =>
    show colA ((stopT t).lay ++ (stopT t).und) c ≤ b
    rw [colA_app]
    unfold stopT
    split
    · exact Nat.zero_le _
    · exact q
  | clear => exact Nat.zero_le _
  | undo =>
    show colA ((undoT t).lay ++ (undoT t).und) c ≤ b
    rw [colA_app]
    unfold undoT
    split
    · exact q
    · rename_i z
      have ne : t.lay ≠ [] := fun y => z (by rw [y]; decide)
      have e := colA_last ne c
      show colA t.lay.dropLast c + colA (t.und ++ [t.lay.getLastD []]) c ≤ b
      rw [colA_app, colA_one]
      omega
  | redo =>
    show colA ((redoT t).lay ++ (redoT t).und) c ≤ b
    rw [colA_app]
    unfold redoT
    split
    · exact q
    · rename_i z
      have e := colA_last z c
      show colA (t.lay ++ [t.und.getLastD []]) c + colA t.und.dropLast c ≤ b
      rw [colA_app, colA_one]
      omega
  | join =>
    show colA ((joinT t).lay ++ (joinT t).und) c ≤ b
    rw [colA_app]
    unfold joinT
    split
    · exact q
    · have e := join_at t.lay c
      show colA [joinL t.lay] c + 0 ≤ b
      rw [colA_one]
      omega
  | turn =>
    show colA ((turnT t).lay ++ (turnT t).und) c ≤ b
    rw [colA_app]
    unfold turnT
    split <;> exact q
  | flip =>
    show colA ((flipT t).lay ++ (flipT t).und) c ≤ b
    rw [colA_app]
    unfold flipT
    split <;> exact q
  | mute =>
    show colA ((muteT t).lay ++ (muteT t).und) c ≤ b
    rw [colA_app]
    unfold muteT
    split <;> exact q
theorem press_bd (p : Pr) {t : Tr} {b : Nat} (h : BdT t b) : BdT (pressT p t) b := by
  cases p with
  | d w a => exact deed_bd w h
  | p a n =>
    intro c
    have q := h c
    rw [colA_app] at q
    show colA ((paceT n t).lay ++ (paceT n t).und) c ≤ b
    rw [colA_app]
    unfold paceT
    split <;> exact q
theorem colA_mem {ls : List (List Int)} {l : List Int} (h : l ∈ ls) (c : Nat) : (l.getD c 0).natAbs ≤ colA ls c := by
  unfold colA
  induction ls with
  | nil => cases h
  | cons m r ih =>
    rw [List.map_cons, List.sum_cons]
    cases h with
    | head => omega
    | tail _ z =>
      have := ih z
      omega
theorem BdT.cell {t : Tr} {b : Nat} (h : BdT t b) {l : List Int} (hl : l ∈ t.lay ++ t.und) {z : Int} (hz : z ∈ l) : z.natAbs ≤ b := by
  obtain ⟨c, hc, e⟩ := List.mem_iff_getElem.mp hz
  have q := Nat.le_trans (colA_mem hl c) (h c)
  rw [List.getD_eq_getElem?_getD, List.getElem?_eq_getElem hc, e] at q
  exact q
theorem colA_le {b : Nat} : ∀ {ls : List (List Int)}, (∀ l ∈ ls, ∀ z ∈ l, z.natAbs ≤ b) → ∀ c, colA ls c ≤ ls.length * b
  | [], _, c => Nat.zero_le _
  | l :: r, h, c => by
    have q := colA_le (ls := r) (fun m hm => h m (List.mem_cons_of_mem _ hm)) c
    have e : (l.getD c 0).natAbs ≤ b := by
      rw [List.getD_eq_getElem?_getD]
      by_cases hc : c < l.length
      · rw [List.getElem?_eq_getElem hc]
        exact h l List.mem_cons_self _ (List.getElem_mem hc)
      · rw [List.getElem?_eq_none (by omega)]
        exact Nat.zero_le _
    unfold colA at q ⊢
    rw [List.map_cons, List.sum_cons, List.length_cons, Nat.succ_mul]
    omega
theorem SmT.bd {t : Tr} (ok : OkT t) (h : SmT t) : BdT t (10 ^ 23) := fun c => by
  have l : (t.lay ++ t.und).length ≤ 4 := by
    cases ok with
    | e => decide
    | r c h => show 1 ≤ 4; decide
    | h t n h =>
      rw [List.length_append]
      exact h.l4
  have q := colA_le (b := 10 ^ 22) (ls := t.lay ++ t.und) (fun m hm z hz => by
    rcases List.mem_append.mp hm with y | y
    · exact h.1 m y z hz
    · exact h.2 m y z hz) c
  refine Nat.le_trans q (Nat.le_trans (Nat.mul_le_mul_right _ l) ?_)
  decide
theorem BdT.fit {t : Tr} (h : BdT t (10 ^ 23)) : FitT t :=
  ⟨fun l hl z hz => Nat.lt_of_le_of_lt (h.cell (List.mem_append.mpr (.inl hl)) hz) (by decide), fun l hl z hz => Nat.lt_of_le_of_lt (h.cell (List.mem_append.mpr (.inr hl)) hz) (by decide)⟩
theorem BdT.mono {t : Tr} {b b' : Nat} (h : BdT t b) (q : b ≤ b') : BdT t b' := fun c => Nat.le_trans (h c) q
end My

/-! Rows that are played: what is heard, the pedal behind, bounds. -/
namespace My
open PySem PySem.Spec PyProof.Rows L2
def stepB (ts : List Tr) (ps : List Pr) : List Tr := ps.foldl pressB ts
def playB : List Tr → List (List Pr) → List Int → List Int × List Tr
  | ts, st :: r, s :: ss => (hearB (stepB ts st) :: (playB (goB (stepB ts st) s) r ss).1, (playB (goB (stepB ts st) s) r ss).2)
  | ts, _, _ => ([], ts)
structure OkR (tracks : Nat) (row : List (List Pr)) : Prop where
  l : row.length ≤ 200
  s : ∀ st ∈ row, st.length ≤ 8 ∧ ∀ p ∈ st, OkP p tracks
theorem pressB_len (ts : List Tr) (p : Pr) : (pressB ts p).length = ts.length := by
  unfold pressB
  rw [List.length_set]
theorem stepB_len : ∀ (ps : List Pr) (ts : List Tr), (stepB ts ps).length = ts.length
  | [], ts => rfl
  | p :: r, ts => (stepB_len r (pressB ts p)).trans (pressB_len ts p)
theorem stepB_ok : ∀ {ps : List Pr} {ts : List Tr}, (∀ p ∈ ps, OkP p ts.length) → OkB ts → OkB (stepB ts ps)
  | [], ts, _, h => h
  | p :: r, ts, hp, h => stepB_ok (ps := r) (ts := pressB ts p) (fun q hq => by rw [pressB_len]; exact hp q (List.mem_cons_of_mem _ hq)) (pressB_ok (hp p List.mem_cons_self) h)
theorem stepB_bd {b : Nat} : ∀ {ps : List Pr} {ts : List Tr}, (∀ t ∈ ts, BdT t b) → ∀ t ∈ stepB ts ps, BdT t b
  | [], ts, h => h
  | p :: r, ts, h => stepB_bd (ps := r) (ts := pressB ts p) (fun t ht => by
    unfold pressB at ht
    rcases List.mem_or_eq_of_mem_set ht with q | q
    · exact h t q
    · rw [q]
      refine press_bd p ?_
      rw [List.getD_eq_getElem?_getD]
      cases e : ts[p.at]? with
      | none => exact BdT.e b
      | some u => exact h u (List.mem_of_getElem? e))
theorem goB_len (ts : List Tr) (s : Int) : (goB ts s).length = ts.length := by
  unfold goB
  rw [List.length_map]
theorem stepB_app (ps qs : List Pr) (ts : List Tr) : stepB ts (ps ++ qs) = stepB (stepB ts ps) qs := List.foldl_append
theorem playB_nil (ts : List Tr) (ss : List Int) : playB ts [] ss = ([], ts) := by cases ss <;> rfl
theorem playB_len : ∀ (row : List (List Pr)) (sound : List Int) (ts : List Tr), row.length = sound.length → (playB ts row sound).1.length = row.length ∧ (playB ts row sound).2.length = ts.length
  | [], ss, ts, _ => by rw [playB_nil]; exact ⟨rfl, rfl⟩
  | st :: r, [], ts, e => by simp at e
  | st :: r, s :: ss, ts, e => by
    obtain ⟨h1, h2⟩ := playB_len r ss (goB (stepB ts st) s) (by simpa using e)
    exact ⟨by show _ + 1 = _ + 1; rw [h1], by show (playB (goB (stepB ts st) s) r ss).2.length = _; rw [h2, goB_len, stepB_len]⟩
/-- one more step -/
theorem playB_snoc : ∀ (row : List (List Pr)) (sound : List Int) (ts : List Tr) (st : List Pr) (s : Int), row.length = sound.length →
    playB ts (row ++ [st]) (sound ++ [s]) = ((playB ts row sound).1 ++ [hearB (stepB (playB ts row sound).2 st)], goB (stepB (playB ts row sound).2 st) s)
  | [], [], ts, st, s, _ => by
    show (hearB (stepB ts st) :: (playB _ [] []).1, (playB _ [] []).2) = _
    rw [playB_nil]
    rfl
  | [], _ :: _, ts, st, s, e => by simp at e
  | _ :: _, [], ts, st, s, e => by simp at e
  | a :: r, x :: ss, ts, st, s, e => by
    have q := playB_snoc r ss (goB (stepB ts a) x) st s (by simpa using e)
    show (hearB (stepB ts a) :: (playB _ (r ++ [st]) (ss ++ [s])).1, (playB _ (r ++ [st]) (ss ++ [s])).2) = _
    rw [q]
    rfl
/-- a row in two parts -/
theorem playB_app : ∀ (r1 r2 : List (List Pr)) (s1 s2 : List Int) (ts : List Tr), r1.length = s1.length →
    playB ts (r1 ++ r2) (s1 ++ s2) = ((playB ts r1 s1).1 ++ (playB (playB ts r1 s1).2 r2 s2).1, (playB (playB ts r1 s1).2 r2 s2).2)
  | [], r2, [], s2, ts, _ => rfl
  | [], _, _ :: _, _, ts, e => by simp at e
  | _ :: _, _, [], _, ts, e => by simp at e
  | a :: r, r2, x :: ss, s2, ts, e => by
    have q := playB_app r r2 ss s2 (goB (stepB ts a) x) (by simpa using e)
    show (hearB (stepB ts a) :: (playB _ (r ++ r2) (ss ++ s2)).1, (playB _ (r ++ r2) (ss ++ s2)).2) = _
    rw [q]
    rfl
theorem playB_ok : ∀ (row : List (List Pr)) (sound : List Int) (ts : List Tr), (∀ st ∈ row, ∀ p ∈ st, OkP p ts.length) → OkB ts → OkB (playB ts row sound).2
  | [], ss, ts, _, h => by rw [playB_nil]; exact h
  | st :: r, [], ts, _, h => h
  | st :: r, s :: ss, ts, hp, h => by
    have l : (goB (stepB ts st) s).length = ts.length := by rw [goB_len, stepB_len]
    exact playB_ok r ss (goB (stepB ts st) s) (fun u hu p hq => by rw [l]; exact hp u (List.mem_cons_of_mem _ hu) p hq) (goB_ok s (stepB_ok (hp st List.mem_cons_self) h))
/-! ### bounds: a tick adds at most the sample to a column -/
theorem set_get (l : List Int) (c : Nat) (x : Int) (i : Nat) : (l.set c x).getD i 0 = if c = i ∧ c < l.length then x else l.getD i 0 := by
  rw [List.getD_eq_getElem?_getD, List.getD_eq_getElem?_getD, List.getElem?_set]
  by_cases e : c = i
  · subst e
    by_cases h : c < l.length
    · simp [h]
    · simp [h]
  · simp [e]
theorem add_at (l : List Int) (c : Nat) (s : Int) (i : Nat) : ((addAt l c s).getD i 0).natAbs ≤ (l.getD i 0).natAbs + s.natAbs := by
  unfold addAt
  rw [set_get]
  split
  · rename_i h
    rw [h.1]
    omega
  · omega
theorem app_get (l : List Int) (s : Int) (i : Nat) : ((l ++ [s]).getD i 0).natAbs ≤ (l.getD i 0).natAbs + s.natAbs := by
  rw [List.getD_eq_getElem?_getD, List.getD_eq_getElem?_getD]
  by_cases h : i < l.length
  · rw [List.getElem?_append_left h]
    omega
  · rw [List.getElem?_append_right (by omega)]
    cases e : ([s] : List Int)[i - l.length]? with
    | none => simp
    | some x =>
      have m := List.mem_of_getElem? e
      rw [List.mem_singleton.mp m]
      simp
theorem go_bd {t : Tr} {b : Nat} (ok : OkT t) (h : BdT t b) (s : Int) : BdT (goT t s) (b + s.natAbs) := by
  intro c
  have q := h c
  rw [colA_app] at q
  cases ok with
  | e => exact Nat.le_trans (h c) (by omega)
  | r l hl =>
    have q2 : (l.getD c 0).natAbs ≤ b := by
      have z : colA [l] c + colA ([] : List (List Int)) c ≤ b := q
      rw [colA_one] at z
      exact Nat.le_trans (Nat.le_add_right _ _) z
    have g : colA ((goT (Tr.rc l) s).lay ++ (goT (Tr.rc l) s).und) c = ((l ++ [s]).getD c 0).natAbs := by
      by_cases e : (l ++ [s]).length = 64
      · have g : goT (Tr.rc l) s = ⟨.play, [l ++ [s]], [], 0, 1, 2, 1, false⟩ := by
          show (if (l ++ [s]).length = 64 then _ else _) = _
          rw [if_pos e]
          rfl
        rw [g]
        exact colA_one _ _
      · have g : goT (Tr.rc l) s = Tr.rc (l ++ [s]) := by
          show (if (l ++ [s]).length = 64 then _ else _) = _
          rw [if_neg e]
          rfl
        rw [g]
        exact colA_one _ _
    rw [g]
    have := app_get l s c
    omega
  | h t n oh =>
    have ne := oh.ne
    have e := colA_last ne c
    obtain ⟨md, lay, und, pt, way, pace, sign, mu⟩ := t
    have hm := oh.md
    dsimp only at q e ne
    rw [colA_app]
    cases md with
    | empty => cases hm
    | record => cases hm
    | stop =>
      show colA lay c + colA und c ≤ _
      omega
    | play =>
      show colA lay c + colA und c ≤ _
      omega
    | dub =>
      show colA (dubL lay (pt.toNat / 2) s) c + colA und c ≤ _
      unfold dubL
      rw [colA_app, colA_one]
      have z := add_at (lay.getLastD []) (pt.toNat / 2) s c
      omega
theorem goB_bd {ts : List Tr} {b : Nat} (ok : ∀ t ∈ ts, OkT t) (h : ∀ t ∈ ts, BdT t b) (s : Int) : ∀ t ∈ goB ts s, BdT t (b + s.natAbs) := fun t ht => by
  unfold goB at ht
  obtain ⟨u, hu, rfl⟩ := List.mem_map.mp ht
  exact go_bd (ok u hu) (h u hu) s
theorem snd_le {t : Tr} {b : Nat} (h : BdT t b) : (sndT t).natAbs ≤ b := by
  unfold sndT
  split
  · have q := h (t.pt.toNat / 2)
    rw [colA_app] at q
    exact Nat.le_trans (colS_le _ _) (Nat.le_trans (Nat.le_add_right _ _) q)
  · exact Nat.zero_le _
theorem hear_le {b : Nat} : ∀ {ts : List Tr}, (∀ t ∈ ts, OkT t) → (∀ t ∈ ts, BdT t b) → (hearB ts).natAbs ≤ ts.length * b
  | [], _, _ => by simp [hearB]
  | t :: r, ok, h => by
    have q := hear_le (ts := r) (fun u hu => ok u (List.mem_cons_of_mem _ hu)) fun u hu => h u (List.mem_cons_of_mem _ hu)
    have s := snd_le (h t List.mem_cons_self)
    have g1 : -1 ≤ t.sign ∧ t.sign ≤ 1 := by
      cases ok t List.mem_cons_self with
      | e => exact ⟨by decide, by decide⟩
      | r c h => exact ⟨by show (-1 : Int) ≤ 1; decide, by show (1 : Int) ≤ 1; decide⟩
      | h t n h => rcases h.sg with e | e <;> rw [e] <;> decide
    have e : hearB (t :: r) = (if t.mu then 0 else t.sign * sndT t) + hearB r := by
      unfold hearB
      rw [List.map_cons, List.sum_cons]
    have z : (if t.mu then 0 else t.sign * sndT t).natAbs ≤ b := by
      split
      · exact Nat.zero_le _
      · rw [Int.natAbs_mul]
        have : t.sign.natAbs ≤ 1 := by omega
        exact Nat.le_trans (Nat.mul_le_mul this s) (by omega)
    rw [e, List.length_cons, Nat.succ_mul]
    omega
end My

/-! What a lambda that may raise comes to; the state of the draws and data where a table grows. -/
namespace My
open PySem PySem.Spec PyProof.Rows L2 LamX
theorem exm_apart {K : PySem.W.Frag} {B C : Addr} (h1 : PySem.W.subIn K (.ref C) (.type "BaseException") = some true) (h2 : PySem.W.isClsIn K C = true)
    (h3 : PySem.W.typeIn K (.ref C) = some (.type "type")) (h4 : PySem.W.subIn K (.ref B) (.ref C) = some false) : PySem.W.exmOne K (.ref B) (.ref C) = some false := by
  have h2' : (PySem.W.clsIn K C).isSome = true := h2
  simp [PySem.W.exmOne, PySem.W.kitCls, h1, h2', h3, h4]
/-- what is wished of an error of a lambda: L, the classes with their words and fields -/
def fltW (K : PySem.W.Frag) (L : List (Addr × Str × Option Str)) (Q : VK) : XK := fun cls d H => ∃ (C : Addr) (word : Str) (fo : Option Str), cls = .ref C ∧ (C, word, fo) ∈ L ∧ (match fo with
  | some f => ∃ (dd : Addr) (w : V), d = some dd ∧ H dd = some (.xd [(f, w)]) ∧ ∀ p H', Same H H' → SqT K H' p [.str word, w] → Q (.ref p) H'
  | none => d = none ∧ ∀ p H', Same H H' → SqT K H' p [.str word, .non] → Q (.ref p) H')
def sp_fault (K : PySem.W.Frag) (L : List (Addr × Str × Option Str)) : Sp := fun vs H Q _ => ∃ (a : Addr) (cls : Value) (d : Option Addr), vs = [.ref a] ∧ H a = some (exI a cls d) ∧ fltW K L Q cls d H
def TTo (K : PySem.W.Frag) (L : List (Addr × Str × Option Str)) : (XK → Hp → VK → Prop) → Hp → VK → Prop := fun tl H Q => ∀ H0, Same H H0 → ∀ Q' : VK, (∀ v H1, (∀ p, H1 p = none → Q (.ref p) (upd H1 p (.lst [v]))) → Q' v H1) → tl (fltW K L Q) H0 Q'
theorem fltW.up {K : PySem.W.Frag} {L : List (Addr × Str × Option Str)} {Q : VK} {cls : Value} {d : Option Addr} {H H1 : Hp} (h : fltW K L Q cls d H) (s : Same H H1) : fltW K L Q cls d H1 := by
  obtain ⟨C, word, fo, e, m, k⟩ := h
  refine ⟨C, word, fo, e, m, ?_⟩
  cases fo with
  | some f =>
    obtain ⟨dd, w, e1, e2, k⟩ := k
    exact ⟨dd, w, e1, s _ _ e2, fun p H' s2 => k p H' (s.trans s2)⟩
  | none =>
    obtain ⟨e1, k⟩ := k
    exact ⟨e1, fun p H' s2 => k p H' (s.trans s2)⟩
def sp_lawT (T : Addr) (K : PySem.W.Frag) : Sp := fun vs H Q _ => ∃ (a : Addr) (ns : List Int), vs = [.ref a] ∧ H T = some (.tbl #[]) ∧ SqL K H a (ns.map V.int) ∧ ns.length ≤ 63 ∧ ∀ H', Q (.bl true) H'
theorem ExtN.tk {K : PySem.W.Frag} {H H' : Hp} (e : ExtN H H') : TK K H H' := fun a xs h => by
  rcases h with (h | ⟨o, h⟩) | h
  · exact .inl (.inl (e _ _ h fun ps z => by cases z))
  · exact .inl (.inr ⟨o, e _ _ h fun ps z => by cases z⟩)
  · exact .inr h
theorem MS.ext {m : Addr} {H H' : Hp} {n : Nat} (M : MS H m n) (e : ExtN H H') : MS H' m n := by
  obtain ⟨c, l, dk, ⟨cs, h1, h2⟩, ⟨ls, h3, h4, h5⟩, cl⟩ := M
  exact ⟨c, l, e _ _ dk (fun ps z => by cases z), ⟨cs, e _ _ h1 (fun ps z => by cases z), h2⟩, ⟨ls, e _ _ h3 (fun ps z => by cases z), h4, h5⟩, cl⟩
theorem ExtN.same {H H' : Hp} (s : Same H H') : ExtN H H' := ExtN.of s
theorem Tabs.ef {Ts : List (Addr × Str)} {m : Addr} {n : Nat} {H H' : Hp} (t : Tabs Ts H) (M : MS H m n) (e : Ef m H H') : Tabs Ts H' := fun p hp => by
  obtain ⟨c, l, M⟩ := M
  obtain ⟨ls, hl, _⟩ := M.ls
  obtain ⟨cs, hc, _⟩ := M.cs
  have go : ∀ (b : Addr) (u : HO), H b = some u → (∀ kvs, u ≠ .dK kvs) → (∀ ys, u ≠ .lst ys) → H' b = some u := fun b u hu h1 h2 => by
    refine e.keep b u hu (fun z => ?_) (fun z => ?_)
    · subst z
      rw [M.dk] at hu
      exact h1 _ (Option.some.inj hu).symm
    · rcases M.lf z with q | q
      · rw [q, hc] at hu
        exact h2 _ (Option.some.inj hu).symm
      · rw [q, hl] at hu
        exact h2 _ (Option.some.inj hu).symm
  obtain ⟨ps, h1, h2, h3⟩ := t p hp
  refine ⟨ps, go _ _ h1 (fun _ z => by cases z) (fun _ z => by cases z), h2, fun pos cv hv => ?_⟩
  obtain ⟨c0, e1, e2⟩ := h3 pos cv hv
  refine ⟨c0, e1, go _ _ e2 (fun _ z => ?_) (fun _ z => ?_)⟩
  · unfold CodeO at z
    cases z
  · unfold CodeO at z
    cases z
theorem tabs1 {P : Addr} {q : Str} {H : Hp} (h : H P = some (.tbl #[])) : Tabs [(P, q)] H := fun p hp => by
  rw [List.mem_singleton.mp hp]
  exact TabS.nil h
end My

/-! Things of many kinds whose texts are known; repr of any datum. -/
namespace L2
open PySem PySem.Spec PyProof.Rows
/-! ### repr of any datum -/
def rReprV (K : PySem.W.Frag) : List V → Hp → VK → Prop := fun xs H Q => ∃ x d, xs = [x] ∧ Dp K H x d ∧ (d.showable = true ∧ d.hasDict = false ∧ d.depth ≤ 8 ∧ d.shown.length ≤ sizeLine) ∧ Q (.str d.shown) H
theorem k_reprV {X : Cx} {K : PySem.W.Frag} (hu : X.A.units + 64 < cLine) (hg : X.A.guards = some []) (e : X.K = K := by rfl) : CallR X (.builtin "repr") (rReprV K) := by
  subst e
  intro pins s σ H xs us Q I r h
  obtain ⟨x, d, rfl, hd, ⟨h2, h3, h4, h5⟩, q⟩ := h
  cases d with
  | list ds => exact my_repr hu hg pins s σ H [x] us Q I r ⟨x, _, rfl, hd, ⟨rfl, h2, h3, h4, h5⟩, q⟩
  | tuple ds => exact my_repr hu hg pins s σ H [x] us Q I r ⟨x, _, rfl, hd, ⟨rfl, h2, h3, h4, h5⟩, q⟩
  | dict kvs => cases h3
  | int i =>
    cases hd
    obtain ⟨u, rfl, t, rfl⟩ := vals1 r
    exact PySem.P.repr_of_int (of_decide_eq_true h2) ⟨.str _, H, I.tok _, ⟨_, rfl⟩, q⟩
  | str z =>
    cases hd
    obtain ⟨u, rfl, t, rfl⟩ := vals1 r
    exact PySem.P.repr_of_str ⟨.str _, H, I.tok _, ⟨_, rfl⟩, q⟩ h5
  | bool b =>
    cases hd
    obtain ⟨u, rfl, ru⟩ := vals1 r
    cases ru
    refine PySem.P.repr_of_bool ?_
    cases b
    · exact ⟨.str _, H, I.tok _, ⟨_, rfl⟩, q⟩
    · exact ⟨.str _, H, I.tok _, ⟨_, rfl⟩, q⟩
  | none =>
    cases hd
    obtain ⟨u, rfl, ru⟩ := vals1 r
    cases ru
    exact PySem.P.repr_of_none ⟨.str _, H, I.tok _, ⟨_, rfl⟩, q⟩
/-! ### l != [] -/
def rNeL0 (K : PySem.W.Frag) : R2 := fun x y H Q => ∃ a b xs, x = .ref a ∧ y = .ref b ∧ SqL K H a xs ∧ SqL K H b [] ∧ Q (.bl (!xs.isEmpty)) H
theorem op_neL0 {X : Cx} {K : PySem.W.Frag} (hu : X.A.units + 64 < cLine) (ek : X.K = K := by rfl) : OpR X (compareOp .NotEq) (rNeL0 K) := by
  subst ek
  intro pins s σ H x y v u Q I rx ry h
  obtain ⟨a, b, xs, rfl, rfl, ha, hb, q⟩ := h
  cases rx
  cases ry
  obtain ⟨us, r1, p1, z1⟩ := I.list ha
  obtain ⟨ws, r2, p2, z2⟩ := I.list hb
  have t1 : s.heap.IsList a us.toArray := p1.isList
  have t2 : s.heap.IsList b ws.toArray := p2.isList
  have l1 := r1.length
  cases r2
  cases xs with
  | nil =>
    cases r1
    exact SeqAt.RcNeAt.lists (A := X.A) (e := fun _ => true) t1 t2 rfl (by omega) (fun j h1 _ => absurd h1 (by simp)) X.prog X.w _ _ ⟨.bl _, H, I, rfl, q⟩
  | cons x r =>
    cases r1
    exact SeqAt.RcNeAt.lists_lengths (A := X.A) t1 t2 rfl (by omega) X.prog X.w _ _ ⟨.bl _, H, I, rfl, q⟩
theorem room65 {k : Nat} {A : Around} (r : Room k A) : A.units + 65 < cLine := by
  have := r.un
  omega
theorem k_notInD {X : Cx} {K : PySem.W.Frag} (hu : X.A.units + 65 < cLine) (e : X.K = K := by rfl) : OpR X (compareOp .NotIn) (rNotInD K) := by
  subst e
  exact op_notInD hu
end L2
namespace My
open PySem PySem.Spec PyProof.Rows L2
/-! ### things of many kinds -/
inductive Th where
  | int (i : Int)
  | bl (b : Bool)
  | str (s : Str)
  | non
  | lst
  | dct
  | tup (ds : List Th)
def thTy : Th → String
  | .int _ => "int"
  | .bl _ => "bool"
  | .str _ => "str"
  | .non => "NoneType"
  | .lst => "list"
  | .dct => "dict"
  | .tup _ => "tuple"
mutual
inductive Rt (K : PySem.W.Frag) (H : Hp) : V → Th → Prop
  | int (i : Int) : Rt K H (.int i) (.int i)
  | bl (b : Bool) : Rt K H (.bl b) (.bl b)
  | str (s : Str) : Rt K H (.str s) (.str s)
  | non : Rt K H .non .non
  | lst {a : Addr} {xs : List V} (h : H a = some (.lst xs)) : Rt K H (.ref a) .lst
  | dct {a : Addr} {kvs : List (Key × V)} (h : H a = some (.dK kvs)) : Rt K H (.ref a) .dct
  | tup {a : Addr} {xs : List V} {ds : List Th} (h : SqT K H a xs) (hx : RtAll K H xs ds) : Rt K H (.ref a) (.tup ds)
inductive RtAll (K : PySem.W.Frag) (H : Hp) : List V → List Th → Prop
  | nil : RtAll K H [] []
  | cons {v : V} {vs : List V} {d : Th} {ds : List Th} (h : Rt K H v d) (r : RtAll K H vs ds) : RtAll K H (v :: vs) (d :: ds)
end
variable {K : PySem.W.Frag} {H H' : Hp}
mutual
theorem Rt.same (e : Same H H') : ∀ (d : Th) (v : V), Rt K H v d → Rt K H' v d
  | .int _, _, h => by cases h; exact .int _
  | .bl _, _, h => by cases h; exact .bl _
  | .str _, _, h => by cases h; exact .str _
  | .non, _, h => by cases h; exact .non
  | .lst, _, h => by
    cases h with
    | lst h => exact .lst (e _ _ h)
  | .dct, _, h => by
    cases h with
    | dct h => exact .dct (e _ _ h)
  | .tup ds, _, h => by
    cases h with
    | tup h hx => exact .tup (Same.tk e _ _ h) (RtAll.same e ds _ hx)
theorem RtAll.same (e : Same H H') : ∀ (ds : List Th) (vs : List V), RtAll K H vs ds → RtAll K H' vs ds
  | [], _, h => by cases h; exact .nil
  | d :: r, _, h => by
    cases h with
    | cons h1 h2 => exact .cons (Rt.same e d _ h1) (RtAll.same e r _ h2)
end
theorem Rt.at (e : Same H H') {v : V} {d : Th} (h : Rt K H v d) : Rt K H' v d := Rt.same e d v h
theorem RtAll.len : ∀ {vs : List V} {ds : List Th}, RtAll K H vs ds → vs.length = ds.length
  | _, _, .nil => rfl
  | _, _, .cons _ h => by simp [RtAll.len h]
theorem RtAll.get : ∀ {vs : List V} {ds : List Th} {i : Nat} {v : V}, RtAll K H vs ds → vs[i]? = some v → ∃ d, ds[i]? = some d ∧ Rt K H v d
  | _, _, _, _, .nil, h => by cases h
  | _, _, 0, _, .cons h1 _, h => by
    cases h
    exact ⟨_, rfl, h1⟩
  | _, _, i + 1, _, .cons _ h2, h => RtAll.get (i := i) h2 h
theorem RtAll.app : ∀ {vs us : List V} {ds es : List Th}, RtAll K H vs ds → RtAll K H us es → RtAll K H (vs ++ us) (ds ++ es)
  | _, _, _, _, .nil, h => h
  | _, _, _, _, .cons h1 h2, h => .cons h1 (RtAll.app h2 h)
theorem RtAll.drop : ∀ {vs : List V} {ds : List Th} (n : Nat), RtAll K H vs ds → RtAll K H (vs.drop n) (ds.drop n)
  | _, _, 0, h => h
  | _, _, _ + 1, .nil => .nil
  | _, _, n + 1, .cons _ h => RtAll.drop n h
theorem RtAll.take : ∀ {vs : List V} {ds : List Th} (n : Nat), RtAll K H vs ds → RtAll K H (vs.take n) (ds.take n)
  | _, _, 0, _ => .nil
  | _, _, _ + 1, .nil => .nil
  | _, _, n + 1, .cons h1 h => .cons h1 (RtAll.take n h)
theorem Rt.ty {v : V} {d : Th} (h : Rt K H v d) : TyX K H v (.type (thTy d)) := by
  cases h with
  | int i => exact .base (.int i)
  | bl b => exact .base (.bl b)
  | str x => exact .base (.str x)
  | non => exact .base .non
  | lst h => exact .base (.lst h)
  | dct h => exact .base (.dK h)
  | tup h _ => exact h.ty
theorem kit_th (t c : String) (b : Bool) (h : PySem.W.kitOne K (.type t) (.type c) = some b) : PySem.W.kitOne K (.type t) (.type c) = some b := h
def isInt : Th → Bool
  | .int _ => true
  | _ => false
theorem kit_tup : ∀ d : Th, PySem.W.kitOne K (.type (thTy d)) (.type "tuple") = some (match d with | .tup _ => true | _ => false)
  | .int _ => kit_ty (by show kitB "int" "tuple" = some false; decide +kernel)
  | .bl _ => kit_ty (by show kitB "bool" "tuple" = some false; decide +kernel)
  | .str _ => kit_ty (by show kitB "str" "tuple" = some false; decide +kernel)
  | .non => kit_ty (by show kitB "NoneType" "tuple" = some false; decide +kernel)
  | .lst => kit_ty (by show kitB "list" "tuple" = some false; decide +kernel)
  | .dct => kit_ty (by show kitB "dict" "tuple" = some false; decide +kernel)
  | .tup _ => kit_ty (by show kitB "tuple" "tuple" = some true; decide +kernel)
theorem kit_str : ∀ d : Th, PySem.W.kitOne K (.type (thTy d)) (.type "str") = some (match d with | .str _ => true | _ => false)
  | .int _ => kit_ty (by show kitB "int" "str" = some false; decide +kernel)
  | .bl _ => kit_ty (by show kitB "bool" "str" = some false; decide +kernel)
  | .str _ => kit_ty (by show kitB "str" "str" = some true; decide +kernel)
  | .non => kit_ty (by show kitB "NoneType" "str" = some false; decide +kernel)
  | .lst => kit_ty (by show kitB "list" "str" = some false; decide +kernel)
  | .dct => kit_ty (by show kitB "dict" "str" = some false; decide +kernel)
  | .tup _ => kit_ty (by show kitB "tuple" "str" = some false; decide +kernel)
theorem kit_int : ∀ d : Th, PySem.W.kitOne K (.type (thTy d)) (.type "int") = some (match d with | .int _ => true | .bl _ => true | _ => false)
  | .int _ => kit_ty (by show kitB "int" "int" = some true; decide +kernel)
  | .bl _ => kit_ty (by show kitB "bool" "int" = some true; decide +kernel)
  | .str _ => kit_ty (by show kitB "str" "int" = some false; decide +kernel)
  | .non => kit_ty (by show kitB "NoneType" "int" = some false; decide +kernel)
  | .lst => kit_ty (by show kitB "list" "int" = some false; decide +kernel)
  | .dct => kit_ty (by show kitB "dict" "int" = some false; decide +kernel)
  | .tup _ => kit_ty (by show kitB "tuple" "int" = some false; decide +kernel)
theorem kit_bool : ∀ d : Th, PySem.W.kitOne K (.type (thTy d)) (.type "bool") = some (match d with | .bl _ => true | _ => false)
  | .int _ => kit_ty (by show kitB "int" "bool" = some false; decide +kernel)
  | .bl _ => kit_ty (by show kitB "bool" "bool" = some true; decide +kernel)
  | .str _ => kit_ty (by show kitB "str" "bool" = some false; decide +kernel)
  | .non => kit_ty (by show kitB "NoneType" "bool" = some false; decide +kernel)
  | .lst => kit_ty (by show kitB "list" "bool" = some false; decide +kernel)
  | .dct => kit_ty (by show kitB "dict" "bool" = some false; decide +kernel)
  | .tup _ => kit_ty (by show kitB "tuple" "bool" = some false; decide +kernel)
theorem whole_th (d : Th) : ((match d with | .int _ => true | .bl _ => true | _ => false) && !(match d with | .bl _ => true | _ => false)) = isInt d := by
  cases d <;> rfl
theorem cutV_one (xs : List V) : cutV xs (some 1) none = xs.drop 1 := by
  unfold cutV
  rw [show (some (1 : Int)) = some ((1 : Nat) : Int) from rfl, HT.sIx_nat, HT.sIx_none]
  cases xs with
  | nil => rfl
  | cons x r =>
    rw [Nat.min_eq_left (by simp)]
    simp
theorem rd_cutTh {a : Addr} {xs : List V} {ds : List Th} {Q : VK} (hT : SqT K H a xs) (hX : RtAll K H xs ds)
    (k : ∀ w H', Same H H' → Rt K H' w (.tup (ds.drop 1)) → Q w H') : rSlA K (.ref a) (some 1) none H Q := by
  have hc : RtAll K H (cutV xs (some 1) none) (ds.drop 1) := by
    rw [cutV_one]
    exact hX.drop 1
  refine ⟨a, xs, rfl, hT, fun w => ?_, fun _ p hp => ?_⟩
  · refine k _ H (Same.refl H) (.tup hT ?_)
    have e : cutV xs (some 1) none = xs := by
      unfold cutV
      rw [w.1, w.2, List.drop_zero, Nat.sub_zero, List.take_length]
    rw [e] at hc
    exact hc
  · exact k _ _ (same_upd hp _) (.tup (SqT.of upd_same) (RtAll.same (same_upd hp _) _ _ hc))
theorem Rt.tuple {v : V} {ds : List Th} (h : Rt K H v (.tup ds)) : ∃ a xs, v = .ref a ∧ SqT K H a xs ∧ RtAll K H xs ds := by
  cases h with
  | tup h1 h2 => exact ⟨_, _, rfl, h1, h2⟩
end My

/-! Things of many kinds that are written out, and that last while numbers are drawn. -/
namespace My
open PySem PySem.Spec PyProof.Rows L2 LamX
mutual
/-- v is a thing d; its lists and dicts lie at allowed places -/
inductive Ro (K : PySem.W.Frag) (H : Hp) (ok : Addr → Prop) : V → Th → Prop
  | int (i : Int) : Ro K H ok (.int i) (.int i)
  | bl (b : Bool) : Ro K H ok (.bl b) (.bl b)
  | str (s : Str) : Ro K H ok (.str s) (.str s)
  | non : Ro K H ok .non .non
  | lst {a : Addr} {xs : List V} (h : H a = some (.lst xs)) (ho : ok a) : Ro K H ok (.ref a) .lst
  | dct {a : Addr} {kvs : List (Key × V)} (h : H a = some (.dK kvs)) (ho : ok a) : Ro K H ok (.ref a) .dct
  | tup {a : Addr} {xs : List V} {ds : List Th} (h : SqT K H a xs) (hx : RoAll K H ok xs ds) : Ro K H ok (.ref a) (.tup ds)
inductive RoAll (K : PySem.W.Frag) (H : Hp) (ok : Addr → Prop) : List V → List Th → Prop
  | nil : RoAll K H ok [] []
  | cons {v : V} {vs : List V} {d : Th} {ds : List Th} (h : Ro K H ok v d) (r : RoAll K H ok vs ds) : RoAll K H ok (v :: vs) (d :: ds)
end
section
variable {K : PySem.W.Frag} {H H' : Hp} {ok ok' : Addr → Prop}
mutual
theorem Ro.keep (tk : TK K H H') (kp : ∀ a o, ok a → (∀ ps, o ≠ .tbl ps) → H a = some o → H' a = some o) (oo : ∀ a o, H a = some o → (∀ ps, o ≠ .tbl ps) → ok a → ok' a) : ∀ (d : Th) (v : V), Ro K H ok v d → Ro K H' ok' v d
  | .int i, _, h => by cases h; exact .int i
  | .bl _, _, h => by cases h; exact .bl _
  | .str _, _, h => by cases h; exact .str _
  | .non, _, h => by cases h; exact .non
  | .lst, _, h => by
    cases h with
    | lst h ho => exact .lst (kp _ _ ho (fun _ z => by cases z) h) (oo _ _ h (fun _ z => by cases z) ho)
  | .dct, _, h => by
    cases h with
    | dct h ho => exact .dct (kp _ _ ho (fun _ z => by cases z) h) (oo _ _ h (fun _ z => by cases z) ho)
  | .tup ds, _, h => by
    cases h with
    | tup h hx => exact .tup (tk _ _ h) (RoAll.keep tk kp oo ds _ hx)
theorem RoAll.keep (tk : TK K H H') (kp : ∀ a o, ok a → (∀ ps, o ≠ .tbl ps) → H a = some o → H' a = some o) (oo : ∀ a o, H a = some o → (∀ ps, o ≠ .tbl ps) → ok a → ok' a) : ∀ (ds : List Th) (vs : List V), RoAll K H ok vs ds → RoAll K H' ok' vs ds
  | [], _, h => by cases h; exact .nil
  | d :: r, _, h => by
    cases h with
    | cons h1 h2 => exact .cons (Ro.keep tk kp oo d _ h1) (RoAll.keep tk kp oo r _ h2)
end
theorem Ro.same {v : V} {d : Th} (h : Ro K H ok v d) (s : Same H H') : Ro K H' ok v d := Ro.keep (Same.tk s) (fun a o _ _ q => s a o q) (fun _ _ _ _ q => q) d v h
theorem RoAll.same {vs : List V} {ds : List Th} (h : RoAll K H ok vs ds) (s : Same H H') : RoAll K H' ok vs ds := RoAll.keep (Same.tk s) (fun a o _ _ q => s a o q) (fun _ _ _ _ q => q) ds vs h
mutual
theorem Ro.rt : ∀ (d : Th) (v : V), Ro K H ok v d → Rt K H v d
  | .int i, _, h => by cases h; exact .int i
  | .bl _, _, h => by cases h; exact .bl _
  | .str _, _, h => by cases h; exact .str _
  | .non, _, h => by cases h; exact .non
  | .lst, _, h => by
    cases h with
    | lst h _ => exact .lst h
  | .dct, _, h => by
    cases h with
    | dct h _ => exact .dct h
  | .tup ds, _, h => by
    cases h with
    | tup h hx => exact .tup h (RoAll.rt ds _ hx)
theorem RoAll.rt : ∀ (ds : List Th) (vs : List V), RoAll K H ok vs ds → RtAll K H vs ds
  | [], _, h => by cases h; exact .nil
  | d :: r, _, h => by
    cases h with
    | cons h1 h2 => exact .cons (Ro.rt d _ h1) (RoAll.rt r _ h2)
end
theorem RoAll.len : ∀ {vs : List V} {ds : List Th}, RoAll K H ok vs ds → vs.length = ds.length
  | _, _, .nil => rfl
  | _, _, .cons _ h => by simp [RoAll.len h]
theorem RoAll.get : ∀ {vs : List V} {ds : List Th} {i : Nat} {v : V}, RoAll K H ok vs ds → vs[i]? = some v → ∃ d, ds[i]? = some d ∧ Ro K H ok v d
  | _, _, _, _, .nil, h => by cases h
  | _, _, 0, _, .cons h1 _, h => by
    cases h
    exact ⟨_, rfl, h1⟩
  | _, _, i + 1, _, .cons _ h2, h => RoAll.get (i := i) h2 h
theorem RoAll.app : ∀ {vs us : List V} {ds es : List Th}, RoAll K H ok vs ds → RoAll K H ok us es → RoAll K H ok (vs ++ us) (ds ++ es)
  | _, _, _, _, .nil, h => h
  | _, _, _, _, .cons h1 h2, h => .cons h1 (RoAll.app h2 h)
theorem Ro.tuple {v : V} {ds : List Th} (h : Ro K H ok v (.tup ds)) : ∃ a xs, v = .ref a ∧ SqT K H a xs ∧ RoAll K H ok xs ds := by
  cases h with
  | tup h1 h2 => exact ⟨_, _, rfl, h1, h2⟩
end
/-- not among the state of the draws -/
def offM (H : Hp) (m a : Addr) : Prop := a ≠ m ∧ ¬ Lf H m a
section
variable {K : PySem.W.Frag} {B H H' : Hp} {m : Addr} {n : Nat} {v : V} {d : Th}
theorem Ro.ef (h : Ro K H (offM H m) v d) (M : MS H m n) (e : Ef m H H') : Ro K H' (offM H' m) v d := by
  refine Ro.keep (e.tk M) (fun a o q _ z => e.keep a o z q.1 q.2) (fun a o z _ q => ⟨q.1, fun w => ?_⟩) d v h
  rcases e.new a w with r | r
  · exact q.2 r
  · rw [z] at r
    cases r
theorem Ro.sm (h : Ro K H (offM H m) v d) (M : MS H m n) (s : Same H H') : Ro K H' (offM H' m) v d :=
  Ro.keep (Same.tk s) (fun a o _ _ z => s a o z) (fun a o z _ q => ⟨q.1, noLf_same M s q.2⟩) d v h
theorem Ro.ex (h : Ro K H (offM H m) v d) (M : MS H m n) (e : ExtN H H') : Ro K H' (offM H' m) v d := by
  refine Ro.keep (ExtN.tk e) (fun a o _ nt z => e a o z nt) (fun a o z _ q => ⟨q.1, fun w => q.2 ?_⟩) d v h
  obtain ⟨c, l, M⟩ := M
  obtain ⟨kvs, kk, h1, h2⟩ := w
  rw [e _ _ M.dk (fun ps z => by cases z)] at h1
  cases h1
  exact ⟨_, kk, M.dk, h2⟩
/-- what is new behind B is none of the draws' -/
theorem Ro.off {h0 : Ro K H (fun a => B a = none) v d} (M : MS B m n) (s : Same B H) : Ro K H (offM H m) v d := by
  refine Ro.keep TK.refl (fun a o _ _ z => z) (fun a o z _ q => ⟨fun w => ?_, fun w => ?_⟩) d v h0
  · exact M.mne q w.symm
  · exact noLf_same M s (M.notLf q) w
theorem RoAll.ef {vs : List V} {ds : List Th} (h : RoAll K H (offM H m) vs ds) (M : MS H m n) (e : Ef m H H') : RoAll K H' (offM H' m) vs ds := by
  refine RoAll.keep (e.tk M) (fun a o q _ z => e.keep a o z q.1 q.2) (fun a o z _ q => ⟨q.1, fun w => ?_⟩) ds vs h
  rcases e.new a w with r | r
  · exact q.2 r
  · rw [z] at r
    cases r
theorem RoAll.sm {vs : List V} {ds : List Th} (h : RoAll K H (offM H m) vs ds) (M : MS H m n) (s : Same H H') : RoAll K H' (offM H' m) vs ds :=
  RoAll.keep (Same.tk s) (fun a o _ _ z => s a o z) (fun a o z _ q => ⟨q.1, noLf_same M s q.2⟩) ds vs h
theorem RoAll.ex {vs : List V} {ds : List Th} (h : RoAll K H (offM H m) vs ds) (M : MS H m n) (e : ExtN H H') : RoAll K H' (offM H' m) vs ds := by
  refine RoAll.keep (ExtN.tk e) (fun a o _ nt z => e a o z nt) (fun a o z _ q => ⟨q.1, fun w => q.2 ?_⟩) ds vs h
  obtain ⟨c, l, M⟩ := M
  obtain ⟨kvs, kk, h1, h2⟩ := w
  rw [e _ _ M.dk (fun ps z => by cases z)] at h1
  cases h1
  exact ⟨_, kk, M.dk, h2⟩
theorem RoAll.off {vs : List V} {ds : List Th} (h0 : RoAll K H (fun a => B a = none) vs ds) (M : MS B m n) (s : Same B H) : RoAll K H (offM H m) vs ds := by
  refine RoAll.keep TK.refl (fun a o _ _ z => z) (fun a o z _ q => ⟨fun w => ?_, fun w => ?_⟩) ds vs h0
  · exact M.mne q w.symm
  · exact noLf_same M s (M.notLf q) w
/-- a list that is not among the state of the draws -/
theorem lst_ef {p : Addr} {xs : List V} (h : H p = some (.lst xs)) (M : MS H m n) (q : offM H m p) (e : Ef m H H') : H' p = some (.lst xs) ∧ offM H' m p := by
  obtain ⟨a, b⟩ := e.lst M h q.2
  exact ⟨a, q.1, b⟩
theorem off_ex {p : Addr} (M : MS H m n) (q : offM H m p) (e : ExtN H H') : offM H' m p := ⟨q.1, fun w => q.2 (by
  obtain ⟨c, l, M⟩ := M
  obtain ⟨kvs, kk, h1, h2⟩ := w
  rw [e _ _ M.dk (fun ps z => by cases z)] at h1
  cases h1
  exact ⟨_, kk, M.dk, h2⟩)⟩
theorem off_sm {p : Addr} (M : MS H m n) (q : offM H m p) (s : Same H H') : offM H' m p := ⟨q.1, noLf_same M s q.2⟩
theorem off_free {p : Addr} (M : MS B m n) (s : Same B H) (hp : B p = none) : offM H m p := ⟨(M.mne hp).symm, noLf_same M s (M.notLf hp)⟩
theorem pickRo {vs : List V} {ds : List Th} {ok : Addr → Prop} {r : Int} (h : RoAll K H ok vs ds) (h0 : 0 ≤ r) (h1 : r < ((ds.length : Nat) : Int)) : ∃ x e, atI vs r = some x ∧ e ∈ ds ∧ Ro K H ok x e := by
  have hl := h.len
  have hr : r.toNat < vs.length := by omega
  obtain ⟨e, he, hR⟩ := h.get (List.getElem?_eq_getElem hr)
  exact ⟨_, e, at_of (j := r.toNat) (by omega) (List.getElem?_eq_getElem hr), List.mem_of_getElem? he, hR⟩
end
/-! ### written things -/
/-- te makes a thing d; B: the heap ahead of it -/
def Mk (K : PySem.W.Frag) (B : Hp) (te : TE) (σ : L2.St) (d : Th) : Prop := ∀ (H : Hp) (Q : VK), Same B H → (∀ v H', Same H H' → Ro K H' (fun a => B a = none) v d → Q v H') → te σ H Q
def MkL (K : PySem.W.Frag) (B : Hp) (t : TA) (σ : L2.St) (ds : List Th) : Prop := ∀ (H : Hp) (Q : List V → Hp → Prop), Same B H → (∀ vs H', Same H H' → RoAll K H' (fun a => B a = none) vs ds → Q vs H') → t σ H Q
section
variable {K : PySem.W.Frag} {B : Hp} {σ : L2.St} {te : TE} {t : TA} {d : Th} {ds : List Th}
theorem mk_int (i : Int) : Mk K B (tC (.int i)) σ (.int i) := fun H Q _ k => k _ H (Same.refl H) (.int i)
theorem mk_neg (i : Int) : Mk K B (tUn (rU fun i => .int (-i)) (tC (.int i))) σ (.int (-i)) := fun H Q _ k => ⟨i, rfl, k _ H (Same.refl H) (.int (-i))⟩
theorem mk_val {i : Int} (h : ∀ H Q, Q (.int i) H → te σ H Q) : Mk K B te σ (.int i) := fun H Q _ k => h H Q (k _ H (Same.refl H) (.int i))
theorem mk_str (s : Str) : Mk K B (tC (.str s)) σ (.str s) := fun H Q _ k => k _ H (Same.refl H) (.str s)
theorem mk_bl (b : Bool) : Mk K B (tC (.bl b)) σ (.bl b) := fun H Q _ k => k _ H (Same.refl H) (.bl b)
theorem mk_non : Mk K B (tC .non) σ .non := fun H Q _ k => k _ H (Same.refl H) .non
theorem mk_var {i : Nat} {z : Int} (h : σ[i]? = some (some (.int z))) : Mk K B (tVar i) σ (.int z) := fun H Q _ k => ⟨_, h, k _ H (Same.refl H) (.int z)⟩
theorem mkl_nil : MkL K B tNil σ [] := fun H Q _ k => k _ H (Same.refl H) .nil
theorem mkl_cons (h : Mk K B te σ d) (r : MkL K B t σ ds) : MkL K B (tCons te t) σ (d :: ds) := fun H Q b k => h H _ b fun v H1 s1 hv => r H1 _ (b.trans s1) fun vs H2 s2 hvs => k _ H2 (s1.trans s2) (.cons (hv.same s2) hvs)
theorem mk_tup (h : MkL K B t σ ds) (hz : ds.length ≤ 1000) : Mk K B (tTup t) σ (.tup ds) := fun H Q b k => h H _ b fun vs H1 s1 hvs => ⟨by rw [hvs.len]; exact Nat.le_of_lt (small1000 hz), fun p hp => k _ _ (s1.trans (same_upd hp _)) (.tup (SqT.of upd_same) (hvs.same (same_upd hp _)))⟩
theorem mk_lst (h : MkL K B t σ ds) (hz : ds.length ≤ 1000) : Mk K B (tLst t) σ .lst := fun H Q b k => h H _ b fun vs H1 s1 hvs => ⟨by rw [hvs.len]; exact Nat.le_of_lt (small1000 hz), fun p hp => k _ _ (s1.trans (same_upd hp _)) (.lst upd_same ((b.trans s1).free hp))⟩
theorem mk_dct : Mk K B tDNewK σ .dct := fun H Q b k p hp => k _ _ (same_upd hp _) (.dct upd_same (b.free hp))
/-- a list of such things -/
theorem mk_row (h : MkL K B t σ ds) (hz : ds.length ≤ 1000) {H : Hp} {Q : VK} (b : Same B H) (k : ∀ p vs H', Same H H' → H' p = some (.lst vs) → B p = none → RoAll K H' (fun a => B a = none) vs ds → Q (.ref p) H') : tLst t σ H Q :=
  h H _ b fun vs H1 s1 hvs => ⟨by rw [hvs.len]; exact Nat.le_of_lt (small1000 hz), fun p hp => k _ vs _ (s1.trans (same_upd hp _)) upd_same ((b.trans s1).free hp) (hvs.same (same_upd hp _))⟩
variable {g : TG} {u : TS} {D : Ends} {H : Hp}
theorem seq_row (h : MkL K H t σ ds) (hz : ds.length ≤ 1000) (k : ∀ p vs H', Same H H' → H' p = some (.lst vs) → H p = none → RoAll K H' (fun a => H a = none) vs ds → g (.ref p) σ H' (u D)) : tSeq (tAsg (tLst t) g) u D σ H :=
  mk_row (Q := fun x H' => g x σ H' (u D)) h hz (Same.refl H) k
theorem seq_more {i : Nat} {p : Addr} {vs : List V} {es : List Th} (hi : σ[i]? = some (some (.ref p))) (hp : H p = some (.lst vs)) (R : RoAll K H (fun a => B a = none) vs es) (b : Same B H) (h : MkL K B t σ ds) (hz : es.length + ds.length ≤ 1000)
    (k : ∀ p vs H', Same H H' → H' p = some (.lst vs) → B p = none → RoAll K H' (fun a => B a = none) vs (es ++ ds) → g (.ref p) σ H' (u D)) : tSeq (tAsg (tOp rCat (tVar i) (tLst t)) g) u D σ H := by
  refine ⟨_, hi, mk_row (Q := fun y H2 => rCat (.ref p) y H2 fun x H' => g x σ H' (u D)) h (by omega) b fun q us G s hq fq S => ?_⟩
  have l1 := R.len
  have l2 := S.len
  refine ⟨p, q, _, _, rfl, rfl, s _ _ hp, hq, by rw [l1, l2]; exact Nat.le_of_lt (small1000 hz), fun p' fp => ?_⟩
  have y := same_upd fp (.lst (vs ++ us))
  exact k p' _ _ (s.trans y) upd_same ((b.trans s).free fp) ((R.same (s.trans y)).app (S.same y))
/-- name = [..][next(m, many)] -/
theorem seq_pick {m : Addr} {n : Nat} {many : Int} (hm : σ[1]? = some (some (.ref m))) (h : MkL K H t σ ds) (hz : ds.length ≤ 1000) (hl : many = ((ds.length : Nat) : Int)) (h1 : 1 ≤ ds.length) (M : MS H m n) (hn : n < 2 ^ 40)
    (k : ∀ x d H' n', d ∈ ds → Ro K H' (offM H' m) x d → MS H' m n' → n' ≤ n + 1 → Ef m H H' → g x σ H' (u D)) : tSeq (tAsg (tOp (rIxL K) (tLst t) (tCall (sp__law_next K) [] E0 (tCons (tVar 1) (tCons (tC (.int many)) tNil)))) g) u D σ H := by
  refine mk_row (Q := fun x H1 => tCall (sp__law_next K) [] E0 (tCons (tVar 1) (tCons (tC (.int many)) tNil)) σ H1 fun y H2 => rIxL K x y H2 fun x H1 => g x σ H1 (u D)) h hz (Same.refl H) fun p vs H1 s1 hp fp R => ?_
  have M1 := M.same s1
  refine ⟨_, hm, m, many, n, rfl, M1, by omega, by rw [hl]; exact Int.le_trans (Int.ofNat_le.mpr hz) (by decide), hn, fun r n' H2 r0 r1 hn' M2 e2 => ?_⟩
  obtain ⟨hp2, _⟩ := lst_ef hp M1 (off_free M s1 fp) e2
  obtain ⟨x, d, hx, hd, rx⟩ := pickRo ((R.off M s1).ef M1 e2) r0 (by rw [← hl]; exact r1)
  exact ⟨p, vs, r, x, rfl, rfl, SqL.of hp2, hx, k x d H2 n' hd rx M2 hn' ((Ef.ofSame M s1).trans e2)⟩
end
end My

/-! Data as things of many kinds. -/
namespace My
open PySem PySem.Spec PyProof.Rows L2 LamX
def thD : PyData → Th
  | .int i => .int i
  | .bool b => .bl b
  | .str s => .str s
  | .none => .non
  | .list _ => .lst
  | .dict _ => .dct
  | .tuple ds => .tup (go ds)
where go : List PyData → List Th
  | [] => []
  | d :: r => thD d :: go r
theorem thD_go : ∀ ds : List PyData, thD.go ds = ds.map thD
  | [] => rfl
  | d :: r => by
    show thD d :: thD.go r = _
    rw [thD_go r]
    rfl
theorem thD_tup (ds : List PyData) : thD (.tuple ds) = .tup (ds.map thD) := by
  show Th.tup (thD.go ds) = _
  rw [thD_go]
section
variable {K : PySem.W.Frag} {H : Hp} {ok : Addr → Prop}
mutual
theorem Dp.ro : ∀ (d : PyData) (v : V), tupOnly d = true → Dp K H v d → Ro K H ok v (thD d)
  | .none, _, _, h => by cases h; exact .non
  | .bool b, _, _, h => by cases h; exact .bl b
  | .int i, _, _, h => by cases h; exact .int i
  | .str x, _, _, h => by cases h; exact .str x
  | .list _, _, t, _ => by cases t
  | .dict _, _, t, _ => by cases t
  | .tuple ds, _, t, h => by
    cases h with
    | tup hs ha => exact .tup hs (DpAll.ro ds _ t ha)
theorem DpAll.ro : ∀ (ds : List PyData) (vs : List V), tupOnly.go ds = true → DpAll K H vs ds → RoAll K H ok vs (thD.go ds)
  | [], _, _, h => by cases h; exact .nil
  | d :: r, _, t, h => by
    cases h with
    | cons h1 h2 =>
      have t' := Bool.and_eq_true_iff.mp t
      exact .cons (Dp.ro d _ t'.1 h1) (DpAll.ro r _ t'.2 h2)
end
theorem Dp.rtD {d : PyData} {v : V} (t : tupOnly d = true) (h : Dp K H v d) : Rt K H v (thD d) := Ro.rt _ _ (Dp.ro (ok := fun _ => True) d v t h)
end
section
variable {K : PySem.W.Frag} {B : Hp} {σ : L2.St} {te : TE} {d : PyData}
theorem mk_dp (t : tupOnly d = true) (h : ∀ H Q, Same B H → (∀ v H', Same H H' → Dp K H' v d → Q v H') → te σ H Q) : Mk K B te σ (thD d) := fun H Q b k =>
  h H Q b fun v H' s hv => k v H' s (Dp.ro d v t hv)
/-- the elements of a tuple as a list -/
theorem mk_listof {i : Nat} {v : V} {ds : List PyData} (hi : σ[i]? = some (some v)) (hv : Dp K B v (.tuple ds)) : Mk K B (tCB (Evl.rListS K) (tCons (tVar i) tNil)) σ .lst := fun H Q b k => by
  obtain ⟨a, xs, rfl, hT, _⟩ := (hv.same_at b).tuple
  exact ⟨_, hi, a, xs, rfl, .inr hT, fun l hl => k _ _ (same_upd hl _) (.lst upd_same (b.free hl))⟩
end
theorem th_rep (d : PyData) (n : Nat) : thD (.tuple (List.replicate n d)) = .tup (List.replicate n (thD d)) := by
  rw [thD_tup, List.map_replicate]
theorem to_rep {d : PyData} (h : tupOnly d = true) : ∀ n : Nat, tupOnly.go (List.replicate n d) = true
  | 0 => rfl
  | n + 1 => by
    rw [List.replicate_succ]
    show (tupOnly d && tupOnly.go (List.replicate n d)) = true
    rw [h, to_rep h n]
    rfl
theorem to_app : ∀ {ds es : List PyData}, tupOnly.go ds = true → tupOnly.go es = true → tupOnly.go (ds ++ es) = true
  | [], _, _, h => h
  | d :: r, es, h1, h2 => by
    have t' := Bool.and_eq_true_iff.mp h1
    show (tupOnly d && tupOnly.go (r ++ es)) = true
    rw [t'.1, to_app t'.2 h2]
    rfl
theorem min_of (b z : Int) (h : 0 ≤ z) (hb : 0 ≤ b) : 0 ≤ (if b < z then b else z) ∧ (if b < z then b else z) ≤ b := by
  split <;> omega
end My

namespace My
open PySem PySem.Spec PyProof.Rows L2
/-- x is not True -/
def rNotB : R2 := fun x y H Q => ∃ a b, x = .bl a ∧ y = .bl b ∧ Q (.bl (!decide (a = b))) H
theorem op_isNotB {X : Cx} : OpR X (compareOp .IsNot) rNotB := by
  intro pins s σ H x y v u Q I rx ry h
  obtain ⟨m, n, rfl, rfl, q⟩ := h
  cases (show v = Value.bool m from rx)
  cases (show u = Value.bool n from ry)
  by_cases e : m = n
  · subst e
    exact wpAny_isNot_self rfl ⟨.bl false, H, I, rfl, by simpa using q⟩
  · exact wpAny_isNot_other rfl (fun z => e (Value.bool.inj z)) ⟨.bl true, H, I, rfl, by simpa [e] using q⟩
mutual
theorem eqv_self : ∀ d : PyData, tupOnly d = true → PyData.eqv d d = true
  | .none, _ => rfl
  | .bool a, _ => by show (a == a) = true; simp
  | .int a, _ => by show (a == a) = true; simp
  | .str a, _ => by show (a == a) = true; simp
  | .tuple xs, h => by
    rw [PyData.eqv]
    exact eqv_selfs xs h
  | .list xs, h => by cases h
  | .dict xs, h => by cases h
theorem eqv_selfs : ∀ ds : List PyData, tupOnly.go ds = true → PyData.eqvAll ds ds = true
  | [], _ => by rw [PyData.eqvAll]
  | d :: r, h => by
    have h' := Bool.and_eq_true_iff.mp h
    rw [PyData.eqvAll, eqv_self d h'.1, eqv_selfs r h'.2]
    rfl
end
/-! ### pedals that nobody can tell apart -/
def flatT (t : Tr) : Prop := t.md.holds = true ∧ lenT t = 1
instance (t : Tr) : Decidable (flatT t) := inferInstanceAs (Decidable (_ ∧ _))
def plT (t : Tr) : Tr := if flatT t then { t with pt := 0, way := 1, pace := 2 } else t
def Tr.as (t : Tr) (a b c : Int) : Tr := { t with pt := a, way := b, pace := c }
theorem plT_as (t : Tr) (h : flatT t) (a b c : Int) : plT (t.as a b c) = plT t := by
  unfold plT
  rw [if_pos h, if_pos (show flatT (t.as a b c) from h)]
  rfl
theorem tw_cases {t u : Tr} (h : plT t = plT u) : t = u ∨ (flatT t ∧ ∃ a b c, u = t.as a b c) := by
  unfold plT at h
  by_cases h1 : flatT t
  · rw [if_pos h1] at h
    by_cases h2 : flatT u
    · rw [if_pos h2] at h
      refine .inr ⟨h1, u.pt, u.way, u.pace, ?_⟩
      obtain ⟨md, lay, und, pt, way, pace, sign, mu⟩ := t
      obtain ⟨md', lay', und', pt', way', pace', sign', mu'⟩ := u
      cases h
      rfl
    · rw [if_neg h2] at h
      refine absurd ?_ h2
      rw [← h]
      exact h1
  · rw [if_neg h1] at h
    by_cases h2 : flatT u
    · rw [if_pos h2] at h
      refine absurd ?_ h1
      rw [h]
      exact h2
    · rw [if_neg h2] at h
      exact .inl h
theorem flat_of {t u : Tr} (h : flatT t) (h1 : u.md.holds = true) (h2 : lenT u = lenT t) : flatT u := ⟨h1, h2.trans h.2⟩
theorem len_app {l m : List (List Int)} (h : l ≠ []) : ((l ++ m).headD []).length = (l.headD []).length := by
  cases l with
  | nil => exact absurd rfl h
  | cons a r => rfl
theorem len_drop {l : List (List Int)} (h : ¬ l.length < 2) : (l.dropLast.headD []).length = (l.headD []).length := by
  match l, h with
  | [], h => simp at h
  | [a], h => simp at h
  | a :: b :: r, _ => rfl
theorem tw_same {t' : Tr} (f : flatT t') (a b c : Int) : plT t' = plT (t'.as a b c) := (plT_as t' f a b c).symm
/-- a press keeps twins -/
theorem OkT.hdH {t : Tr} (h : OkT t) (e : t.md.holds = true) : ∃ n, OkH t n := by
  cases h with
  | e => cases e
  | r c h => cases e
  | h t n h => exact ⟨n, h⟩
theorem tw_press {t u : Tr} (p : Pr) (ok : OkT t) (h : plT t = plT u) : plT (pressT p t) = plT (pressT p u) := by
  rcases tw_cases h with e | ⟨f, a, b, c, e⟩
  · rw [e]
  obtain ⟨n, oh⟩ := ok.hdH f.1
  have hne := oh.ne
  have hl := oh.lay_ne
  obtain ⟨md, lay, und, pt, way, pace, sign, mu⟩ := t
  subst e
  have hm := f.1
  have f2 : (lay.headD []).length = 1 := f.2
  dsimp only at hm hne hl
  have nE : md ≠ .empty := fun z => by rw [z] at hm; cases hm
  cases p with
  | p k x =>
    show plT (if md.holds then _ else _) = plT (if md.holds then _ else _)
    rw [if_pos hm, if_pos hm]
    exact tw_same (t' := ⟨md, lay, und, pt, way, x, sign, mu⟩) ⟨hm, f2⟩ a b x
  | d w k =>
    cases w with
    | clear => rfl
    | turn =>
      show plT (if md.holds then _ else _) = plT (if md.holds then _ else _)
      rw [if_pos hm, if_pos hm]
      exact tw_same (t' := ⟨md, lay, und, pt, -way, pace, sign, mu⟩) ⟨hm, f2⟩ a (-b) c
    | flip =>
      show plT (if md.holds then _ else _) = plT (if md.holds then _ else _)
      rw [if_pos hm, if_pos hm]
      exact tw_same (t' := ⟨md, lay, und, pt, way, pace, -sign, mu⟩) ⟨hm, f2⟩ a b c
    | mute =>
      show plT (if md.holds then _ else _) = plT (if md.holds then _ else _)
      rw [if_pos hm, if_pos hm]
      exact tw_same (t' := ⟨md, lay, und, pt, way, pace, sign, !mu⟩) ⟨hm, f2⟩ a b c
    | stop =>
      have ng : ¬ (md = .empty ∨ lay = [[]]) := fun z => z.elim nE hl
      show plT (if md = .empty ∨ lay = [[]] then _ else _) = plT (if md = .empty ∨ lay = [[]] then _ else _)
      rw [if_neg ng, if_neg ng]
      exact tw_same (t' := ⟨.stop, lay, und, 0, way, pace, sign, mu⟩) ⟨rfl, f2⟩ 0 b c
    | undo =>
      show plT (if lay.length < 2 then _ else _) = plT (if lay.length < 2 then _ else _)
      by_cases q : lay.length < 2
      · rw [if_pos q, if_pos q]
        exact tw_same (t' := ⟨md, lay, und, pt, way, pace, sign, mu⟩) ⟨hm, f2⟩ a b c
      · rw [if_neg q, if_neg q]
        refine tw_same (t' := ⟨if md = .dub then .play else md, lay.dropLast, und ++ [lay.getLastD []], pt, way, pace, sign, mu⟩) ⟨?_, (len_drop q).trans f2⟩ a b c
        show (if md = .dub then Md.play else md).holds = true
        split
        · rfl
        · exact hm
    | redo =>
      show plT (if und = [] then _ else _) = plT (if und = [] then _ else _)
      by_cases q : und = []
      · rw [if_pos q, if_pos q]
        exact tw_same (t' := ⟨md, lay, und, pt, way, pace, sign, mu⟩) ⟨hm, f2⟩ a b c
      · rw [if_neg q, if_neg q]
        exact tw_same (t' := ⟨md, lay ++ [und.getLastD []], und.dropLast, pt, way, pace, sign, mu⟩) ⟨hm, (len_app hne).trans f2⟩ a b c
    | join =>
      show plT (if md = .dub ∨ lay.length < 2 then _ else _) = plT (if md = .dub ∨ lay.length < 2 then _ else _)
      by_cases q : md = .dub ∨ lay.length < 2
      · rw [if_pos q, if_pos q]
        exact tw_same (t' := ⟨md, lay, und, pt, way, pace, sign, mu⟩) ⟨hm, f2⟩ a b c
      · rw [if_neg q, if_neg q]
        refine tw_same (t' := ⟨md, [joinL lay], [], pt, way, pace, sign, mu⟩) ⟨hm, ?_⟩ a b c
        show (joinL lay).length = 1
        unfold joinL
        rw [List.length_map, List.length_range]
        exact f2
    | tap =>
      cases md with
      | empty => cases hm
      | record => cases hm
      | stop => exact tw_same (t' := ⟨.play, lay, und, pt, way, pace, sign, mu⟩) ⟨rfl, f2⟩ a b c
      | dub => exact tw_same (t' := ⟨.play, lay, und, pt, way, pace, sign, mu⟩) ⟨rfl, f2⟩ a b c
      | play =>
        show plT (if lay.length = 4 then _ else _) = plT (if lay.length = 4 then _ else _)
        by_cases q : lay.length = 4
        · rw [if_pos q, if_pos q]
          exact tw_same (t' := ⟨.play, lay, und, pt, way, pace, sign, mu⟩) ⟨hm, f2⟩ a b c
        · rw [if_neg q, if_neg q]
          exact tw_same (t' := ⟨.dub, lay ++ [List.replicate (lay.headD []).length 0], [], pt, way, pace, sign, mu⟩) ⟨rfl, (len_app hne).trans f2⟩ a b c
/-- the point of a track with one cell -/
theorem flat_pt {t : Tr} (ok : OkT t) (f : flatT t) : t.pt.toNat / 2 = 0 := by
  obtain ⟨n, oh⟩ := ok.hdH f.1
  have e := oh.len
  rw [f.2] at e
  subst e
  have := oh.p0
  have := oh.p1
  omega
theorem tw_snd {t u : Tr} (ok : OkT t) (ok2 : OkT u) (h : plT t = plT u) : (if t.mu then 0 else t.sign * sndT t) = if u.mu then 0 else u.sign * sndT u := by
  rcases tw_cases h with e | ⟨f, a, b, c, e⟩
  · rw [e]
  have e1 := flat_pt ok f
  have e2 := flat_pt ok2 (t := u) (by rw [e]; exact f)
  have es : sndT t = sndT u := by
    unfold sndT
    rw [e1, e2, e]
    rfl
  rw [es, e]
  rfl
theorem tw_go {t u : Tr} (s : Int) (ok : OkT t) (ok2 : OkT u) (h : plT t = plT u) : plT (goT t s) = plT (goT u s) := by
  rcases tw_cases h with e | ⟨f, a, b, c, e⟩
  · rw [e]
  have e1 := flat_pt ok f
  have e2 := flat_pt ok2 (t := u) (by rw [e]; exact f)
  obtain ⟨n, oh⟩ := ok.hdH f.1
  have hne := oh.ne
  have hdb := oh.db
  obtain ⟨md, lay, und, pt, way, pace, sign, mu⟩ := t
  subst e
  have hm := f.1
  have f2 : (lay.headD []).length = 1 := f.2
  dsimp only [Tr.as] at hm hne e1 e2 hdb
  cases md with
  | empty => cases hm
  | record => cases hm
  | stop => exact tw_same (t' := ⟨.stop, lay, und, pt, way, pace, sign, mu⟩) ⟨hm, f2⟩ a b c
  | play => exact tw_same (t' := ⟨.play, lay, und, wrapP ⟨.play, lay, und, pt, way, pace, sign, mu⟩, way, pace, sign, mu⟩) ⟨hm, f2⟩ (wrapP ⟨.play, lay, und, a, b, c, sign, mu⟩) b c
  | dub =>
    have g1 : goT ⟨.dub, lay, und, pt, way, pace, sign, mu⟩ s = ⟨.dub, dubL lay 0 s, und, wrapP ⟨.dub, lay, und, pt, way, pace, sign, mu⟩, way, pace, sign, mu⟩ := by
      show Tr.mk _ (dubL lay (pt.toNat / 2) s) _ _ _ _ _ _ = _
      rw [e1]
    have g2 : goT (Tr.as ⟨.dub, lay, und, pt, way, pace, sign, mu⟩ a b c) s = ⟨.dub, dubL lay 0 s, und, wrapP ⟨.dub, lay, und, a, b, c, sign, mu⟩, b, c, sign, mu⟩ := by
      show Tr.mk _ (dubL lay (a.toNat / 2) s) _ _ _ _ _ _ = _
      rw [e2]
      rfl
    rw [g1, g2]
    refine tw_same (t' := ⟨.dub, dubL lay 0 s, und, wrapP ⟨.dub, lay, und, pt, way, pace, sign, mu⟩, way, pace, sign, mu⟩) ⟨rfl, ?_⟩ (wrapP ⟨.dub, lay, und, a, b, c, sign, mu⟩) b c
    show ((dubL lay 0 s).headD []).length = 1
    have l2 := (hdb rfl).1
    unfold dubL
    have nd : lay.dropLast ≠ [] := fun z => by
      have q := congrArg List.length z
      rw [List.length_dropLast] at q
      simp at q
      omega
    rw [len_app nd, len_drop (by omega)]
    exact f2
/-! ### whole pedals -/
abbrev plB (ts : List Tr) : List Tr := ts.map plT
theorem twB_get {ts us : List Tr} (h : plB ts = plB us) (k : Nat) : plT (ts.getD k Tr.e) = plT (us.getD k Tr.e) := by
  have q := congrArg (fun l => l[k]?) h
  rw [List.getElem?_map, List.getElem?_map] at q
  rw [List.getD_eq_getElem?_getD, List.getD_eq_getElem?_getD]
  cases h1 : ts[k]? with
  | none =>
    cases h2 : us[k]? with
    | none => rfl
    | some u => rw [h1, h2] at q; cases q
  | some t =>
    cases h2 : us[k]? with
    | none => rw [h1, h2] at q; cases q
    | some u =>
      rw [h1, h2] at q
      exact Option.some.inj q
theorem getD_ok {ts : List Tr} (h : ∀ t ∈ ts, OkT t) (k : Nat) : OkT (ts.getD k Tr.e) := by
  rw [List.getD_eq_getElem?_getD]
  cases e : ts[k]? with
  | none => exact .e
  | some t => exact h t (List.mem_of_getElem? e)
theorem twB_press {ts us : List Tr} (p : Pr) (ok : ∀ t ∈ ts, OkT t) (h : plB ts = plB us) : plB (pressB ts p) = plB (pressB us p) := by
  unfold pressB plB
  rw [List.map_set, List.map_set, tw_press p (getD_ok ok p.at) (twB_get h p.at)]
  show (plB ts).set _ _ = (plB us).set _ _
  rw [h]
theorem twB_step : ∀ (ps : List Pr) {ts us : List Tr}, (∀ p ∈ ps, OkP p ts.length) → OkB ts → plB ts = plB us → plB (stepB ts ps) = plB (stepB us ps)
  | [], ts, us, _, _, h => h
  | p :: r, ts, us, hp, ok, h => twB_step r (ts := pressB ts p) (us := pressB us p) (fun q hq => by rw [pressB_len]; exact hp q (List.mem_cons_of_mem _ hq)) (pressB_ok (hp p List.mem_cons_self) ok) (twB_press p ok.2.2 h)
theorem twB_hear : ∀ {ts us : List Tr}, (∀ t ∈ ts, OkT t) → (∀ t ∈ us, OkT t) → plB ts = plB us → hearB ts = hearB us
  | [], [], _, _, _ => rfl
  | [], _ :: _, _, _, h => by cases h
  | _ :: _, [], _, _, h => by cases h
  | t :: r, u :: q, h1, h2, h => by
    have h' := List.cons.inj h
    have e := twB_hear (fun x hx => h1 x (List.mem_cons_of_mem _ hx)) (fun x hx => h2 x (List.mem_cons_of_mem _ hx)) h'.2
    unfold hearB at e ⊢
    rw [List.map_cons, List.map_cons, List.sum_cons, List.sum_cons, e, tw_snd (h1 t List.mem_cons_self) (h2 u List.mem_cons_self) h'.1]
theorem twB_go (s : Int) : ∀ {ts us : List Tr}, (∀ t ∈ ts, OkT t) → (∀ t ∈ us, OkT t) → plB ts = plB us → plB (goB ts s) = plB (goB us s)
  | [], [], _, _, _ => rfl
  | [], _ :: _, _, _, h => by cases h
  | _ :: _, [], _, _, h => by cases h
  | t :: r, u :: q, h1, h2, h => by
    have h' := List.cons.inj h
    have e := twB_go s (fun x hx => h1 x (List.mem_cons_of_mem _ hx)) (fun x hx => h2 x (List.mem_cons_of_mem _ hx)) h'.2
    show plT (goT t s) :: plB (goB r s) = plT (goT u s) :: plB (goB q s)
    rw [e, tw_go s (h1 t List.mem_cons_self) (h2 u List.mem_cons_self) h'.1]
/-- twins are heard alike, and are twins behind it -/
theorem twB_play : ∀ (row : List (List Pr)) (ss : List Int) (ts us : List Tr), (∀ st ∈ row, ∀ p ∈ st, OkP p ts.length) → OkB ts → OkB us → plB ts = plB us →
    (playB ts row ss).1 = (playB us row ss).1 ∧ plB (playB ts row ss).2 = plB (playB us row ss).2
  | [], ss, ts, us, _, _, _, h => by rw [playB_nil, playB_nil]; exact ⟨rfl, h⟩
  | st :: r, [], ts, us, _, _, _, h => ⟨rfl, h⟩
  | st :: r, s :: ss, ts, us, hp, ok, ok2, h => by
    have le : ts.length = us.length := by
      have q := congrArg List.length h
      rwa [List.length_map, List.length_map] at q
    have o1 := stepB_ok (hp st List.mem_cons_self) ok
    have o2 := stepB_ok (ts := us) (fun p hq => le ▸ hp st List.mem_cons_self p hq) ok2
    have e1 := twB_step st (hp st List.mem_cons_self) ok h
    have l : (goB (stepB ts st) s).length = ts.length := by rw [goB_len, stepB_len]
    obtain ⟨q1, q2⟩ := twB_play r ss (goB (stepB ts st) s) (goB (stepB us st) s) (fun v hv p hq => by rw [l]; exact hp v (List.mem_cons_of_mem _ hv) p hq) (goB_ok s o1) (goB_ok s o2) (twB_go s o1.2.2 o2.2.2 e1)
    refine ⟨?_, q2⟩
    show hearB (stepB ts st) :: (playB _ r ss).1 = hearB (stepB us st) :: (playB _ r ss).1
    rw [q1, twB_hear o1.2.2 o2.2.2 e1]
end My

/-! if outcome(lambda: ..) != (word, what): return False -/
namespace My
open PySem PySem.Spec PyProof.Rows L2 LamX
/-- what is wished of an error of the class C that tells a place -/
def RaiseP (K : PySem.W.Frag) (C : Addr) (H : Hp) (E : XK) (pl : List Int) : Prop := ∀ dd w H', Same H H' → H' dd = some (.xd [("place", w)]) → Dp K H' w (dInts pl) → E (.ref C) (some dd) H'
theorem RaiseP.at {K : PySem.W.Frag} {C : Addr} {H H' : Hp} {E : XK} {pl : List Int} (h : RaiseP K C H E pl) (s : Same H H') : RaiseP K C H' E pl := fun dd w H2 s2 a b => h dd w H2 (s.trans s2) a b
def RaiseN (C : Addr) (H : Hp) (E : XK) : Prop := ∀ H', Same H H' → E (.ref C) none H'
section
variable {K : PySem.W.Frag} {L : List (Addr × Str × Option Str)} {P C : Addr} {q word : Str} {t : XK → TE} {σ : L2.St} {H : Hp} {Q : VK} {pl : List Int}
theorem lam_f (T : Tabs [(P, q)] H) (m : (C, word, some (Str.ofString "place")) ∈ L) (body : ∀ H0 (E : XK) (Q' : VK), ExtN H H0 → RaiseP K C H0 E pl → t E σ H0 Q')
    (k : ∀ v H', ExtN H H' → Tabs [(P, q)] H' → Dp K H' v (.tuple [.str word, dInts pl]) → Q v H') : tLam [(P, q)] (TTo K L) t σ H Q := by
  refine ⟨T, fun H1 e1 T1 H0 s0 Q' _ => ?_⟩
  refine body H0 (fltW K L Q) Q' (e1.trans (ExtN.of s0)) fun dd w H' s hx hw => ⟨C, word, some _, rfl, m, dd, w, rfl, hx, fun p H2 s2 hp => ?_⟩
  have st := s0.trans (s.trans s2)
  exact k _ H2 (e1.trans (ExtN.of st)) (T1.ext st) (.tup hp (.cons (.str _) (.cons (hw.same_at s2) .nil)))
theorem lam_n (T : Tabs [(P, q)] H) (m : (C, word, none) ∈ L) (body : ∀ H0 (E : XK) (Q' : VK), ExtN H H0 → RaiseN C H0 E → t E σ H0 Q')
    (k : ∀ v H', ExtN H H' → Tabs [(P, q)] H' → Dp K H' v (.tuple [.str word, .none]) → Q v H') : tLam [(P, q)] (TTo K L) t σ H Q := by
  refine ⟨T, fun H1 e1 T1 H0 s0 Q' _ => ?_⟩
  refine body H0 (fltW K L Q) Q' (e1.trans (ExtN.of s0)) fun H' s => ⟨C, word, none, rfl, m, rfl, fun p H2 s2 hp => ?_⟩
  have st3 := s0.trans (s.trans s2)
  exact k _ H2 (e1.trans (ExtN.of st3)) (T1.ext st3) (.tup hp (.cons (.str _) (.cons .non .nil)))
variable {te2 : TE} {A rest : TS} {D : Ends}
theorem word_shaped (hw : (PyData.str word).canLay0 = true) (pl : List Int) : SeqAt.shaped (.tuple [.str word, dInts pl]) = true := by
  have l := SeqAt.canLay_of_shaped (shaped_dInts pl)
  have d := SeqAt.depth_of_shaped (shaped_dInts pl)
  have d1 := depth_ints pl
  unfold SeqAt.shaped
  rw [Bool.and_eq_true]
  constructor
  · show ((PyData.str word).canLay0 && ((dInts pl).canLay0 && true)) = true
    rw [hw, l]
    rfl
  · refine decide_eq_true ?_
    show max 0 (max (dInts pl).depth 0) + 1 ≤ 64
    have e : (dInts pl).depth = PyData.depthAll (pl.map PyData.int) + 1 := rfl
    omega
theorem word_shapedN (hw : (PyData.str word).canLay0 = true) : SeqAt.shaped (.tuple [.str word, .none]) = true := by
  unfold SeqAt.shaped
  rw [Bool.and_eq_true]
  constructor
  · show ((PyData.str word).canLay0 && (PyData.none.canLay0 && true)) = true
    rw [hw]
    rfl
  · exact decide_eq_true (by show max 0 (max 0 0) + 1 ≤ 64; decide)
theorem test_f (T : Tabs [(P, q)] H) (m : (C, word, some (Str.ofString "place")) ∈ L) (hw : (PyData.str word).canLay0 = true) (body : ∀ H0 (E : XK) (Q' : VK), ExtN H H0 → RaiseP K C H0 E pl → t E σ H0 Q')
    (e2 : ∀ H1 (Q' : VK), ExtN H H1 → (∀ u H2, Same H1 H2 → Dp K H2 u (.tuple [.str word, dInts pl]) → Q' u H2) → te2 σ H1 Q') (next : ∀ H', ExtN H H' → Tabs [(P, q)] H' → D.nx σ H') :
    tIfS (tTest (tOp (rNeD K) (tLam [(P, q)] (TTo K L) t) te2)) A tNext D σ H := by
  refine lam_f T m body fun v H1 x1 T1 hv => e2 H1 _ x1 fun u H2 s2 hu => ?_
  refine ⟨_, _, hv.same_at s2, hu, word_shaped hw pl, word_shaped hw pl, _, rfl, ?_⟩
  rw [eqv_self _ (by show (tupOnly (.str word) && (tupOnly.go (pl.map PyData.int) && true)) = true; rw [to_ints]; rfl)]
  exact iteF (next H2 (x1.trans (ExtN.of s2)) (T1.ext s2))
theorem test_n (T : Tabs [(P, q)] H) (m : (C, word, none) ∈ L) (hw : (PyData.str word).canLay0 = true) (body : ∀ H0 (E : XK) (Q' : VK), ExtN H H0 → RaiseN C H0 E → t E σ H0 Q')
    (e2 : ∀ H1 (Q' : VK), ExtN H H1 → (∀ u H2, Same H1 H2 → Dp K H2 u (.tuple [.str word, .none]) → Q' u H2) → te2 σ H1 Q') (next : ∀ H', ExtN H H' → Tabs [(P, q)] H' → D.nx σ H') :
    tIfS (tTest (tOp (rNeD K) (tLam [(P, q)] (TTo K L) t) te2)) A tNext D σ H := by
  refine lam_n T m body fun v H1 x1 T1 hv => e2 H1 _ x1 fun u H2 s2 hu => ?_
  refine ⟨_, _, hv.same_at s2, hu, word_shapedN hw, word_shapedN hw, _, rfl, ?_⟩
  rw [eqv_self _ (by rfl)]
  exact iteF (next H2 (x1.trans (ExtN.of s2)) (T1.ext s2))
theorem chk_f (T : Tabs [(P, q)] H) (m : (C, word, some (Str.ofString "place")) ∈ L) (hw : (PyData.str word).canLay0 = true) (body : ∀ H0 (E : XK) (Q' : VK), ExtN H H0 → RaiseP K C H0 E pl → t E σ H0 Q')
    (e2 : ∀ H1 (Q' : VK), ExtN H H1 → (∀ u H2, Same H1 H2 → Dp K H2 u (.tuple [.str word, dInts pl]) → Q' u H2) → te2 σ H1 Q') (next : ∀ H', ExtN H H' → Tabs [(P, q)] H' → rest D σ H') :
    tSeq (tIfS (tTest (tOp (rNeD K) (tLam [(P, q)] (TTo K L) t) te2)) A tNext) rest D σ H := test_f (D := { D with nx := rest D }) T m hw body e2 next
theorem chk_n (T : Tabs [(P, q)] H) (m : (C, word, none) ∈ L) (hw : (PyData.str word).canLay0 = true) (body : ∀ H0 (E : XK) (Q' : VK), ExtN H H0 → RaiseN C H0 E → t E σ H0 Q')
    (e2 : ∀ H1 (Q' : VK), ExtN H H1 → (∀ u H2, Same H1 H2 → Dp K H2 u (.tuple [.str word, .none]) → Q' u H2) → te2 σ H1 Q') (next : ∀ H', ExtN H H' → Tabs [(P, q)] H' → rest D σ H') :
    tSeq (tIfS (tTest (tOp (rNeD K) (tLam [(P, q)] (TTo K L) t) te2)) A tNext) rest D σ H := test_n (D := { D with nx := rest D }) T m hw body e2 next
/-- the tuples that are compared with -/
theorem e2_place : ∀ (w : Str) (σ : L2.St) (H1 : Hp) (Q' : VK), (∀ u H2, Same H1 H2 → Dp K H2 u (.tuple [.str w, .none]) → Q' u H2) → tTup (tCons (tC (.str w)) (tCons (tC .non) tNil)) σ H1 Q' := fun w σ H1 Q' k =>
  ⟨(by show 2 ≤ sizeLine; decide), fun p hp => k _ _ (same_upd hp _) (.tup (SqT.of upd_same) (.cons (.str _) (.cons .non .nil)))⟩
theorem e2_empty : ∀ (w : Str) (σ : L2.St) (H1 : Hp) (Q' : VK), (∀ u H2, Same H1 H2 → Dp K H2 u (.tuple [.str w, dInts []]) → Q' u H2) → tTup (tCons (tC (.str w)) (tCons (tTup tNil) tNil)) σ H1 Q' := fun w σ H1 Q' k =>
  ⟨(by show 0 ≤ sizeLine; decide), fun p hp => ⟨(by show 2 ≤ sizeLine; decide), fun p2 hp2 => k _ _ ((same_upd hp _).trans (same_upd hp2 _)) (.tup (SqT.of upd_same) (.cons (.str _) (.cons (Dp.ofInts (ns := []) (SqT.of ((same_upd hp2 _) _ _ upd_same))) .nil)))⟩⟩
end
end My

/-! Data with lists that last while numbers are drawn. -/
namespace My
open PySem PySem.Spec PyProof.Rows L2 LamX
mutual
/-- v is the datum d; its lists lie at allowed places -/
inductive Dq (K : PySem.W.Frag) (H : Hp) (ok : Addr → Prop) : V → PyData → Prop
  | non : Dq K H ok .non .none
  | bl (b : Bool) : Dq K H ok (.bl b) (.bool b)
  | int (i : Int) : Dq K H ok (.int i) (.int i)
  | str (s : Str) : Dq K H ok (.str s) (.str s)
  | lst {a : Addr} {xs : List V} {ds : List PyData} (h : H a = some (.lst xs)) (ho : ok a) (hx : DqAll K H ok xs ds) : Dq K H ok (.ref a) (.list ds)
  | tup {a : Addr} {xs : List V} {ds : List PyData} (h : SqT K H a xs) (hx : DqAll K H ok xs ds) : Dq K H ok (.ref a) (.tuple ds)
inductive DqAll (K : PySem.W.Frag) (H : Hp) (ok : Addr → Prop) : List V → List PyData → Prop
  | nil : DqAll K H ok [] []
  | cons {v : V} {vs : List V} {d : PyData} {ds : List PyData} (h : Dq K H ok v d) (r : DqAll K H ok vs ds) : DqAll K H ok (v :: vs) (d :: ds)
end
section
variable {K : PySem.W.Frag} {H H' : Hp} {ok ok' : Addr → Prop}
mutual
theorem Dq.keep (tk : TK K H H') (kp : ∀ a xs, ok a → H a = some (.lst xs) → H' a = some (.lst xs)) (oo : ∀ a xs, H a = some (.lst xs) → ok a → ok' a) : ∀ (d : PyData) (v : V), Dq K H ok v d → Dq K H' ok' v d
  | .none, _, h => by cases h; exact .non
  | .bool b, _, h => by cases h; exact .bl b
  | .int i, _, h => by cases h; exact .int i
  | .str x, _, h => by cases h; exact .str x
  | .dict _, _, h => by cases h
  | .list ds, _, h => by
    cases h with
    | lst h ho hx => exact .lst (kp _ _ ho h) (oo _ _ h ho) (DqAll.keep tk kp oo ds _ hx)
  | .tuple ds, _, h => by
    cases h with
    | tup h hx => exact .tup (tk _ _ h) (DqAll.keep tk kp oo ds _ hx)
theorem DqAll.keep (tk : TK K H H') (kp : ∀ a xs, ok a → H a = some (.lst xs) → H' a = some (.lst xs)) (oo : ∀ a xs, H a = some (.lst xs) → ok a → ok' a) : ∀ (ds : List PyData) (vs : List V), DqAll K H ok vs ds → DqAll K H' ok' vs ds
  | [], _, h => by cases h; exact .nil
  | d :: r, _, h => by
    cases h with
    | cons h1 h2 => exact .cons (Dq.keep tk kp oo d _ h1) (DqAll.keep tk kp oo r _ h2)
end
theorem Dq.sm {v : V} {d : PyData} (h : Dq K H ok v d) (s : Same H H') : Dq K H' ok v d := Dq.keep (Same.tk s) (fun a o _ q => s a _ q) (fun _ _ _ q => q) d v h
theorem DqAll.sm {vs : List V} {ds : List PyData} (h : DqAll K H ok vs ds) (s : Same H H') : DqAll K H' ok vs ds := DqAll.keep (Same.tk s) (fun a o _ q => s a _ q) (fun _ _ _ q => q) ds vs h
theorem Dq.re (oo : ∀ a xs, H a = some (.lst xs) → ok a → ok' a) {v : V} {d : PyData} (h : Dq K H ok v d) : Dq K H ok' v d := Dq.keep TK.refl (fun _ _ _ q => q) oo d v h
theorem DqAll.re (oo : ∀ a xs, H a = some (.lst xs) → ok a → ok' a) {vs : List V} {ds : List PyData} (h : DqAll K H ok vs ds) : DqAll K H ok' vs ds := DqAll.keep TK.refl (fun _ _ _ q => q) oo ds vs h
mutual
theorem Dq.dp : ∀ (d : PyData) (v : V), Dq K H ok v d → Dp K H v d
  | .none, _, h => by cases h; exact .non
  | .bool b, _, h => by cases h; exact .bl b
  | .int i, _, h => by cases h; exact .int i
  | .str x, _, h => by cases h; exact .str x
  | .dict _, _, h => by cases h
  | .list ds, _, h => by
    cases h with
    | lst h _ hx => exact .lst (SqL.of h) (DqAll.dp ds _ hx)
  | .tuple ds, _, h => by
    cases h with
    | tup h hx => exact .tup h (DqAll.dp ds _ hx)
theorem DqAll.dp : ∀ (ds : List PyData) (vs : List V), DqAll K H ok vs ds → DpAll K H vs ds
  | [], _, h => by cases h; exact .nil
  | d :: r, _, h => by
    cases h with
    | cons h1 h2 => exact .cons (Dq.dp d _ h1) (DqAll.dp r _ h2)
end
mutual
theorem Dq.rt : ∀ (d : PyData) (v : V), Dq K H ok v d → Rt K H v (thD d)
  | .none, _, h => by cases h; exact .non
  | .bool b, _, h => by cases h; exact .bl b
  | .int i, _, h => by cases h; exact .int i
  | .str x, _, h => by cases h; exact .str x
  | .dict _, _, h => by cases h
  | .list ds, _, h => by
    cases h with
    | lst h _ _ => exact .lst h
  | .tuple ds, _, h => by
    cases h with
    | tup h hx => exact .tup h (DqAll.rt ds _ hx)
theorem DqAll.rt : ∀ (ds : List PyData) (vs : List V), DqAll K H ok vs ds → RtAll K H vs (thD.go ds)
  | [], _, h => by cases h; exact .nil
  | d :: r, _, h => by
    cases h with
    | cons h1 h2 => exact .cons (Dq.rt d _ h1) (DqAll.rt r _ h2)
end
mutual
theorem Dp.dq : ∀ (d : PyData) (v : V), tupOnly d = true → Dp K H v d → Dq K H ok v d
  | .none, _, _, h => by cases h; exact .non
  | .bool b, _, _, h => by cases h; exact .bl b
  | .int i, _, _, h => by cases h; exact .int i
  | .str x, _, _, h => by cases h; exact .str x
  | .list _, _, t, _ => by cases t
  | .dict _, _, t, _ => by cases t
  | .tuple ds, _, t, h => by
    cases h with
    | tup hs ha => exact .tup hs (DpAll.dq ds _ t ha)
theorem DpAll.dq : ∀ (ds : List PyData) (vs : List V), tupOnly.go ds = true → DpAll K H vs ds → DqAll K H ok vs ds
  | [], _, _, h => by cases h; exact .nil
  | d :: r, _, t, h => by
    cases h with
    | cons h1 h2 =>
      have t' := Bool.and_eq_true_iff.mp t
      exact .cons (Dp.dq d _ t'.1 h1) (DpAll.dq r _ t'.2 h2)
end
theorem DqAll.len : ∀ {vs : List V} {ds : List PyData}, DqAll K H ok vs ds → vs.length = ds.length
  | _, _, .nil => rfl
  | _, _, .cons _ h => by simp [DqAll.len h]
theorem DqAll.get : ∀ {vs : List V} {ds : List PyData} {i : Nat} {v : V}, DqAll K H ok vs ds → vs[i]? = some v → ∃ d, ds[i]? = some d ∧ Dq K H ok v d
  | _, _, _, _, .nil, h => by cases h
  | _, _, 0, _, .cons h1 _, h => by
    cases h
    exact ⟨_, rfl, h1⟩
  | _, _, i + 1, _, .cons _ h2, h => DqAll.get (i := i) h2 h
theorem DqAll.app : ∀ {vs us : List V} {ds es : List PyData}, DqAll K H ok vs ds → DqAll K H ok us es → DqAll K H ok (vs ++ us) (ds ++ es)
  | _, _, _, _, .nil, h => h
  | _, _, _, _, .cons h1 h2, h => .cons h1 (DqAll.app h2 h)
theorem DqAll.drop : ∀ {vs : List V} {ds : List PyData} (n : Nat), DqAll K H ok vs ds → DqAll K H ok (vs.drop n) (ds.drop n)
  | _, _, 0, h => h
  | _, _, n + 1, .nil => .nil
  | _, _, n + 1, .cons _ h => DqAll.drop n h
theorem DqAll.take : ∀ {vs : List V} {ds : List PyData} (n : Nat), DqAll K H ok vs ds → DqAll K H ok (vs.take n) (ds.take n)
  | _, _, 0, _ => .nil
  | _, _, n + 1, .nil => .nil
  | _, _, n + 1, .cons h1 h => .cons h1 (DqAll.take n h)
theorem Dq.tuple {v : V} {ds : List PyData} (h : Dq K H ok v (.tuple ds)) : ∃ a xs, v = .ref a ∧ SqT K H a xs ∧ DqAll K H ok xs ds := by
  cases h with
  | tup h1 h2 => exact ⟨_, _, rfl, h1, h2⟩
theorem Dq.list {v : V} {ds : List PyData} (h : Dq K H ok v (.list ds)) : ∃ a xs, v = .ref a ∧ H a = some (.lst xs) ∧ ok a ∧ DqAll K H ok xs ds := by
  cases h with
  | lst h1 h2 h3 => exact ⟨_, _, rfl, h1, h2, h3⟩
theorem rd_cutQ {v : V} {ds : List PyData} {lo hi : Option Int} {Q : VK} (h : Dq K H ok v (.tuple ds))
    (k : ∀ w H', Same H H' → Dq K H' ok w (.tuple (L2.cutD ds lo hi)) → Q w H') : rSlA K v lo hi H Q := by
  obtain ⟨a, xs, rfl, hT, hX⟩ := h.tuple
  have hl := hX.len
  have hc : DqAll K H ok (cutV xs lo hi) (L2.cutD ds lo hi) := by
    unfold cutV L2.cutD
    rw [← hl]
    exact (hX.drop _).take _
  refine ⟨a, xs, rfl, hT, fun w => ?_, fun _ p hp => ?_⟩
  · refine k _ H (Same.refl H) (.tup hT ?_)
    have e : cutV xs lo hi = xs := by
      unfold cutV
      rw [w.1, w.2, List.drop_zero, Nat.sub_zero, List.take_length]
    rw [e] at hc
    exact hc
  · exact k _ _ (same_upd hp _) (.tup (SqT.of upd_same) (hc.sm (same_upd hp _)))
theorem rd_catQ {v u : V} {ds es : List PyData} {Q : VK} (h1 : Dq K H ok v (.tuple ds)) (h2 : Dq K H ok u (.tuple es)) (hz : ds.length + es.length ≤ sizeLine)
    (k : ∀ w H', Same H H' → Dq K H' ok w (.tuple (ds ++ es)) → Q w H') : rCatA K v u H Q := by
  obtain ⟨a, xs, rfl, hT, hX⟩ := h1.tuple
  obtain ⟨b, ys, rfl, hU, hY⟩ := h2.tuple
  have l1 := hX.len
  have l2 := hY.len
  refine ⟨a, b, xs, ys, rfl, rfl, hT, hU, by rw [l1, l2]; exact hz, fun e => ?_, fun _ e => ?_, fun _ _ p hp => ?_⟩
  · subst e
    cases hX
    exact k _ H (Same.refl H) (.tup hU hY)
  · subst e
    cases hY
    rw [List.append_nil] at k
    exact k _ H (Same.refl H) (.tup hT hX)
  · exact k _ _ (same_upd hp _) (.tup (SqT.of upd_same) ((hX.app hY).sm (same_upd hp _)))
end
/-- not among the state of the draws, and not p -/
def offP (H : Hp) (m p a : Addr) : Prop := offM H m a ∧ a ≠ p
/-- the place p is taken -/
def Pin (H : Hp) (m p : Addr) : Prop := p = m ∨ ((∃ xs, H p = some (.lst xs)) ∧ offM H m p)
section
variable {K : PySem.W.Frag} {B H H' : Hp} {m p : Addr} {n : Nat} {v : V} {d : PyData}
theorem Pin.sm (h : Pin H m p) (M : MS H m n) (s : Same H H') : Pin H' m p := by
  rcases h with e | ⟨⟨xs, h⟩, o⟩
  · exact .inl e
  · exact .inr ⟨⟨xs, s _ _ h⟩, off_sm M o s⟩
theorem Pin.ef (h : Pin H m p) (M : MS H m n) (e : Ef m H H') : Pin H' m p := by
  rcases h with z | ⟨⟨xs, h⟩, o⟩
  · exact .inl z
  · obtain ⟨a, b⟩ := lst_ef h M o e
    exact .inr ⟨⟨xs, a⟩, b⟩
theorem Pin.ne (h : Pin H m p) (M : MS H m n) {a : Addr} (ha : H a = none) : a ≠ p := by
  rcases h with z | ⟨⟨xs, h⟩, o⟩
  · rw [z]
    exact (M.mne ha).symm
  · exact fun w => by
      rw [w, h] at ha
      cases ha
theorem offP_sm {a : Addr} (M : MS H m n) (q : offP H m p a) (s : Same H H') : offP H' m p a := ⟨off_sm M q.1 s, q.2⟩
theorem offP_free {a : Addr} (M : MS B m n) (P : Pin B m p) (s : Same B H) (ha : B a = none) : offP H m p a := ⟨off_free M s ha, P.ne M ha⟩
theorem ok_ex (M : MS H m n) (e : ExtN H H') : ∀ a (xs : List V), H a = some (.lst xs) → offP H m p a → offP H' m p a := fun a _ _ q => ⟨off_ex M q.1 e, q.2⟩
theorem ok_ef (M : MS H m n) (e : Ef m H H') : ∀ a (xs : List V), H a = some (.lst xs) → offP H m p a → offP H' m p a := fun a _ z q => ⟨⟨q.1.1, fun w => by
  rcases e.new a w with r | r
  · exact q.1.2 r
  · rw [z] at r
    cases r⟩, q.2⟩
theorem ok_sm (M : MS H m n) (s : Same H H') : ∀ a (xs : List V), H a = some (.lst xs) → offP H m p a → offP H' m p a := fun a _ _ q => offP_sm M q s
theorem Dq.ef (h : Dq K H (offP H m p) v d) (M : MS H m n) (e : Ef m H H') : Dq K H' (offP H' m p) v d :=
  Dq.keep (e.tk M) (fun a xs q z => e.keep a _ z q.1.1 q.1.2) (ok_ef M e) d v h
theorem Dq.smM (h : Dq K H (offP H m p) v d) (M : MS H m n) (s : Same H H') : Dq K H' (offP H' m p) v d :=
  Dq.keep (Same.tk s) (fun a o _ z => s a _ z) (ok_sm M s) d v h
theorem Dq.ex (h : Dq K H (offP H m p) v d) (M : MS H m n) (e : ExtN H H') : Dq K H' (offP H' m p) v d :=
  Dq.keep (ExtN.tk e) (fun a o _ z => e a _ z (fun ps w => by cases w)) (ok_ex M e) d v h
theorem DqAll.ef {vs : List V} {ds : List PyData} (h : DqAll K H (offP H m p) vs ds) (M : MS H m n) (e : Ef m H H') : DqAll K H' (offP H' m p) vs ds :=
  DqAll.keep (e.tk M) (fun a xs q z => e.keep a _ z q.1.1 q.1.2) (ok_ef M e) ds vs h
theorem DqAll.smM {vs : List V} {ds : List PyData} (h : DqAll K H (offP H m p) vs ds) (M : MS H m n) (s : Same H H') : DqAll K H' (offP H' m p) vs ds :=
  DqAll.keep (Same.tk s) (fun a o _ z => s a _ z) (ok_sm M s) ds vs h
theorem DqAll.ex {vs : List V} {ds : List PyData} (h : DqAll K H (offP H m p) vs ds) (M : MS H m n) (e : ExtN H H') : DqAll K H' (offP H' m p) vs ds :=
  DqAll.keep (ExtN.tk e) (fun a o _ z => e a _ z (fun ps w => by cases w)) (ok_ex M e) ds vs h
/-- p is new -/
theorem Dq.toP {q : Addr} (h : Dq K H (offP H m q) v d) (hp : H p = none) : Dq K H (offP H m p) v d := h.re fun a _ ha z => ⟨z.1, ne_of_none ha hp⟩
/-- something is added to the list at p -/
theorem DqAll.upd {vs : List V} {ds : List PyData} {xs ys : List V} (h : DqAll K H (offP H m p) vs ds) (M : MS H m n) (hp : H p = some (.lst xs)) : DqAll K (L2.upd H p (.lst ys)) (offP (L2.upd H p (.lst ys)) m p) vs ds :=
  DqAll.keep (tk_upd hp) (fun a o q z => by rw [upd_ne q.2]; exact z) (fun a o z q => ⟨⟨q.1.1, fun w => q.1.2 (w.upd (M.mneL hp))⟩, q.2⟩) ds vs h
theorem Dq.any {ok : Addr → Prop} (h : Dq K H ok v d) : Dq K H (fun _ => True) v d := h.re fun _ _ _ _ => trivial
theorem pickQ {vs : List V} {ds : List PyData} {ok : Addr → Prop} {r : Int} (h : DqAll K H ok vs ds) (h0 : 0 ≤ r) (h1 : r < ((ds.length : Nat) : Int)) : ∃ x e, atI vs r = some x ∧ e ∈ ds ∧ Dq K H ok x e := by
  have hl := h.len
  have hr : r.toNat < vs.length := by omega
  obtain ⟨e, he, hR⟩ := h.get (List.getElem?_eq_getElem hr)
  exact ⟨_, e, at_of (j := r.toNat) (by omega) (List.getElem?_eq_getElem hr), List.mem_of_getElem? he, hR⟩
end
/-! ### written data -/
/-- te makes the datum d, with lists at allowed places; B: the heap ahead of it -/
def Mq (K : PySem.W.Frag) (B : Hp) (ok : Addr → Prop) (te : TE) (σ : L2.St) (d : PyData) : Prop := ∀ (H : Hp) (Q : VK), Same B H → (∀ v H', Same H H' → Dq K H' ok v d → Q v H') → te σ H Q
def MqL (K : PySem.W.Frag) (B : Hp) (ok : Addr → Prop) (t : TA) (σ : L2.St) (ds : List PyData) : Prop := ∀ (H : Hp) (Q : List V → Hp → Prop), Same B H → (∀ vs H', Same H H' → DqAll K H' ok vs ds → Q vs H') → t σ H Q
section
variable {K : PySem.W.Frag} {B : Hp} {ok : Addr → Prop} {σ : L2.St} {te : TE} {t : TA} {d : PyData} {ds : List PyData}
theorem mq_int (i : Int) : Mq K B ok (tC (.int i)) σ (.int i) := fun H Q _ k => k _ H (Same.refl H) (.int i)
theorem mq_neg (i : Int) : Mq K B ok (tUn (rU fun i => .int (-i)) (tC (.int i))) σ (.int (-i)) := fun H Q _ k => ⟨i, rfl, k _ H (Same.refl H) (.int (-i))⟩
theorem mq_val {i : Int} (h : ∀ H Q, Q (.int i) H → te σ H Q) : Mq K B ok te σ (.int i) := fun H Q _ k => h H Q (k _ H (Same.refl H) (.int i))
theorem mq_str (s : Str) : Mq K B ok (tC (.str s)) σ (.str s) := fun H Q _ k => k _ H (Same.refl H) (.str s)
theorem mq_bl (b : Bool) : Mq K B ok (tC (.bl b)) σ (.bool b) := fun H Q _ k => k _ H (Same.refl H) (.bl b)
theorem mq_non : Mq K B ok (tC .non) σ .none := fun H Q _ k => k _ H (Same.refl H) .non
/-- a variable -/
theorem mq_at {i : Nat} {v : V} (h : σ[i]? = some (some v)) (hv : Dq K B ok v d) : Mq K B ok (tVar i) σ d := fun H Q b k => ⟨v, h, k v H (Same.refl H) (hv.sm b)⟩
theorem mql_nil : MqL K B ok tNil σ [] := fun H Q _ k => k _ H (Same.refl H) .nil
theorem mql_cons (h : Mq K B ok te σ d) (r : MqL K B ok t σ ds) : MqL K B ok (tCons te t) σ (d :: ds) := fun H Q b k => h H _ b fun v H1 s1 hv => r H1 _ (b.trans s1) fun vs H2 s2 hvs => k _ H2 (s1.trans s2) (.cons (hv.sm s2) hvs)
theorem mq_tup (h : MqL K B ok t σ ds) (hz : ds.length ≤ 1000) : Mq K B ok (tTup t) σ (.tuple ds) := fun H Q b k => h H _ b fun vs H1 s1 hvs => ⟨by rw [hvs.len]; exact Nat.le_of_lt (small1000 hz), fun p hp => k _ _ (s1.trans (same_upd hp _)) (.tup (SqT.of upd_same) (hvs.sm (same_upd hp _)))⟩
theorem mq_lst (fr : ∀ a, B a = none → ok a) (h : MqL K B ok t σ ds) (hz : ds.length ≤ 1000) : Mq K B ok (tLst t) σ (.list ds) := fun H Q b k => h H _ b fun vs H1 s1 hvs => ⟨by rw [hvs.len]; exact Nat.le_of_lt (small1000 hz), fun p hp => k _ _ (s1.trans (same_upd hp _)) (.lst upd_same (fr _ ((b.trans s1).free hp)) (hvs.sm (same_upd hp _)))⟩
/-- the elements of a tuple as a list -/
theorem mq_listof (fr : ∀ a, B a = none → ok a) {i : Nat} {v : V} (hi : σ[i]? = some (some v)) (hv : Dq K B ok v (.tuple ds)) : Mq K B ok (tCB (Evl.rListS K) (tCons (tVar i) tNil)) σ (.list ds) := fun H Q b k => by
  obtain ⟨a, xs, rfl, hT, hX⟩ := (hv.sm b).tuple
  exact ⟨_, hi, a, xs, rfl, .inr hT, fun l hl => k _ _ (same_upd hl _) (.lst upd_same (fr _ (b.free hl)) (hX.sm (same_upd hl _)))⟩
/-- two tuples as one -/
theorem mq_cat {te2 : TE} {es : List PyData} (h1 : Mq K B ok te σ (.tuple ds)) (h2 : Mq K B ok te2 σ (.tuple es)) (hz : ds.length + es.length ≤ 1000) : Mq K B ok (tOp (rCatA K) te te2) σ (.tuple (ds ++ es)) := fun H Q b k =>
  h1 H _ b fun v H1 s1 hv => h2 H1 _ (b.trans s1) fun u H2 s2 hu => rd_catQ (hv.sm s2) hu (Nat.le_of_lt (small1000 hz)) fun w H3 s3 hw => k w H3 (s1.trans (s2.trans s3)) hw
variable {g : TG} {u : TS} {D : Ends} {H : Hp}
theorem seq_rowQ (h : MqL K H ok t σ ds) (hz : ds.length ≤ 1000) (k : ∀ p vs H', Same H H' → H' p = some (.lst vs) → H p = none → DqAll K H' ok vs ds → g (.ref p) σ H' (u D)) : tSeq (tAsg (tLst t) g) u D σ H :=
  h H _ (Same.refl H) fun vs H1 s1 hvs => ⟨by rw [hvs.len]; exact Nat.le_of_lt (small1000 hz), fun p hp => k _ vs _ (s1.trans (same_upd hp _)) upd_same (s1.free hp) (hvs.sm (same_upd hp _))⟩
theorem seq_moreQ {i : Nat} {p : Addr} {vs : List V} {es : List PyData} (hi : σ[i]? = some (some (.ref p))) (hp : H p = some (.lst vs)) (R : DqAll K H ok vs es) (h : MqL K H ok t σ ds) (hz : es.length + ds.length ≤ 1000)
    (k : ∀ p vs H', Same H H' → H' p = some (.lst vs) → H p = none → DqAll K H' ok vs (es ++ ds) → g (.ref p) σ H' (u D)) : tSeq (tAsg (tOp rCat (tVar i) (tLst t)) g) u D σ H := by
  refine ⟨_, hi, h H _ (Same.refl H) fun us G s S => ?_⟩
  have l1 := R.len
  have l2 := S.len
  refine ⟨by rw [l2]; exact Nat.le_of_lt (small1000 (by omega)), fun q hq => ?_⟩
  have y1 := same_upd hq (.lst us)
  refine ⟨p, q, _, _, rfl, rfl, (s.trans y1) _ _ hp, upd_same, by rw [l1, l2]; exact Nat.le_of_lt (small1000 hz), fun p' fp => ?_⟩
  have y := same_upd fp (.lst (vs ++ us))
  exact k p' _ _ (s.trans (y1.trans y)) upd_same ((s.trans y1).free fp) ((R.sm (s.trans (y1.trans y))).app (S.sm (y1.trans y)))
end
theorem cut_suf (xs : List PyData) (c : Nat) : L2.cutD xs (some (c : Int)) none = xs.drop c := by
  by_cases h : c ≤ xs.length
  · exact cutD_suf xs h
  · unfold L2.cutD
    rw [HT.sIx_nat, Nat.min_eq_right (by omega)]
    rw [List.drop_eq_nil_of_le (Nat.le_refl _), List.drop_eq_nil_of_le (by omega), List.take_nil]
section
variable {K : PySem.W.Frag} {B : Hp} {ok : Addr → Prop} {σ : L2.St} {te : TE} {d : PyData} {ds : List PyData}
theorem mq_dp (t : tupOnly d = true) (h : ∀ H Q, Same B H → (∀ v H', Same H H' → Dp K H' v d → Q v H') → te σ H Q) : Mq K B ok te σ d := fun H Q b k =>
  h H Q b fun v H' s hv => k v H' s (Dp.dq d v t hv)
theorem mq_to {i j c : Nat} {v : V} (hi : σ[i]? = some (some v)) (hj : σ[j]? = some (some (.int (c : Nat)))) (hv : Dq K B ok v (.tuple ds)) : Mq K B ok (tSl (rSlA K) (tVar i) tNoPart (tPart (tVar j))) σ (.tuple (ds.take c)) := fun H Q b k => by
  refine ⟨_, hi, ?_⟩
  dsimp only [tNoPart]
  refine ⟨_, hj, _, rfl, rd_cutQ (hv.sm b) fun w H' s hw => k w H' s ?_⟩
  rw [cutD_pre] at hw
  exact hw
theorem mq_from {i c : Nat} {v : V} (hi : σ[i]? = some (some v)) (hc : ∀ H Q, Q (.int (c : Nat)) H → te σ H Q) (hv : Dq K B ok v (.tuple ds)) : Mq K B ok (tSl (rSlA K) (tVar i) (tPart te) tNoPart) σ (.tuple (ds.drop c)) := fun H Q b k => by
  refine ⟨_, hi, hc H _ ⟨_, rfl, ?_⟩⟩
  dsimp only [tNoPart]
  refine rd_cutQ (hv.sm b) fun w H' s hw => k w H' s ?_
  rw [cut_suf] at hw
  exact hw
variable {g : TG} {D : Ends} {H : Hp}
theorem asg_q (h : Mq K H ok te σ d) (k : ∀ v H', Same H H' → Dq K H' ok v d → g v σ H' D.nx) : tAsg te g D σ H := h H _ (Same.refl H) fun v H' s hv => k v H' s hv
theorem ret_q (h : Mq K H ok te σ d) (k : ∀ v H', Same H H' → Dq K H' ok v d → D.rt v H') : tRet te D σ H := h H _ (Same.refl H) fun v H' s hv => k v H' s hv
end
/-! ### what a call returns in a list, or how it is refused -/
def outD (word : Str) (d : PyData) : Option (List Int) → PyData
  | none => .list [d]
  | some pl => .tuple [.str word, dInts pl]
section
variable {K : PySem.W.Frag} {L : List (Addr × Str × Option Str)} {P C : Addr} {q word : Str} {t : XK → TE} {σ : L2.St} {H : Hp} {Q : VK} {o : Option (List Int)} {d : PyData}
theorem lam_o (T : Tabs [(P, q)] H) (m : (C, word, some (Str.ofString "place")) ∈ L) (body : ∀ H0 (E : XK) (Q' : VK), ExtN H H0 → (o = none → ∀ x H', Same H0 H' → Dp K H' x d → Q' x H') → (∀ pl, o = some pl → RaiseP K C H0 E pl) → t E σ H0 Q')
    (k : ∀ v H', ExtN H H' → Tabs [(P, q)] H' → Dp K H' v (outD word d o) → Q v H') : tLam [(P, q)] (TTo K L) t σ H Q := by
  refine ⟨T, fun H1 e1 T1 H0 s0 Q' good => ?_⟩
  refine body H0 (fltW K L Q) Q' (e1.trans (ExtN.of s0)) (fun e x H' s' hx => good _ _ fun p hp => ?_) fun pl e dd w H' s hx hw => ⟨C, word, some _, rfl, m, dd, w, rfl, hx, fun p H2 s2 hp => ?_⟩
  · have st := s0.trans (s'.trans (same_upd hp (.lst [x])))
    subst e
    exact k _ _ (e1.trans (ExtN.of st)) (T1.ext st) (.lst (SqL.of upd_same) (.cons (hx.same_at (same_upd hp (.lst [x]))) .nil))
  · have st := s0.trans (s.trans s2)
    subst e
    exact k _ H2 (e1.trans (ExtN.of st)) (T1.ext st) (.tup hp (.cons (.str _) (.cons (hw.same_at s2) .nil)))
end
/-- something is added to a list -/
theorem tabs_upd {Ts : List (Addr × Str)} {H : Hp} {p : Addr} {xs ys : List V} (t : Tabs Ts H) (h : H p = some (.lst xs)) : Tabs Ts (L2.upd H p (.lst ys)) := fun q hq => by
  have go : ∀ (b : Addr) (u : HO), H b = some u → (∀ ys, u ≠ .lst ys) → L2.upd H p (.lst ys) b = some u := fun b u hu h2 => by
    rw [upd_ne (fun z => h2 xs (by rw [z, h] at hu; exact (Option.some.inj hu).symm))]
    exact hu
  obtain ⟨ps, h1, h2, h3⟩ := t q hq
  refine ⟨ps, go _ _ h1 (fun _ z => by cases z), h2, fun pos cv hv => ?_⟩
  obtain ⟨c0, e1, e2⟩ := h3 pos cv hv
  refine ⟨c0, e1, go _ _ e2 (fun _ z => ?_)⟩
  unfold CodeO at z
  cases z
/-- the first of the things that are found wrong -/
theorem fx_take {α : Type} (p : α → Bool) {xs : List α} {j : Nat} {x : α} (h : xs[j]? = some x) : (xs.take (j + 1)).findIdx? p = match (xs.take j).findIdx? p with | some i => some i | none => if p x = true then some j else none := by
  have e : xs.take (j + 1) = xs.take j ++ [x] := by
    rw [List.take_succ, h]
    rfl
  have l : j < xs.length := by
    rcases Nat.lt_or_ge j xs.length with z | z
    · exact z
    · rw [List.getElem?_eq_none z] at h
      cases h
  rw [e, List.findIdx?_append]
  cases (xs.take j).findIdx? p with
  | some i => rfl
  | none =>
    rw [List.findIdx?_singleton, List.length_take, Nat.min_eq_left (Nat.le_of_lt l)]
    cases p x <;> simp
end My

/-! Own errors as values: made by position or by name, their classes and fields, repr of lists that hold a dict. -/
namespace L2
open PySem PySem.W PySem.HandSPX
section
variable {M : Model} {A : Around} {E : Value → Shared → Prop} {h : Heap} {g : Array GenState} {d : Drawn} {t : Nat} {os : OsState}
variable {nm q : Str} {C N : Addr} {bs bm bmB : List Value} {hdct : Bool} {sn : List Str} {sub : List Value} {ab : Bool} {col : Option Bool} {dd : Option Addr} {k0 k1 k2 k3 k5 : Option Value} {B newId initId : String}
theorem kx_check (F : ExcBaseFacts B newId initId bmB) (hT : ∀ X : String, bm.contains (.type X) = bmB.contains (.type X)) {us : List Value} {kw : List (Str × Value)} {Q : Unit → Shared → Prop}
    (lC : h.get? C = some (excClassObj nm q C N bs bm hdct sn sub ab col dd k0 k1 k2 k3 k5 newId)) (z : Q () ⟨h, g, d, t, os⟩) : wpAny M A (checkBuiltinCall newId ⟨.ref C :: us, kw⟩) Q E ⟨h, g, d, t, os⟩ := by
  have e1 : (Value.ref C :: bm).contains (.type B) = true := by rw [List.contains_cons, hT, F.hasB, Bool.or_true]
  have e2 := F.noStar
  simp only [checkBuiltinCall, F.newKind, F.newSplit, F.newRow]
  repeat (first | refine wpAny_loadPart_at lC ?_ | (refine wpAny_isSubtype_exc lC ?_; rw [e1]) | refine wpAny_staticBase_exc lC ?_ | refine wpAny_madeBy_exc lC ?_ | simp only [bne_self_eq_false, Bool.false_eq_true, if_false] | wp_step)
  exact z
end
section
variable {prog : Program} {w : World} {A : Around} {E : Value → Shared → Prop} {R : Result → Shared → Prop} {h : Heap} {g : Array GenState} {d : Drawn} {t : Nat} {os : OsState}
variable {nm q : Str} {C N : Addr} {bs bm bmB : List Value} {hdct : Bool} {sn : List Str} {sub : List Value} {ab : Bool} {col : Option Bool} {dd : Option Addr} {k0 k1 k2 k3 k5 : Option Value} {B newId initId : String}
theorem kx_new (F : ExcBaseFacts B newId initId bmB) (hT : ∀ X : String, bm.contains (.type X) = bmB.contains (.type X)) {us : List Value} {kw : List (Str × Value)}
    (lC : h.get? C = some (excClassObj nm q C N bs bm hdct sn sub ab col dd k0 k1 k2 k3 k5 newId))
    (z : R (.ok (.ret (.ref (h.objs.size + 1)))) ⟨(h.push (PySem.W.kdv_tup us)).push (excO C h.objs.size), g, d, t, os⟩) (small : us.length ≤ sizeLine) :
    codeAny (model prog w) A (.builtin newId ⟨.ref C :: us, kw⟩) R ⟨h, g, d, t, os⟩ := by
  have e0 := F.ends
  have e1 : (Value.ref C :: bm).contains (.type B) = true := by rw [List.contains_cons, hT, F.hasB, Bool.or_true]
  have e2 : (Value.ref C :: bm).contains (.type "AttributeError") = false := by rw [List.contains_cons, hT, F.noAttr]; rfl
  have e3 : (Value.ref C :: bm).contains (.type "NameError") = false := by rw [List.contains_cons, hT, F.noName]; rfl
  refine codeAny_builtinAt F.entry ?_
  unfold Builtin.«BaseException.__new__»
  refine wpAt_bind ?_
  show wpAt _ _ _ (stack >>= _) _ _ _
  refine wpAt_bind (wpAt_stack fun p below => wpAt_of_wpAny ?_)
  wp_walk
  refine wpAt_of_wpAny ?_
  rw [F.owner]
  repeat (first | with_reducible refine wpAny_madeHere_exc F.canon lC ?_ | with_reducible refine wpAny_loadPart_at lC ?_ | (with_reducible refine wpAny_isSubtype_exc lC ?_; first | rw [e1] | rw [e2] | rw [e3]) | wp_step)
  show R _ _
  rw [Heap.size_push]
  exact z
theorem kx_type (F : ExcBaseFacts B newId initId bmB) (hT : ∀ X : String, bm.contains (.type X) = bmB.contains (.type X)) {us : List Value} {kw : List (Str × Value)} {f : Addr} {Q : Fin → Shared → Prop}
    (lC : h.get? C = some (excClassObj nm q C N bs bm hdct sn sub ab col dd k0 k1 k2 k3 k5 newId))
    (hi : W.Looks (model prog w) h (typeLookup (.ref C) "__init__") (some (.ref f))) (hb : ∀ self, W.Looks (model prog w) h (bindSpecial (.ref f) self) (.ref f, [self])) (small : us.length ≤ sizeLine)
    (z : codeAny (model prog w) A (.call (.ref f) ⟨.ref (h.objs.size + 1) :: us, kw⟩)
      (fun r s' => match r with | .ok (.ret v) => v = .none ∧ Q (.done (.ret (.ref (h.objs.size + 1)))) s' | .ok _ => False | .error e => E e s')
      ⟨(h.push (W.kdv_tup us)).push (excO C h.objs.size), g, d, t, os⟩) :
    wpAny (model prog w) A (Builtin.«type.__call__» ⟨.ref C :: us, kw⟩) Q E ⟨h, g, d, t, os⟩ := by
  repeat (first | with_reducible refine wpAny_loadPart_at lC ?_ | with_reducible refine wpAny_madeBy_exc lC ?_ | wp_step)
  refine codeAny_call_builtin_code (Code.quiet_builtin _ F.quiet) (kx_check F hT lC ?_)
  refine kx_new F hT lC ?_ small
  show wpAny _ _ _ _ _ _
  have kk : ∀ b o, h.get? b = some o → ((h.push (W.kdv_tup us)).push (excO C h.objs.size)).get? b = some o := fun b o y => Heap.get?_push_of_some _ (Heap.get?_push_of_some _ y)
  have lC2 := kk _ _ lC
  have at1 : ((h.push (W.kdv_tup us)).push (excO C h.objs.size)).get? (h.objs.size + 1) = some (excO C h.objs.size) := by heap_get
  have me : (Value.ref C :: bm).contains (.ref C) = true := by simp
  have l1 := hi.keeps kk
  have l2 := (hb (.ref (h.objs.size + 1))).keeps kk
  unfold isInstance
  repeat (first | with_reducible refine wpAny_loadPart_at at1 ?_ | (with_reducible refine wpAny_isSubtype_exc lC2 ?_; rw [me]) | wp_step)
  show wpAny _ _ (typeLookup (.ref C) _) _ _ _
  refine l1.at ?_
  refine wpAny_holding (wpAny_bind (l2.at ?_))
  refine wpAny_bind (wpAny_call (codeAny_mono z fun r s' y => ?_))
  rcases r with e | (v | _ | _ | _) <;> first | exact y | exact y.elim | skip
  obtain ⟨rfl, y⟩ := y
  first
    | exact wpAny_pure (wpAny_pure y)
    | (wp_walk; exact y)
theorem kx_tc {M : Model} {E : Value → Shared → Prop} {us : List Value} {kw : List (Str × Value)} {Q : Unit → Shared → Prop} (lC : h.get? C = some (excClassObj nm q C N bs bm hdct sn sub ab col dd k0 k1 k2 k3 k5 newId))
    (z : Q () ⟨h, g, d, t, os⟩) : wpAny M A (checkBuiltinCall "type.__call__" ⟨.ref C :: us, kw⟩) Q E ⟨h, g, d, t, os⟩ := by
  have f3 := tc_sub
  have ty : (⟨h, g, d, t, os⟩ : Shared).TypeIs (.ref C) "type" := ⟨_, lC, rfl⟩
  simp only [checkBuiltinCall, tc_kind, tc_split]
  repeat (any_goals (first | assumption | with_reducible refine wpAny_loadPart_at lC ?_ | with_reducible refine wpAny_onRaise ?_ | with_reducible refine wpAny_map ?_ | wp_step))
theorem kx_call (F : ExcBaseFacts B newId initId bmB) (hT : ∀ X : String, bm.contains (.type X) = bmB.contains (.type X)) {us : List Value} {kw : List (Str × Value)} {f : Addr}
    (lC : h.get? C = some (excClassObj nm q C N bs bm hdct sn sub ab col dd k0 k1 k2 k3 k5 newId))
    (hi : W.Looks (model prog w) h (typeLookup (.ref C) "__init__") (some (.ref f))) (hb : ∀ self, W.Looks (model prog w) h (bindSpecial (.ref f) self) (.ref f, [self])) (small : us.length ≤ sizeLine)
    (z : codeAny (model prog w) (A.under (.builtin "type.__call__" ⟨.ref C :: us, kw⟩)) (.call (.ref f) ⟨.ref (h.objs.size + 1) :: us, kw⟩) (W.InitBack (h.objs.size + 1) R)
      ⟨(h.push (W.kdv_tup us)).push (excO C h.objs.size), g, d, t, os⟩) :
    codeAny (model prog w) A (.call (.ref C) ⟨us, kw⟩) R ⟨h, g, d, t, os⟩ := by
  have f1 := tc_lookup
  have f2 := tc_bind (.ref C)
  have ty : (⟨h, g, d, t, os⟩ : Shared).TypeIs (.ref C) "type" := ⟨_, lC, rfl⟩
  refine codeAny_of_tree ?_
  show wpAny _ _ (callAny (.ref C) _) _ _ _
  repeat (any_goals (first | assumption | with_reducible refine wpAny_loadPart_at lC ?_ | wp_step))
  refine ⟨rfl, ?_⟩
  refine codeAny_call_builtin_at (Code.quiet_builtin _ (by decide +kernel)) entry_typeCall ?_
  refine kx_tc lC (kx_type F hT lC hi hb small ?_)
  refine codeAny_mono z fun r s' y => ?_
  rcases r with e | (v | _ | _ | _) <;> exact y
end
end L2
namespace L2
open PySem PySem.Spec PyProof.Rows
/-- what is asked of a class of errors, to make one -/
structure ExB (K : PySem.W.Frag) (C : Addr) : Prop where
  ex : ∃ (nw B ini : String) (bmB : List Value) (nm q : Str) (N : Addr) (bs bm : List Value) (sn : List Str) (sub : List Value) (ab : Bool) (col : Option Bool) (dd : Option Addr) (c0 c1 c2 c3 c5 : Option Value),
    ExcBaseFacts B nw ini bmB ∧ (∀ Y : String, bm.contains (.type Y) = bmB.contains (.type Y)) ∧ K.lookup C = some (excClassObj nm q C N bs bm true sn sub ab col dd c0 c1 c2 c3 c5 nw)
  kp : PySem.W.keepIn K (.ref C) = true
theorem exb_v {K : PySem.W.Frag} {C : Addr} (T : OexC K C) : ExB K C := by
  obtain ⟨nm, q, N, bs, bm, sn, sub, ab, col, dd, k0, k1, k2, k3, k5, hC, hbm⟩ := T.cls
  exact ⟨⟨_, _, _, _, nm, q, N, bs, bm, sn, sub, ab, col, dd, k0, k1, k2, k3, k5, F.excBase_ValueError, fun Y => PySem.HandSPX.refsVE_contains Y bm hbm, hC⟩, T.kC⟩
theorem exb_o {K : PySem.W.Frag} {C : Addr} {nw ini : String} {tl : List Value} (U : Under nw ini tl) (T : OvC K C nw tl) : ExB K C := by
  obtain ⟨nm, q, N, bs, sn, sub, ab, col, dd, k0, k1, k2, k3, k5, hC⟩ := T.at_
  obtain ⟨B, base⟩ := U.base
  exact ⟨⟨_, _, _, _, nm, q, N, bs, tl, sn, sub, ab, col, dd, k0, k1, k2, k3, k5, base, fun Y => rfl, hC⟩, T.kC⟩
/-- C(e, ..), the error as a value -/
def tMkE (C : Addr) (sp : Sp) (ta : TA) : TE := fun σ H Q => ta σ H fun vs H1 => vs.length ≤ 1000 ∧ ∀ a, H1 a = none → sp (.ref a :: (vs ++ [])) (upd H1 a (exo a C none)) (fun v H2 => v = .non ∧ Q (.ref a) H2) (fun _ _ _ => False)
/-- C(k = e, ..), the error as a value -/
def tMkK (C : Addr) (sp : Sp) (n : Nat) (gV : List V → List V → List V) (tk : TA) : TE := fun σ H Q => tk σ H fun zs H1 => zs.length = n ∧ ∀ a, H1 a = none → sp (gV [.ref a] zs) (upd H1 a (exo a C none)) (fun v H2 => v = .non ∧ Q (.ref a) H2) (fun _ _ _ => False)
section
variable {X : Cx} {CX : CXT} {x : Str} {C fI : Addr} {k : Nat} {fd : FuncData} {ps ks : List Str} {sp : Sp} {e : Expr} {es : List Expr} {ta tk : TA} {p pos : Pos} {kws : List Keyword} {g : List Value → List Value → List Value} {gV : List V → List V → List V}
theorem pe_mkE (T : ExB X.K C) (iC : PySem.W.findIn X.K (.ref C) "__init__" = some (some (.ref fI)))
    (tI : PySem.W.typeIn X.K (.ref fI) = some (.type "function")) (F1 : FnOk X.prog X.w X.K X.mg X.base CX k fI fd ps sp) (hr : Room (k + 1) X.A) (hb : Binds X.K fd ps []) (hx : Passes CX X (fun _ _ _ => False)) (hg : Gl X x)
    (hm : X.mg x = some (.ref C)) (ha : PA X (e :: es) ta) (hdb : (x == ("__debug__" : Str)) = false := by decide) (he : starEach (e :: es) X.env = (false, eval e X.env) :: starEach es X.env := by rfl)
    (hpl : (backTo pos (starEach es X.env)).any (·.1) = false := by rfl) : PE X (.Call (.Name x p) (e :: es) [] pos) (tMkE C sp ta) := by
  refine ⟨fun pins s σ H Q I h => ?_⟩
  obtain ⟨nw, B, ini, bmB, nm, q, N, bs, bm, sn, sub, ab, col, dd, c0, c1, c2, c3, c5, base, hT, look⟩ := T.ex
  refine wpAny_Call_Name_kw (ld_glob I hg hm (PySem.W.callWith_K (h₀ := X.base) I.ok.mod.kin T.kp (thn (ha.run pos pins s σ H _ I h) fun us s1 hh => ?_) he hpl) hdb)
  obtain ⟨vs, H1, I1, r1, hz, q1⟩ := hh
  refine ⟨I1.kIn, ?_⟩
  show wpAny _ _ (call (.ref C) us) _ _ _
  obtain ⟨A0, ga, dr, tk, os⟩ := s1
  have big : A0.objs.size ≤ A0.objs.size + 1 := Nat.le_succ _
  have hq := q1 (A0.objs.size + 1) (I1.hok.fresh big)
  have kk : ∀ b o, A0.get? b = some o → ((A0.push (PySem.W.kdv_tup us)).push (PySem.HandSPX.excO C A0.objs.size)).get? b = some o := fun b o z => Heap.get?_push_of_some _ (Heap.get?_push_of_some _ z)
  have at1 : ((A0.push (PySem.W.kdv_tup us)).push (PySem.HandSPX.excO C A0.objs.size)).get? (A0.objs.size + 1) = some (PySem.HandSPX.excO C A0.objs.size) := by heap_get
  have I2 : Inv X pins σ (upd H1 (A0.objs.size + 1) (exo (A0.objs.size + 1) C none)) ⟨(A0.push (PySem.W.kdv_tup us)).push (PySem.HandSPX.excO C A0.objs.size), ga, dr, tk, os⟩ :=
    I1.laid (t' := tk) (a := A0.objs.size + 1) (o := exo (A0.objs.size + 1) C none) (h' := (A0.push (PySem.W.kdv_tup us)).push (PySem.HandSPX.excO C A0.objs.size)) kk big (exo_ok at1)
  have r2 : Vals (V.ref (A0.objs.size + 1) :: (vs ++ [])) (Value.ref (A0.objs.size + 1) :: (us ++ [])) := .cons rfl (r1.append .nil)
  have len2 : (Value.ref (A0.objs.size + 1) :: us ++ []).length = ps.length := r2.length.symm.trans (F1.len _ _ _ _ hq)
  have bb := hb ⟨(A0.push (PySem.W.kdv_tup us)).push (PySem.HandSPX.excO C A0.objs.size), ga, dr, tk, os⟩ (Value.ref (A0.objs.size + 1) :: us) I2.kIn len2
  rw [List.cons_append] at bb
  have small : us.length ≤ sizeLine := by
    have e1 := Paired.length r1
    rw [sizeLine_eq]
    omega
  refine wpAny_call (kx_call base hT (kw := []) (I1.kIn _ _ look) (PySem.W.looks_findIn I1.kIn iC) (fun self => PySem.W.bind_fn I1.kIn self tI) small (codeAny_mono (F1.run _ X.stack _ _ ⟨Value.ref (A0.objs.size + 1) :: us, []⟩ (Value.ref (A0.objs.size + 1) :: (us ++ [])) _ _ (fun _ _ _ => False) (hr.make C us []) (I2.env0.make C us []) bb r2 hq) fun r s' hq' => ?_))
  match r, hq' with
  | .error er, z => exact hx pins σ _ _ er s' I2 z
  | .ok (.ret u), z =>
    obtain ⟨v, H2, I3, rv, ev, q2⟩ := I2.after z
    subst ev
    exact ⟨rv, V.ref (A0.objs.size + 1), H2, I3, rfl, q2⟩
  | .ok .next, z => exact z.elim
  | .ok .brk, z => exact z.elim
  | .ok .cont, z => exact z.elim
theorem pe_mkK (T : ExB X.K C) (iC : PySem.W.findIn X.K (.ref C) "__init__" = some (some (.ref fI)))
    (tI : PySem.W.typeIn X.K (.ref fI) = some (.type "function")) (F1 : FnOk X.prog X.w X.K X.mg X.base CX k fI fd ps sp) (hr : Room (k + 1) X.A) (hb : KBn X.K fd ps 1 ks g gV) (hx : Passes CX X (fun _ _ _ => False)) (hg : Gl X x)
    (hm : X.mg x = some (.ref C)) (hkw : PK X kws tk)
    (hall : (backToKw pos (keywordEach kws X.env)).all (·.1.isSome) = true := by rfl) (hks : (backToKw pos (keywordEach kws X.env)).filterMap (·.1) = ks := by rfl) (hdb : (x == ("__debug__" : Str)) = false := by decide)
    (hpl : ((backTo pos (starEach [] X.env)).any (·.1) || (backToKw pos (keywordEach kws X.env)).any (·.1.isNone)) = false := by rfl) :
    PE X (.Call (.Name x p) [] kws pos) (tMkK C sp ks.length gV tk) := by
  refine ⟨fun pins s σ H Q I h => ?_⟩
  obtain ⟨nw, B, ini, bmB, nm, q, N, bs, bm, sn, sub, ab, col, dd, c0, c1, c2, c3, c5, base, hT, look⟩ := T.ex
  refine wpAny_Call_Name_kw (ld_glob I hg hm ?_ hdb)
  refine PySem.W.callWith_KW0 (h₀ := X.base) I.ok.mod.kin T.kp hall ?_ hpl
  refine thn (hkw.run pos pins s σ H _ I h) fun ws s1 hh => ?_
  obtain ⟨zs, H1, I1, rz, l2, q1⟩ := hh
  refine ⟨I1.kIn, ?_⟩
  rw [hks]
  show wpAny _ _ (call (.ref C) [] (ks.zip ws)) _ _ _
  obtain ⟨A0, ga, dr, tk, os⟩ := s1
  have big : A0.objs.size ≤ A0.objs.size + 1 := Nat.le_succ _
  have hq := q1 (A0.objs.size + 1) (I1.hok.fresh big)
  have kk : ∀ b o, A0.get? b = some o → ((A0.push (PySem.W.kdv_tup [])).push (PySem.HandSPX.excO C A0.objs.size)).get? b = some o := fun b o z => Heap.get?_push_of_some _ (Heap.get?_push_of_some _ z)
  have at1 : ((A0.push (PySem.W.kdv_tup [])).push (PySem.HandSPX.excO C A0.objs.size)).get? (A0.objs.size + 1) = some (PySem.HandSPX.excO C A0.objs.size) := by heap_get
  have I2 : Inv X pins σ (upd H1 (A0.objs.size + 1) (exo (A0.objs.size + 1) C none)) ⟨(A0.push (PySem.W.kdv_tup [])).push (PySem.HandSPX.excO C A0.objs.size), ga, dr, tk, os⟩ :=
    I1.laid (t' := tk) (a := A0.objs.size + 1) (o := exo (A0.objs.size + 1) C none) (h' := (A0.push (PySem.W.kdv_tup [])).push (PySem.HandSPX.excO C A0.objs.size)) kk big (exo_ok at1)
  have me : Vals [V.ref (A0.objs.size + 1)] [Value.ref (A0.objs.size + 1)] := .cons rfl .nil
  have bb := hb.to ⟨(A0.push (PySem.W.kdv_tup [])).push (PySem.HandSPX.excO C A0.objs.size), ga, dr, tk, os⟩ [Value.ref (A0.objs.size + 1)] ws I2.kIn rfl (rz.length.symm.trans l2)
  refine wpAny_call (kx_call base hT (us := []) (kw := ks.zip ws) (I1.kIn _ _ look) (PySem.W.looks_findIn I1.kIn iC) (fun self => PySem.W.bind_fn I1.kIn self tI) (Nat.zero_le _) (codeAny_mono (F1.run _ X.stack _ _ ⟨[Value.ref (A0.objs.size + 1)], ks.zip ws⟩ (g [Value.ref (A0.objs.size + 1)] ws) _ _ (fun _ _ _ => False) (hr.make C [] (ks.zip ws)) (I2.env0.make C [] (ks.zip ws)) bb (hb.rel me rz) hq) fun r s' hq' => ?_))
  match r, hq' with
  | .error er, z => exact hx pins σ _ _ er s' I2 z
  | .ok (.ret u), z =>
    obtain ⟨v, H2, I3, rv, ev, q2⟩ := I2.after z
    subst ev
    exact ⟨rv, V.ref (A0.objs.size + 1), H2, I3, rfl, q2⟩
  | .ok .next, z => exact z.elim
  | .ok .brk, z => exact z.elim
  | .ok .cont, z => exact z.elim
end
/-! ### the class of an error that is made, its fields -/
theorem exo_inst {X : Cx} {pins : List (Addr × Obj)} {σ : St} {H : Hp} {s : Shared} {a D : Addr} {d : Option Addr} (I : Inv X pins σ H s) (h : H a = some (exo a D d)) (hd : d = none ∨ ∃ dx fs, d = some dx ∧ H dx = some (exd dx fs)) :
    ∃ ox od, PySem.W.InstAt s.heap a ox D od ∧ ∀ dx, d = some dx → ∃ o, od = some o ∧ s.heap.get? dx = some o := by
  obtain ⟨t1, e1⟩ := exo_at I.hok h
  rcases hd with rfl | ⟨dx, fs, rfl, hx⟩
  · exact ⟨_, none, ⟨e1, rfl, rfl, trivial⟩, fun dx q => by cases q⟩
  · obtain ⟨mA, hns, _⟩ := exd_at I.hok hx
    obtain ⟨od, _, _, ho, _⟩ := id hns
    exact ⟨_, some od, ⟨e1, rfl, rfl, ho⟩, fun d2 q => by cases q; exact ⟨od, rfl, ho⟩⟩
def rIsO (K : PySem.W.Frag) : List V → Hp → VK → Prop := fun xs H Q => ∃ (a D : Addr) (d : Option Addr) (c : V) (u : Value) (b : Bool), xs = [.ref a, c] ∧ ClsV c u ∧ H a = some (exo a D d) ∧ (d = none ∨ ∃ dx fs, d = some dx ∧ H dx = some (exd dx fs)) ∧ ExcC K D ∧
  PySem.W.kitOne K (.ref D) u = some b ∧ Q (.bl b) H
theorem k_isO {X : Cx} {K : PySem.W.Frag} (e : X.K = K := by rfl) : CallR X (.builtin "isinstance") (rIsO K) := by
  subst e
  intro pins s σ H xs us Q I r h
  obtain ⟨a, D, d, c, cv, b, rfl, kc, ha, hd, EC, kit, q⟩ := h
  obtain ⟨u1, u2, rfl, r1, r2⟩ := vals2 r
  cases r1
  have e2 := kc.eq r2
  subst e2
  obtain ⟨ox, od, J, _⟩ := exo_inst I ha hd
  have look : PySem.W.KitX X.K (.ref a) (.ref D) (fun h => PySem.W.InstAt h a ox D od) := by
    obtain ⟨cd, hcd, _⟩ := PySem.W.any_some EC.hd
    have at_ : ∃ c1 d1 cd1 sl1, X.K.lookup D = some ⟨c1, d1, .cls cd1, sl1⟩ := by
      unfold PySem.W.clsIn at hcd
      split at hcd
      · rename_i c1 d1 cd1 sl1 ho
        exact ⟨_, _, _, _, ho⟩
      · cases hcd
    obtain ⟨c1, d1, cd1, sl1, lk⟩ := at_
    refine ⟨fun _ _ _ J => J.type, fun M h kin _ => fun A' Q' E' s' k q => ?_, fun h tp dd its n sl kin htp => Bool.eq_false_iff.mpr fun z => ?_, fun kin J q => PySem.W.exc_class EC kin J q⟩
    · unfold isType loadHead
      exact wpAny_bind (wpAny_loadPart (k _ _ (kin _ _ lk)) (wpAny_pure q))
    · have z2 : D = tp := Value.ref.inj (beq_iff_eq.mp z)
      rw [← z2, kin _ _ lk] at htp
      cases htp
  exact PySem.W.kia_one look I.kIn J kit (fun z => nomatch z) fun tk => ⟨.bl b, H, I.kept (t' := tk) fun _ _ z => z, rfl, q⟩
/-- e.n of an error that is made -/
def tXo (K : PySem.W.Frag) (n : Str) (te : TE) : TE := fun σ H Q => te σ H fun x H1 => ∃ (a C dd : Addr) (fs : List (Str × V)) (v : V), x = .ref a ∧ H1 a = some (exo a C (some dd)) ∧ XfC K C ∧ PySem.W.findIn K (.ref C) n = some none ∧
  H1 dd = some (exd dd fs) ∧ fs.lookup n = some v ∧ Q v H1
theorem pe_xo {X : Cx} {K : PySem.W.Frag} {e : Expr} {te : TE} {pos : Pos} {n : Str} (he : PE X e te) (hK : X.K = K := by rfl) (hb : attributeBase e n X.env (eval e X.env) = eval e X.env := by rfl) : PE X (.Attribute e n pos) (tXo K n te) := by
  subst hK
  refine ⟨fun pins s σ H Q I h => attr_of hb (thn (he.run pins s σ H _ I h) fun u s1 hh => ?_)⟩
  obtain ⟨x, H1, I1, rx, a, C, dd, fs, v, rfl, ha, T, hno, hx, hl, q⟩ := hh
  cases rx
  obtain ⟨ox, od, J, at_⟩ := exo_inst I1 ha (.inr ⟨dd, fs, rfl, hx⟩)
  obtain ⟨o, rfl, ho⟩ := at_ dd rfl
  obtain ⟨mA, hns, hr⟩ := exd_at I1.hok hx
  obtain ⟨o2, ho2, hl2⟩ := lookIn_ns hns
  rw [ho] at ho2
  cases ho2
  obtain ⟨u, hu, ru⟩ := RelO.some_of (v := v) (o := mA n) (by rw [← hl]; exact hr n)
  exact HandSPX.exc_get I1.kIn J T.ga T.gg T.exC (PySem.W.findObj_own T.hdC hno rfl (by rw [hl2, hu])) (handed_of ru) ⟨v, H1, I1.tok _, ru, q⟩
end L2

namespace My
open PySem PySem.Spec PyProof.Rows L2
/-! ### errors that are made -/
def ExAt (H : Hp) (a C : Addr) : List (Str × V) → Prop
  | [] => H a = some (exo a C none)
  | f :: fs => ∃ dx, H a = some (exo a C (some dx)) ∧ H dx = some (exd dx (f :: fs))
theorem ExAt.same {H H' : Hp} {a C : Addr} {fs : List (Str × V)} (h : ExAt H a C fs) (s : Same H H') : ExAt H' a C fs := by
  cases fs with
  | nil => exact s _ _ h
  | cons f fs =>
    obtain ⟨dx, h1, h2⟩ := h
    exact ⟨dx, s _ _ h1, s _ _ h2⟩
theorem ExAt.is {H : Hp} {a C : Addr} {fs : List (Str × V)} (h : ExAt H a C fs) : ∃ d, H a = some (exo a C d) ∧ (d = none ∨ ∃ dx fs, d = some dx ∧ H dx = some (exd dx fs)) := by
  cases fs with
  | nil => exact ⟨none, h, .inl rfl⟩
  | cons f fs =>
    obtain ⟨dx, h1, h2⟩ := h
    exact ⟨some dx, h1, .inr ⟨dx, _, rfl, h2⟩⟩
def sp_exc2 (C : Addr) (f1 f2 : Str) : Sp := fun vs H Q _ => ∃ (a : Addr) (w1 w2 : V), vs = [.ref a, w1, w2] ∧ H a = some (exo a C none) ∧
  ∀ dx, H dx = none → dx ≠ a → Q .non (upd (upd (upd H dx (exd dx [(f1, w1)])) a (exo a C (some dx))) dx (exd dx [(f2, w2), (f1, w1)]))
section
variable {C : Addr} {f1 f2 : Str} {w w2 : V} {H : Hp} {Q : VK}
theorem made0 (k : ∀ a H', Same H H' → ExAt H' a C [] → Q (.ref a) H') : ∀ a, H a = none → sp_excN C [.ref a, w] (upd H a (exo a C none)) (fun v H2 => v = .non ∧ Q (.ref a) H2) (fun _ _ _ => False) :=
  fun a ha => ⟨a, w, rfl, upd_same, rfl, k a _ (same_upd ha _) upd_same⟩
theorem made1 (k : ∀ a H', Same H H' → ExAt H' a C [(f1, w)] → Q (.ref a) H') : ∀ a, H a = none → sp_exc C f1 [.ref a, w] (upd H a (exo a C none)) (fun v H2 => v = .non ∧ Q (.ref a) H2) (fun _ _ _ => False) := by
  refine fun a ha => ⟨a, w, rfl, upd_same, fun dx hdx hne => ⟨rfl, k a _ (fun b o q => ?_) ⟨dx, upd_same, by rw [upd_ne hne, upd_same]⟩⟩⟩
  have b1 := ne_of_none q ha
  rw [upd_ne hne] at hdx
  have b2 := ne_of_none q hdx
  rw [upd_ne b1, upd_ne b2, upd_ne b1]
  exact q
theorem made2 (k : ∀ a H', Same H H' → ExAt H' a C [(f2, w2), (f1, w)] → Q (.ref a) H') : ∀ a, H a = none → sp_exc2 C f1 f2 [.ref a, w, w2] (upd H a (exo a C none)) (fun v H2 => v = .non ∧ Q (.ref a) H2) (fun _ _ _ => False) := by
  refine fun a ha => ⟨a, w, w2, rfl, upd_same, fun dx hdx hne => ⟨rfl, k a _ (fun b o q => ?_) ⟨dx, by rw [upd_ne hne.symm, upd_same], upd_same⟩⟩⟩
  have b1 := ne_of_none q ha
  rw [upd_ne hne] at hdx
  have b2 := ne_of_none q hdx
  rw [upd_ne b2, upd_ne b1, upd_ne b2, upd_ne b1]
  exact q
end
/-- such a class with two fields -/
structure ExcT2 (K : PySem.W.Frag) (mg : Str → Option Value) (name qual f1 f2 : Str) (st : Stmt) where
  C : Addr
  f : Addr
  d : FuncData
  m : mg name = some (.ref C)
  ox : OexC K C
  iC : PySem.W.findIn K (.ref C) "__init__" = some (some (.ref f))
  tI : PySem.W.typeIn K (.ref f) = some (.type "function")
  F : Fun K "__init__" qual st f d
  b : Binds K d ["self", f1, f2] []
  nf : PySem.W.findIn K (.ref C) f1 = some none
  nf2 : PySem.W.findIn K (.ref C) f2 = some none
  xf : XfC K C
  te : PySem.W.exmOne K (.ref C) (.ref C) = some true
def exc_mk2 {K : PySem.W.Frag} {h : Heap} {mg : Str → Option Value} {name qual f1 f2 : Str} {st : Stmt} (X : K.In h) (G : h.Ns mainGlobals mg) {C f : Addr} {d : FuncData} {nm q : Str} {N : Addr} {bs : List Value} {sn : List Str} {sub : List Value}
    {ab : Bool} {col : Option Bool} {dd : Option Addr} {m0 m1 m2 m3 m5 : Option Value} (F : Fun K "__init__" qual st f d) (b : Binds K d ["self", f1, f2] [])
    (aC : PySem.W.nsIn K mainGlobals name = some (some (.ref C)))
    (look : K.lookup C = some (excClassObj nm q C N bs [.type "ValueError", .type "Exception", .type "BaseException", .type "object"] true sn sub ab col dd m0 m1 m2 m3 m5 "ValueError.__new__"))
    (sa : PySem.W.findIn K (.ref C) "__setattr__" = some (some (.builtin "object.__setattr__")))
    (ga : PySem.W.findIn K (.ref C) "__getattribute__" = some (some (.builtin "BaseException.__getattribute__")))
    (gg : PySem.W.findIn K (.ref C) "__getattr__" = some none) (n1 : PySem.W.findIn K (.ref C) f1 = some none) (n2 : PySem.W.findIn K (.ref C) f2 = some none)
    (ini : PySem.W.findIn K (.ref C) "__init__" = some (some (.ref f))) (ti : PySem.W.typeIn K (.ref f) = some (.type "function"))
    (kC : PySem.W.keepIn K (.ref C) = true) (eC : PySem.W.subIn K (.ref C) (.type "BaseException") = some true) (tC : PySem.W.typeIn K (.ref C) = some (.type "type"))
    (hC : PySem.W.hasDictIn K C = true) (iC : PySem.W.isClsIn K C = true) (sC : PySem.W.subIn K (.ref C) (.ref C) = some true) : ExcT2 K mg name qual f1 f2 st where
  C := C
  f := f
  d := d
  m := PySem.W.mg_of X G aC
  ox := ⟨⟨nm, q, N, bs, _, sn, sub, ab, col, dd, m0, m1, m2, m3, m5, look, by decide +kernel⟩, sa, eC, tC, kC⟩
  iC := ini
  tI := ti
  F := F
  b := b
  nf := n1
  nf2 := n2
  xf := ⟨ga, gg, eC, hC⟩
  te := exm_me eC iC tC sC
/-- what a maker binds, its arguments by names -/
theorem vals_pickX {zs : List V} {ws : List Value} (h : Vals zs ws) : ∀ is : List Nat, Vals (is.map fun i => zs.getD i .non) (is.map fun i => ws.getD i .none)
  | [] => .nil
  | i :: r => by
    have gen : ∀ {zs : List V} {ws : List Value}, Vals zs ws → ∀ i, RelV (zs.getD i .non) (ws.getD i .none) := fun h => by
      induction h with
      | nil => exact fun i => rfl
      | cons h1 _ ih =>
        intro i
        cases i with
        | zero => exact h1
        | succ i => exact ih i
    exact .cons (gen h i) (vals_pickX h r)
theorem kb1 {K : PySem.W.Frag} {x qual : Str} {st : Stmt} {f : Addr} {fd : FuncData} (F : Fun K x qual st f fd) {ps ks : List Str} (is : List Nat)
    (h : ∀ (kV doc pm : Value) (an : Option Addr) (cdv ct : Value) (u : Value) (ws : List Value), ws.length = ks.length → bindArgs (PySem.W.fnOf x qual (defArgs st) (defBody st) (defScope st) .none kV doc pm an cdv ct) ⟨[u], ks.zip ws⟩ = pure (ps.zip (u :: is.map fun i => ws.getD i .none))) :
    KBn K fd ps 1 ks (fun us ws => us ++ is.map fun i => ws.getD i .none) (fun vs zs => vs ++ is.map fun i => zs.getD i .non) := by
  obtain ⟨oc, od, kV, doc, pm, an, cdv, ct, osl, rfl, lk, hcd⟩ := F.ex
  refine ⟨fun s us ws X l1 l2 => ?_, fun r1 r2 => r1.append (vals_pickX r2 is)⟩
  match us, l1 with
  | [u], _ => exact .of_eq (h kV doc pm an cdv ct u ws l2)
/-! ### of which of Python's own classes they are -/
theorem kit_vT {K : PySem.W.Frag} {C : Addr} (T : OexC K C) (Y : String) (hY : PySem.W.kitMeta Y = true) :
    PySem.W.kitOne K (.ref C) (.type Y) = some ([Value.type "ValueError", .type "Exception", .type "BaseException", .type "object"].contains (.type Y)) := by
  obtain ⟨nm, q, N, bs, bm, sn, sub, ab, col, dd, k0, k1, k2, k3, k5, hC, hbm⟩ := T.cls
  have hc : PySem.W.clsIn K C = some { name := nm, bases := bs, mro := .ref C :: bm, ns := N, qualname := q, hasDict := true, slotNames := sn, subclasses := sub, abstract := ab, collection := col, hasDel := false } := by
    unfold PySem.W.clsIn
    rw [hC] <;> rfl
  have e1 : (Value.ref C == Value.type Y) = false := rfl
  unfold PySem.W.kitOne
  rw [e1, if_neg Bool.false_ne_true]
  unfold PySem.W.kitCls
  dsimp only
  rw [if_pos hY]
  unfold PySem.W.subIn
  dsimp only
  unfold PySem.W.mroIn
  rw [hc, Option.bind_some]
  show some ((Value.ref C :: bm).contains (Value.type Y)) = _
  rw [List.contains_cons, PySem.HandSPX.refsVE_contains Y bm hbm]
  rfl
theorem kit_oT {K : PySem.W.Frag} {C : Addr} {nw : String} {tl : List Value} (T : OvC K C nw tl) (Y : String) (hY : PySem.W.kitMeta Y = true) : PySem.W.kitOne K (.ref C) (.type Y) = some (tl.contains (.type Y)) := by
  obtain ⟨nm, q, N, bs, sn, sub, ab, col, dd, k0, k1, k2, k3, k5, hC⟩ := T.at_
  have hc : PySem.W.clsIn K C = some { name := nm, bases := bs, mro := .ref C :: tl, ns := N, qualname := q, hasDict := true, slotNames := sn, subclasses := sub, abstract := ab, collection := col, hasDel := false } := by
    unfold PySem.W.clsIn
    rw [hC] <;> rfl
  have e1 : (Value.ref C == Value.type Y) = false := rfl
  unfold PySem.W.kitOne
  rw [e1, if_neg Bool.false_ne_true]
  unfold PySem.W.kitCls
  dsimp only
  rw [if_pos hY]
  unfold PySem.W.subIn
  dsimp only
  unfold PySem.W.mroIn
  rw [hc, Option.bind_some]
  show some ((Value.ref C :: tl).contains (Value.type Y)) = _
  rw [List.contains_cons]
  rfl
/-! ### repr of a list of things, some of them a dict -/
inductive Dz (K : PySem.W.Frag) (H : Hp) : V → PyData → Prop
  | base {v : V} {d : PyData} : Dp K H v d → d.hasDict = false → d.showable = true → Dz K H v d
  | dct {a : Addr} {x : Str} {i : Int} : H a = some (.dK [(.inr x, .int i)]) → (PyData.dict [(.str x, .int i)]).showable = true → Dz K H (.ref a) (.dict [(.str x, .int i)])
inductive DzAll (K : PySem.W.Frag) (H : Hp) : List V → List PyData → Prop
  | nil : DzAll K H [] []
  | cons {v : V} {vs : List V} {d : PyData} {ds : List PyData} (h : Dz K H v d) (r : DzAll K H vs ds) : DzAll K H (v :: vs) (d :: ds)
theorem Dz.same {K : PySem.W.Frag} {H H' : Hp} {v : V} {d : PyData} (h : Dz K H v d) (s : Same H H') : Dz K H' v d := by
  cases h with
  | base h1 h2 h3 => exact .base (h1.same_at s) h2 h3
  | dct h1 h2 => exact .dct (s _ _ h1) h2
inductive EachR (h : Heap) : List Value → List PyData → Prop
  | nil : EachR h [] []
  | cons {v : Value} {vs : List Value} {d : PyData} {ds : List PyData} {as : List Addr} (r : Reads h v d as) (hs : d.showable = true) (hd : d.hasDict = true → sysModules ∉ as) (rest : EachR h vs ds) : EachR h (v :: vs) (d :: ds)
theorem EachR.reads {h : Heap} {vs : List Value} {ds : List PyData} (e : EachR h vs ds) : ∃ as, ReadsAll h vs ds as := by
  induction e with
  | nil => exact ⟨_, .nil⟩
  | cons r _ _ _ ih =>
    obtain ⟨as, q⟩ := ih
    exact ⟨_, .cons r q⟩
theorem EachR.rep {prog : Program} {w : World} {h : Heap} {vs : List Value} {ds : List PyData} (e : EachR h vs ds) (hz : ∀ t ∈ PyData.shownAll ds, t.length ≤ sizeLine) :
    ∃ bs, ReadAtMost h (PyData.depthAll ds) bs ∧ ReprAllK prog w bs h (PyData.depthAll ds) vs (PyData.shownAll ds) := by
  induction e with
  | nil => exact ⟨[], (fun _ z => nomatch z), by simp only [PyData.shownAll]; exact .nil⟩
  | cons r hs hd _ ih =>
    obtain ⟨b1, m1, k1⟩ := ReprK.of_reads (prog := prog) (w := w) r hs hd (hz _ (by simp only [PyData.shownAll]; exact List.mem_cons_self ..))
    obtain ⟨b2, m2, k2⟩ := ih fun t ht => hz t (by simp only [PyData.shownAll]; exact List.mem_cons_of_mem _ ht)
    refine ⟨b1 ++ b2, fun b hm => ?_, ?_⟩
    · simp only [PyData.depthAll]
      rcases List.mem_append.mp hm with q | q
      · obtain ⟨d', as', r', z⟩ := m1 b q
        exact ⟨d', as', r', Nat.le_trans z (Nat.le_max_left _ _)⟩
      · obtain ⟨d', as', r', z⟩ := m2 b q
        exact ⟨d', as', r', Nat.le_trans z (Nat.le_max_right _ _)⟩
    · simp only [PyData.depthAll, PyData.shownAll]
      exact .cons ((k1.more fun b hb => List.mem_append_left _ hb).level_le (Nat.le_max_left _ _)) (k2.more_le (fun b hb => List.mem_append_right _ hb) (Nat.le_max_right _ _))
section
variable {X : Cx} {pins : List (Addr × Obj)} {σ : L2.St} {H : Hp} {s : Shared}
theorem Dz.reads (I : Inv X pins σ H s) {v : V} {d : PyData} {u : Value} (h : Dz X.K H v d) (r : RelV v u) : ∃ as, Reads s.heap u d as ∧ (d.hasDict = true → sysModules ∉ as) ∧ d.showable = true := by
  cases h with
  | base h1 h2 h3 =>
    obtain ⟨as, q⟩ := Dp.reads I d v u h1 r
    exact ⟨as, q, fun z => (Bool.noConfusion (z.symm.trans h2) : sysModules ∉ as), h3⟩
  | @dct a x i h1 h2 =>
    cases r
    obtain ⟨_, ns, vs, kv, o, es, ep, e1, e2, e3, _, e5, _⟩ := dk_of I.hok h1
    cases kv with
    | @cons p q ps qs hpq t =>
    cases t
    obtain ⟨q1, q2⟩ := q
    obtain ⟨e6, t6, e7⟩ := hpq
    cases e6
    dsimp only at e7
    subst e7
    obtain ⟨es⟩ := es
    have e5 : Pairs (mixKind X.prog X.w) es [(Sum.inr x, Value.int i t6)] := e5
    cases e5 with
    | @cons en _ es _ hk hv hn =>
    cases hn
    obtain ⟨z, t, z1, z2⟩ : ∃ z t, (Sum.inr x : Key) = Sum.inr z ∧ en.key = Value.str z t := by
      rcases keyIs_shape (k := .inr x) (v := en.key) hk with ⟨j, t, z1, _⟩ | ⟨z, t, z1, z2⟩
      · cases z1
      · exact ⟨z, t, z1, z2⟩
    cases z1
    have hv : en.val = Value.int i t6 := hv
    refine ⟨_, Reads.dict (kvs := [(.str x, .int i)]) e1 e2.1 e3 (as := []) (bs := []) ?_ ?_, fun _ => ?_, h2⟩
    · show ReadsAll _ [en.key] [.str x] []
      rw [z2]
      exact .cons (.str x t) .nil
    · show ReadsAll _ [en.val] [.int i] []
      rw [hv]
      exact .cons (.int i t6) .nil
    · show sysModules ∉ [a]
      intro z
      have z := List.mem_singleton.mp z
      rw [← z] at ns
      simp at ns
theorem DzAll.each (I : Inv X pins σ H s) : ∀ {vs : List V} {ds : List PyData} {us : List Value}, DzAll X.K H vs ds → Vals vs us → EachR s.heap us ds
  | _, _, _, .nil, .nil => .nil
  | _, _, _, .cons h r, .cons r1 r2 => by
    obtain ⟨as, q1, q2, q3⟩ := Dz.reads I h r1
    exact .cons q1 q3 q2 (DzAll.each I r r2)
end
def rReprZ (K : PySem.W.Frag) : List V → Hp → VK → Prop := fun xs H Q => ∃ (p : Addr) (v : V) (vs : List V) (ds : List PyData), xs = [.ref p] ∧ SqL K H p (v :: vs) ∧ DzAll K H (v :: vs) ds ∧ (PyData.list ds).depth ≤ 8 ∧ (PyData.list ds).shown.length ≤ sizeLine ∧ Q (.str (PyData.list ds).shown) H
theorem k_reprZ {X : Cx} {K : PySem.W.Frag} (hu : X.A.units + 64 < cLine) (hg : X.A.guards = some []) (e : X.K = K := by rfl) : CallR X (.builtin "repr") (rReprZ K) := by
  subst e
  intro pins s σ H xs us Q I r h
  obtain ⟨p, v, vs, ds, rfl, hs, hd, h8, hz, q⟩ := h
  obtain ⟨u, rfl, ru⟩ := vals1 r
  cases ru
  obtain ⟨its, rv, ⟨o, n, ho, hc, _, hda⟩, _⟩ := I.list hs
  have each := DzAll.each I hd rv
  obtain ⟨as, all⟩ := each.reads
  have hz' : (listText (PyData.shownAll ds)).length ≤ sizeLine := by simpa only [PyData.shown] using hz
  obtain ⟨bs, hb, hk⟩ := each.rep (prog := X.prog) (w := X.w) fun t ht => Nat.le_trans (listText_mem_le ht) hz'
  have hna : p ∉ bs := not_mem_of_deeper (.list ho hc hda all) (by simp only [PyData.depth]; omega) hb
  simp only [PyData.depth] at h8
  match its, rv with
  | it :: its, _ =>
  refine call_repr_slot (by omega) ⟨o, ho, hc⟩ F.slot_list_repr.toG ?_
  refine call_list_reprK ho hc hda hna (by simpa using hk.length_eq) (fun i y e => hk.item i y (by simpa using e)) hg (fun b _ => Clear.nil b) (by show X.A.units + 1 + (PyData.depthAll ds + 1) < cLine; omega) (fun _ _ e => e) (fun h' u tk hk' => ?_) hz'
  refine ⟨_, _, rfl, .str _, H, I.kept hk', ⟨_, rfl⟩, ?_⟩
  have q : Q (.str (PyData.list ds).shown) H := q
  rw [show (PyData.list ds).shown = listText (PyData.shownAll ds) by simp only [PyData.shown]] at q
  exact q
end My

namespace My
open PySem PySem.Spec PyProof.Rows L2
/-! ### errors that are made -/
abbrev marksV (i : Nat) : List V := [.bl (decide (0 = i)), .bl (decide (1 = i)), .bl (decide (2 = i)), .bl (decide (3 = i)), .bl (decide (4 = i)), .bl (decide (5 = i)), .bl (decide (6 = i)), .bl (decide (7 = i)), .bl (decide (8 = i))]
abbrev aboveV (i : Nat) : List V := [.bl (decide (i < 7)), .bl (decide (i = 7)), .bl (decide (i = 8)), .bl false, .bl false]
def sp__law_marks (CL : List Addr) : Sp := fun vs H Q _ => ∃ (a C : Addr) (i : Nat) (fs : List (Str × V)), vs = [.ref a] ∧ CL[i]? = some C ∧ ExAt H a C fs ∧ ∀ p H', Same H H' → H' p = some (.lst (marksV i)) → Q (.ref p) H'
def sp__law_above (CL : List Addr) : Sp := fun vs H Q _ => ∃ (a C : Addr) (i : Nat) (fs : List (Str × V)), vs = [.ref a] ∧ CL[i]? = some C ∧ ExAt H a C fs ∧ ∀ p H', Same H H' → H' p = some (.lst (aboveV i)) → Q (.ref p) H'
def fldL (x y : V) : List (List (Str × V)) := [[("place", x)], [("place", y)], [("place", x)], [("place", y)], [("part", x)], [("word", y), ("line", x)], [], [("most", x)], []]
inductive MadeA (H : Hp) : List Addr → List Addr → List (List (Str × V)) → Prop
  | nil : MadeA H [] [] []
  | cons {e C : Addr} {es CL : List Addr} {fs : List (Str × V)} {fl : List (List (Str × V))} (h : ExAt H e C fs) (r : MadeA H es CL fl) : MadeA H (e :: es) (C :: CL) (fs :: fl)
def sp__law_made (CL : List Addr) : Sp := fun vs H Q _ => ∃ (wy : Int) (x y : V), vs = [.int wy, x, y] ∧ ∀ p es H', Same H H' → H' p = some (.lst (es.map V.ref)) → MadeA H' es CL (fldL x y) → Q (.ref p) H'
abbrev somes : List PyData := [.none, .int 0, .int (-1), .int 7, .bool true, .str "", .str "form", .tuple [], .tuple [.int 1, .int 2], .list [.int 1, .int 2], .dict [(.str "a", .int 1)], .int (10 ^ 30), .tuple [.int 1, .tuple [.int 0, .int 2]], .bool false]
abbrev eight (x y : PyData) : PyData := .list [x, y, x, y, x, x, y, x]
theorem eight_ok : ∀ x ∈ somes, ∀ y ∈ somes, (eight x y).depth ≤ 8 ∧ (eight x y).shown.length ≤ sizeLine := by
  have h : somes.all (fun x => somes.all fun y => decide ((eight x y).depth ≤ 8) && decide ((eight x y).shown.length ≤ 2000)) = true := by decide +kernel
  intro x hx y hy
  have q := List.all_eq_true.mp (List.all_eq_true.mp h x hx) y hy
  simp only [Bool.and_eq_true, decide_eq_true_eq] at q
  exact ⟨q.1, Nat.le_trans q.2 (by rw [sizeLine_eq]; decide)⟩
def sp__law_right (K : PySem.W.Frag) : Sp := fun vs H Q _ => ∃ (wy : Int) (x y : V) (dx dy : PyData), vs = [.int wy, x, y] ∧ Dz K H x dx ∧ Dz K H y dy ∧ dx ∈ somes ∧ dy ∈ somes ∧ ∀ H', Same H H' → Q (.bl true) H'
theorem bt_ValueError : bootBuiltins "ValueError" = some (.type "ValueError") := by decide +kernel
theorem bt_OverflowError : bootBuiltins "OverflowError" = some (.type "OverflowError") := by decide +kernel
theorem bt_LookupError : bootBuiltins "LookupError" = some (.type "LookupError") := by decide +kernel
theorem bt_KeyError : bootBuiltins "KeyError" = some (.type "KeyError") := by decide +kernel
theorem bt_IndexError : bootBuiltins "IndexError" = some (.type "IndexError") := by decide +kernel
section
variable {K : PySem.W.Frag} {σ : L2.St} {H : Hp} {Q : VK} {a C : Addr} {fs : List (Str × V)} {c : V} {u : Value} {b : Bool}
theorem rd_isO (h0 : σ[0]? = some (some (V.ref a))) (hE : ExAt H a C fs) (ec : ExcC K C) (cv : ClsV c u) (kit : PySem.W.kitOne K (.ref C) u = some b) (q : Q (.bl b) H) : tCB (rIsO K) (tCons (tVar 0) (tCons (tC c) tNil)) σ H Q := by
  obtain ⟨d, h1, h2⟩ := hE.is
  exact ⟨_, h0, a, C, d, c, u, b, rfl, cv, h1, h2, ec, kit, q⟩
end
theorem MadeA.same {H H' : Hp} {es CL : List Addr} {fl : List (List (Str × V))} (h : MadeA H es CL fl) (s : Same H H') : MadeA H' es CL fl := by
  induction h with
  | nil => exact .nil
  | cons h _ ih => exact .cons (h.same s) ih
section
variable {σ : L2.St} {H : Hp} {Q : VK} {C : Addr} {f1 f2 : Str} {w w2 : V} {i j : Nat}
theorem rd_mk1 (h : σ[i]? = some (some w)) (k : ∀ a H', Same H H' → ExAt H' a C [(f1, w)] → Q (.ref a) H') : tMkE C (sp_exc C f1) (tCons (tVar i) tNil) σ H Q := ⟨w, h, (by show 1 ≤ 1000; decide), made1 (Q := Q) k⟩
theorem rd_mk0 (k : ∀ a H', Same H H' → ExAt H' a C [] → Q (.ref a) H') : tMkE C (sp_excN C) (tCons (tC w) tNil) σ H Q := ⟨(by show 1 ≤ 1000; decide), made0 (Q := Q) (w := w) k⟩
theorem rd_mk2 (h : σ[i]? = some (some w)) (h2 : σ[j]? = some (some w2)) (k : ∀ a H', Same H H' → ExAt H' a C [(f2, w2), (f1, w)] → Q (.ref a) H') : tMkE C (sp_exc2 C f1 f2) (tCons (tVar i) (tCons (tVar j) tNil)) σ H Q := ⟨w, h, w2, h2, (by show 2 ≤ 1000; decide), made2 (Q := Q) k⟩
theorem rd_kk1 {y : Str} (h : σ[i]? = some (some w)) (k : ∀ a H', Same H H' → ExAt H' a C [(f1, w)] → Q (.ref a) H') : tMkK C (sp_exc C f1) [y].length (fun vs zs => vs ++ List.map (fun i => zs.getD i V.non) [0]) (tCons (tVar i) tNil) σ H Q := ⟨w, h, rfl, made1 (Q := Q) k⟩
theorem rd_kk0 {y : Str} (k : ∀ a H', Same H H' → ExAt H' a C [] → Q (.ref a) H') : tMkK C (sp_excN C) [y].length (fun vs zs => vs ++ List.map (fun i => zs.getD i V.non) [0]) (tCons (tC w) tNil) σ H Q := ⟨rfl, made0 (Q := Q) (w := w) k⟩
theorem rd_kk2 {y z : Str} (h : σ[i]? = some (some w)) (h2 : σ[j]? = some (some w2)) (k : ∀ a H', Same H H' → ExAt H' a C [(f2, w2), (f1, w)] → Q (.ref a) H') : tMkK C (sp_exc2 C f1 f2) [y, z].length (fun vs zs => vs ++ List.map (fun i => zs.getD i V.non) [1, 0]) (tCons (tVar j) (tCons (tVar i) tNil)) σ H Q := ⟨w2, h2, w, h, rfl, made2 (Q := Q) k⟩
end
theorem iteNN {p A B : Prop} [Decidable p] (h : p) (b : B) : if (!decide p) = true then A else B := by
  rw [decide_eq_true h]
  exact b
theorem MadeA.get {H : Hp} {es CL : List Addr} {fl : List (List (Str × V))} (h : MadeA H es CL fl) : ∀ {j : Nat} {e : Addr}, es[j]? = some e → ∃ C fs, CL[j]? = some C ∧ ExAt H e C fs := by
  induction h with
  | nil => intro j e q; cases q
  | cons h _ ih =>
    intro j e q
    cases j with
    | zero =>
      cases q
      exact ⟨_, _, rfl, h⟩
    | succ j => exact ih q
theorem marks_get {i j : Nat} {z : V} (h : (marksV j)[i]? = some z) : z = .bl (decide (i = j)) := by
  match i, h with
  | 0, h | 1, h | 2, h | 3, h | 4, h | 5, h | 6, h | 7, h | 8, h => exact (Option.some.inj h).symm
  | i + 9, h => cases h
theorem eqv_list (ds : List PyData) (h : tupOnly.go ds = true) : PyData.eqv (.list ds) (.list ds) = true := eqv_selfs ds h
theorem dec_lt (j : Nat) : decide (((j : Nat) : Int) < 7) = decide (j < 7) := by
  rw [decide_eq_decide]
  omega
theorem dec_eqV (j n : Nat) : decide (V.int ((j : Nat) : Int) = V.int ((n : Nat) : Int)) = decide (j = n) := by
  rw [decide_eq_decide]
  constructor
  · intro z
    injection z with z
    omega
  · intro z
    rw [z]

end My

namespace My
open PySem PySem.Spec PyProof.Rows L2
def topS (i : Nat) : Stmt := PySem.Challenge.pw_pedalrounds_k01_errors.main.body.getD i (.Pass ⟨0, 0, 0, 0⟩)
abbrev s__law_begun : Stmt := topS 11
abbrev s__law_next : Stmt := topS 12
abbrev s__law_marks : Stmt := topS 13
abbrev s__law_above : Stmt := topS 14
abbrev s__law_made : Stmt := topS 15
abbrev s__law_right : Stmt := topS 16
abbrev s_law : Stmt := topS 17
theorem sc__law_begun : FnScope ["script", "cell"] ["script"] (defScope s__law_begun) := ⟨rfl, rfl, rfl, by decide +kernel, rfl, by decide +kernel, by decide +kernel⟩
theorem sc__law_next : FnScope ["m", "many", "rest", "k", "cell", "mixed"] ["m", "many"] (defScope s__law_next) := ⟨rfl, rfl, rfl, by decide +kernel, rfl, by decide +kernel, by decide +kernel⟩
theorem sc__law_marks : FnScope ["one", "found"] ["one"] (defScope s__law_marks) := ⟨rfl, rfl, rfl, by decide +kernel, rfl, by decide +kernel, by decide +kernel⟩
theorem sc__law_above : FnScope ["one", "found"] ["one"] (defScope s__law_above) := ⟨rfl, rfl, rfl, by decide +kernel, rfl, by decide +kernel, by decide +kernel⟩
theorem sc__law_made : FnScope ["way", "x", "y", "found"] ["way", "x", "y"] (defScope s__law_made) := ⟨rfl, rfl, rfl, by decide +kernel, rfl, by decide +kernel, by decide +kernel⟩
theorem sc__law_right : FnScope ["way", "x", "y", "made", "fields", "at", "one", "k", "is_so"] ["way", "x", "y"] (defScope s__law_right) := ⟨rfl, rfl, rfl, by decide +kernel, rfl, by decide +kernel, by decide +kernel⟩
theorem sc_law : FnScope ["script", "m", "some", "turn"] ["script"] (defScope s_law) := ⟨rfl, rfl, rfl, by decide +kernel, rfl, by decide +kernel, by decide +kernel⟩
abbrev s_BadLoops_init : Stmt := inClass (topS 1) 0
theorem sc_BadLoops_init : FnScope ["self", "place"] ["self", "place"] (defScope s_BadLoops_init) := ⟨rfl, rfl, rfl, by decide +kernel, rfl, by decide +kernel, by decide +kernel⟩
abbrev s_BadLengths_init : Stmt := inClass (topS 2) 0
theorem sc_BadLengths_init : FnScope ["self", "place"] ["self", "place"] (defScope s_BadLengths_init) := ⟨rfl, rfl, rfl, by decide +kernel, rfl, by decide +kernel, by decide +kernel⟩
abbrev s_BadPedal_init : Stmt := inClass (topS 3) 0
theorem sc_BadPedal_init : FnScope ["self", "place"] ["self", "place"] (defScope s_BadPedal_init) := ⟨rfl, rfl, rfl, by decide +kernel, rfl, by decide +kernel, by decide +kernel⟩
abbrev s_BadRow_init : Stmt := inClass (topS 4) 0
theorem sc_BadRow_init : FnScope ["self", "place"] ["self", "place"] (defScope s_BadRow_init) := ⟨rfl, rfl, rfl, by decide +kernel, rfl, by decide +kernel, by decide +kernel⟩
abbrev s_BadPaper_init : Stmt := inClass (topS 5) 0
theorem sc_BadPaper_init : FnScope ["self", "part"] ["self", "part"] (defScope s_BadPaper_init) := ⟨rfl, rfl, rfl, by decide +kernel, rfl, by decide +kernel, by decide +kernel⟩
abbrev s_BadText_init : Stmt := inClass (topS 6) 0
theorem sc_BadText_init : FnScope ["self", "line", "word"] ["self", "line", "word"] (defScope s_BadText_init) := ⟨rfl, rfl, rfl, by decide +kernel, rfl, by decide +kernel, by decide +kernel⟩
abbrev s_OutOfPlace_init : Stmt := inClass (topS 7) 0
theorem sc_OutOfPlace_init : FnScope ["self", "text"] ["self", "text"] (defScope s_OutOfPlace_init) := ⟨rfl, rfl, rfl, by decide +kernel, rfl, by decide +kernel, by decide +kernel⟩
abbrev s_TooGreat_init : Stmt := inClass (topS 8) 0
theorem sc_TooGreat_init : FnScope ["self", "most"] ["self", "most"] (defScope s_TooGreat_init) := ⟨rfl, rfl, rfl, by decide +kernel, rfl, by decide +kernel, by decide +kernel⟩
abbrev s_Nothing_init : Stmt := inClass (topS 9) 0
theorem sc_Nothing_init : FnScope ["self", "text"] ["self", "text"] (defScope s_Nothing_init) := ⟨rfl, rfl, rfl, by decide +kernel, rfl, by decide +kernel, by decide +kernel⟩
structure Top (K : PySem.W.Frag) (mg : Str → Option Value) where
  a__law_begun : Addr
  d__law_begun : FuncData
  F__law_begun : Fun K "_law_begun" "_law_begun" s__law_begun a__law_begun d__law_begun
  m__law_begun : mg "_law_begun" = some (.ref a__law_begun)
  b__law_begun : Binds K d__law_begun ["script"] []
  a__law_next : Addr
  d__law_next : FuncData
  F__law_next : Fun K "_law_next" "_law_next" s__law_next a__law_next d__law_next
  m__law_next : mg "_law_next" = some (.ref a__law_next)
  b__law_next : Binds K d__law_next ["m", "many"] []
  a__law_marks : Addr
  d__law_marks : FuncData
  F__law_marks : Fun K "_law_marks" "_law_marks" s__law_marks a__law_marks d__law_marks
  m__law_marks : mg "_law_marks" = some (.ref a__law_marks)
  b__law_marks : Binds K d__law_marks ["one"] []
  a__law_above : Addr
  d__law_above : FuncData
  F__law_above : Fun K "_law_above" "_law_above" s__law_above a__law_above d__law_above
  m__law_above : mg "_law_above" = some (.ref a__law_above)
  b__law_above : Binds K d__law_above ["one"] []
  a__law_made : Addr
  d__law_made : FuncData
  F__law_made : Fun K "_law_made" "_law_made" s__law_made a__law_made d__law_made
  m__law_made : mg "_law_made" = some (.ref a__law_made)
  b__law_made : Binds K d__law_made ["way", "x", "y"] []
  a__law_right : Addr
  d__law_right : FuncData
  F__law_right : Fun K "_law_right" "_law_right" s__law_right a__law_right d__law_right
  m__law_right : mg "_law_right" = some (.ref a__law_right)
  b__law_right : Binds K d__law_right ["way", "x", "y"] []
  a_law : Addr
  d_law : FuncData
  F_law : Fun K "law" "law" s_law a_law d_law
  m_law : mg "law" = some (.ref a_law)
  b_law : Binds K d_law ["script"] []
  x_BadLoops : ExcT K mg "BadLoops" "BadLoops.__init__" "place" s_BadLoops_init
  x_BadLengths : ExcT K mg "BadLengths" "BadLengths.__init__" "place" s_BadLengths_init
  x_BadPedal : ExcT K mg "BadPedal" "BadPedal.__init__" "place" s_BadPedal_init
  x_BadRow : ExcT K mg "BadRow" "BadRow.__init__" "place" s_BadRow_init
  x_BadPaper : ExcT K mg "BadPaper" "BadPaper.__init__" "part" s_BadPaper_init
  x_BadText : ExcT2 K mg "BadText" "BadText.__init__" "line" "word" s_BadText_init
  x_OutOfPlace : ExcT K mg "OutOfPlace" "OutOfPlace.__init__" "text" s_OutOfPlace_init
  x_TooGreat : ExcO K mg "TooGreat" "TooGreat.__init__" "most" s_TooGreat_init "OverflowError.__new__" tlOv
  x_Nothing : ExcO K mg "Nothing" "Nothing.__init__" "text" s_Nothing_init "LookupError.__new__" tlLk
  e_BadLoops : ExcC K x_BadLoops.C
  y_BadLoops_BadLengths : PySem.W.exmOne K (.ref x_BadLoops.C) (.ref x_BadLengths.C) = some false
  y_BadLoops_BadPedal : PySem.W.exmOne K (.ref x_BadLoops.C) (.ref x_BadPedal.C) = some false
  y_BadLoops_BadRow : PySem.W.exmOne K (.ref x_BadLoops.C) (.ref x_BadRow.C) = some false
  y_BadLoops_BadPaper : PySem.W.exmOne K (.ref x_BadLoops.C) (.ref x_BadPaper.C) = some false
  y_BadLoops_BadText : PySem.W.exmOne K (.ref x_BadLoops.C) (.ref x_BadText.C) = some false
  y_BadLoops_OutOfPlace : PySem.W.exmOne K (.ref x_BadLoops.C) (.ref x_OutOfPlace.C) = some false
  y_BadLoops_TooGreat : PySem.W.exmOne K (.ref x_BadLoops.C) (.ref x_TooGreat.C) = some false
  y_BadLoops_Nothing : PySem.W.exmOne K (.ref x_BadLoops.C) (.ref x_Nothing.C) = some false
  e_BadLengths : ExcC K x_BadLengths.C
  y_BadLengths_BadLoops : PySem.W.exmOne K (.ref x_BadLengths.C) (.ref x_BadLoops.C) = some false
  y_BadLengths_BadPedal : PySem.W.exmOne K (.ref x_BadLengths.C) (.ref x_BadPedal.C) = some false
  y_BadLengths_BadRow : PySem.W.exmOne K (.ref x_BadLengths.C) (.ref x_BadRow.C) = some false
  y_BadLengths_BadPaper : PySem.W.exmOne K (.ref x_BadLengths.C) (.ref x_BadPaper.C) = some false
  y_BadLengths_BadText : PySem.W.exmOne K (.ref x_BadLengths.C) (.ref x_BadText.C) = some false
  y_BadLengths_OutOfPlace : PySem.W.exmOne K (.ref x_BadLengths.C) (.ref x_OutOfPlace.C) = some false
  y_BadLengths_TooGreat : PySem.W.exmOne K (.ref x_BadLengths.C) (.ref x_TooGreat.C) = some false
  y_BadLengths_Nothing : PySem.W.exmOne K (.ref x_BadLengths.C) (.ref x_Nothing.C) = some false
  e_BadPedal : ExcC K x_BadPedal.C
  y_BadPedal_BadLoops : PySem.W.exmOne K (.ref x_BadPedal.C) (.ref x_BadLoops.C) = some false
  y_BadPedal_BadLengths : PySem.W.exmOne K (.ref x_BadPedal.C) (.ref x_BadLengths.C) = some false
  y_BadPedal_BadRow : PySem.W.exmOne K (.ref x_BadPedal.C) (.ref x_BadRow.C) = some false
  y_BadPedal_BadPaper : PySem.W.exmOne K (.ref x_BadPedal.C) (.ref x_BadPaper.C) = some false
  y_BadPedal_BadText : PySem.W.exmOne K (.ref x_BadPedal.C) (.ref x_BadText.C) = some false
  y_BadPedal_OutOfPlace : PySem.W.exmOne K (.ref x_BadPedal.C) (.ref x_OutOfPlace.C) = some false
  y_BadPedal_TooGreat : PySem.W.exmOne K (.ref x_BadPedal.C) (.ref x_TooGreat.C) = some false
  y_BadPedal_Nothing : PySem.W.exmOne K (.ref x_BadPedal.C) (.ref x_Nothing.C) = some false
  e_BadRow : ExcC K x_BadRow.C
  y_BadRow_BadLoops : PySem.W.exmOne K (.ref x_BadRow.C) (.ref x_BadLoops.C) = some false
  y_BadRow_BadLengths : PySem.W.exmOne K (.ref x_BadRow.C) (.ref x_BadLengths.C) = some false
  y_BadRow_BadPedal : PySem.W.exmOne K (.ref x_BadRow.C) (.ref x_BadPedal.C) = some false
  y_BadRow_BadPaper : PySem.W.exmOne K (.ref x_BadRow.C) (.ref x_BadPaper.C) = some false
  y_BadRow_BadText : PySem.W.exmOne K (.ref x_BadRow.C) (.ref x_BadText.C) = some false
  y_BadRow_OutOfPlace : PySem.W.exmOne K (.ref x_BadRow.C) (.ref x_OutOfPlace.C) = some false
  y_BadRow_TooGreat : PySem.W.exmOne K (.ref x_BadRow.C) (.ref x_TooGreat.C) = some false
  y_BadRow_Nothing : PySem.W.exmOne K (.ref x_BadRow.C) (.ref x_Nothing.C) = some false
  e_BadPaper : ExcC K x_BadPaper.C
  y_BadPaper_BadLoops : PySem.W.exmOne K (.ref x_BadPaper.C) (.ref x_BadLoops.C) = some false
  y_BadPaper_BadLengths : PySem.W.exmOne K (.ref x_BadPaper.C) (.ref x_BadLengths.C) = some false
  y_BadPaper_BadPedal : PySem.W.exmOne K (.ref x_BadPaper.C) (.ref x_BadPedal.C) = some false
  y_BadPaper_BadRow : PySem.W.exmOne K (.ref x_BadPaper.C) (.ref x_BadRow.C) = some false
  y_BadPaper_BadText : PySem.W.exmOne K (.ref x_BadPaper.C) (.ref x_BadText.C) = some false
  y_BadPaper_OutOfPlace : PySem.W.exmOne K (.ref x_BadPaper.C) (.ref x_OutOfPlace.C) = some false
  y_BadPaper_TooGreat : PySem.W.exmOne K (.ref x_BadPaper.C) (.ref x_TooGreat.C) = some false
  y_BadPaper_Nothing : PySem.W.exmOne K (.ref x_BadPaper.C) (.ref x_Nothing.C) = some false
  e_BadText : ExcC K x_BadText.C
  y_BadText_BadLoops : PySem.W.exmOne K (.ref x_BadText.C) (.ref x_BadLoops.C) = some false
  y_BadText_BadLengths : PySem.W.exmOne K (.ref x_BadText.C) (.ref x_BadLengths.C) = some false
  y_BadText_BadPedal : PySem.W.exmOne K (.ref x_BadText.C) (.ref x_BadPedal.C) = some false
  y_BadText_BadRow : PySem.W.exmOne K (.ref x_BadText.C) (.ref x_BadRow.C) = some false
  y_BadText_BadPaper : PySem.W.exmOne K (.ref x_BadText.C) (.ref x_BadPaper.C) = some false
  y_BadText_OutOfPlace : PySem.W.exmOne K (.ref x_BadText.C) (.ref x_OutOfPlace.C) = some false
  y_BadText_TooGreat : PySem.W.exmOne K (.ref x_BadText.C) (.ref x_TooGreat.C) = some false
  y_BadText_Nothing : PySem.W.exmOne K (.ref x_BadText.C) (.ref x_Nothing.C) = some false
  e_OutOfPlace : ExcC K x_OutOfPlace.C
  y_OutOfPlace_BadLoops : PySem.W.exmOne K (.ref x_OutOfPlace.C) (.ref x_BadLoops.C) = some false
  y_OutOfPlace_BadLengths : PySem.W.exmOne K (.ref x_OutOfPlace.C) (.ref x_BadLengths.C) = some false
  y_OutOfPlace_BadPedal : PySem.W.exmOne K (.ref x_OutOfPlace.C) (.ref x_BadPedal.C) = some false
  y_OutOfPlace_BadRow : PySem.W.exmOne K (.ref x_OutOfPlace.C) (.ref x_BadRow.C) = some false
  y_OutOfPlace_BadPaper : PySem.W.exmOne K (.ref x_OutOfPlace.C) (.ref x_BadPaper.C) = some false
  y_OutOfPlace_BadText : PySem.W.exmOne K (.ref x_OutOfPlace.C) (.ref x_BadText.C) = some false
  y_OutOfPlace_TooGreat : PySem.W.exmOne K (.ref x_OutOfPlace.C) (.ref x_TooGreat.C) = some false
  y_OutOfPlace_Nothing : PySem.W.exmOne K (.ref x_OutOfPlace.C) (.ref x_Nothing.C) = some false
  e_TooGreat : ExcC K x_TooGreat.C
  y_TooGreat_BadLoops : PySem.W.exmOne K (.ref x_TooGreat.C) (.ref x_BadLoops.C) = some false
  y_TooGreat_BadLengths : PySem.W.exmOne K (.ref x_TooGreat.C) (.ref x_BadLengths.C) = some false
  y_TooGreat_BadPedal : PySem.W.exmOne K (.ref x_TooGreat.C) (.ref x_BadPedal.C) = some false
  y_TooGreat_BadRow : PySem.W.exmOne K (.ref x_TooGreat.C) (.ref x_BadRow.C) = some false
  y_TooGreat_BadPaper : PySem.W.exmOne K (.ref x_TooGreat.C) (.ref x_BadPaper.C) = some false
  y_TooGreat_BadText : PySem.W.exmOne K (.ref x_TooGreat.C) (.ref x_BadText.C) = some false
  y_TooGreat_OutOfPlace : PySem.W.exmOne K (.ref x_TooGreat.C) (.ref x_OutOfPlace.C) = some false
  y_TooGreat_Nothing : PySem.W.exmOne K (.ref x_TooGreat.C) (.ref x_Nothing.C) = some false
  e_Nothing : ExcC K x_Nothing.C
  y_Nothing_BadLoops : PySem.W.exmOne K (.ref x_Nothing.C) (.ref x_BadLoops.C) = some false
  y_Nothing_BadLengths : PySem.W.exmOne K (.ref x_Nothing.C) (.ref x_BadLengths.C) = some false
  y_Nothing_BadPedal : PySem.W.exmOne K (.ref x_Nothing.C) (.ref x_BadPedal.C) = some false
  y_Nothing_BadRow : PySem.W.exmOne K (.ref x_Nothing.C) (.ref x_BadRow.C) = some false
  y_Nothing_BadPaper : PySem.W.exmOne K (.ref x_Nothing.C) (.ref x_BadPaper.C) = some false
  y_Nothing_BadText : PySem.W.exmOne K (.ref x_Nothing.C) (.ref x_BadText.C) = some false
  y_Nothing_OutOfPlace : PySem.W.exmOne K (.ref x_Nothing.C) (.ref x_OutOfPlace.C) = some false
  y_Nothing_TooGreat : PySem.W.exmOne K (.ref x_Nothing.C) (.ref x_TooGreat.C) = some false
  z_ValueError : mg "ValueError" = none
  v_ValueError : PySem.W.findCls K (.type "ValueError") (.type "type") "__init__" = some (.val (.builtin "ValueError.__init__"))
  z_OverflowError : mg "OverflowError" = none
  v_OverflowError : PySem.W.findCls K (.type "OverflowError") (.type "type") "__init__" = some (.val (.builtin "OverflowError.__init__"))
  z_LookupError : mg "LookupError" = none
  v_LookupError : PySem.W.findCls K (.type "LookupError") (.type "type") "__init__" = some (.val (.builtin "LookupError.__init__"))
  z_list : mg "list" = none
  z_int : mg "int" = none
  z_len : mg "len" = none
  z_isinstance : mg "isinstance" = none
  z_KeyError : mg "KeyError" = none
  z_IndexError : mg "IndexError" = none
  z_enumerate : mg "enumerate" = none
  z_repr : mg "repr" = none
  z_range : mg "range" = none
  z_min : mg "min" = none
end My

namespace My
open PySem PySem.Spec PyProof.Rows L2
theorem kbx_Nothing_text {K : PySem.W.Frag} {mg : Str → Option Value} (T : Top K mg) : KBn K T.x_Nothing.d ["self", "text"] 1 ["text"] (fun us ws => us ++ [0].map fun i => ws.getD i .none) (fun vs zs => vs ++ [0].map fun i => zs.getD i .non) := kb1 T.x_Nothing.F [0] fun _ _ _ _ _ _ _ ws hl => match ws, hl with | [_], _ => rfl
theorem kbx_TooGreat_most {K : PySem.W.Frag} {mg : Str → Option Value} (T : Top K mg) : KBn K T.x_TooGreat.d ["self", "most"] 1 ["most"] (fun us ws => us ++ [0].map fun i => ws.getD i .none) (fun vs zs => vs ++ [0].map fun i => zs.getD i .non) := kb1 T.x_TooGreat.F [0] fun _ _ _ _ _ _ _ ws hl => match ws, hl with | [_], _ => rfl
theorem kbx_OutOfPlace_text {K : PySem.W.Frag} {mg : Str → Option Value} (T : Top K mg) : KBn K T.x_OutOfPlace.d ["self", "text"] 1 ["text"] (fun us ws => us ++ [0].map fun i => ws.getD i .none) (fun vs zs => vs ++ [0].map fun i => zs.getD i .non) := kb1 T.x_OutOfPlace.F [0] fun _ _ _ _ _ _ _ ws hl => match ws, hl with | [_], _ => rfl
theorem kbx_BadText_word_line {K : PySem.W.Frag} {mg : Str → Option Value} (T : Top K mg) : KBn K T.x_BadText.d ["self", "line", "word"] 1 ["word", "line"] (fun us ws => us ++ [1, 0].map fun i => ws.getD i .none) (fun vs zs => vs ++ [1, 0].map fun i => zs.getD i .non) := kb1 T.x_BadText.F [1, 0] fun _ _ _ _ _ _ _ ws hl => match ws, hl with | [_, _], _ => rfl
theorem kbx_BadPaper_part {K : PySem.W.Frag} {mg : Str → Option Value} (T : Top K mg) : KBn K T.x_BadPaper.d ["self", "part"] 1 ["part"] (fun us ws => us ++ [0].map fun i => ws.getD i .none) (fun vs zs => vs ++ [0].map fun i => zs.getD i .non) := kb1 T.x_BadPaper.F [0] fun _ _ _ _ _ _ _ ws hl => match ws, hl with | [_], _ => rfl
theorem kbx_BadRow_place {K : PySem.W.Frag} {mg : Str → Option Value} (T : Top K mg) : KBn K T.x_BadRow.d ["self", "place"] 1 ["place"] (fun us ws => us ++ [0].map fun i => ws.getD i .none) (fun vs zs => vs ++ [0].map fun i => zs.getD i .non) := kb1 T.x_BadRow.F [0] fun _ _ _ _ _ _ _ ws hl => match ws, hl with | [_], _ => rfl
theorem kbx_BadPedal_place {K : PySem.W.Frag} {mg : Str → Option Value} (T : Top K mg) : KBn K T.x_BadPedal.d ["self", "place"] 1 ["place"] (fun us ws => us ++ [0].map fun i => ws.getD i .none) (fun vs zs => vs ++ [0].map fun i => zs.getD i .non) := kb1 T.x_BadPedal.F [0] fun _ _ _ _ _ _ _ ws hl => match ws, hl with | [_], _ => rfl
theorem kbx_BadLengths_place {K : PySem.W.Frag} {mg : Str → Option Value} (T : Top K mg) : KBn K T.x_BadLengths.d ["self", "place"] 1 ["place"] (fun us ws => us ++ [0].map fun i => ws.getD i .none) (fun vs zs => vs ++ [0].map fun i => zs.getD i .non) := kb1 T.x_BadLengths.F [0] fun _ _ _ _ _ _ _ ws hl => match ws, hl with | [_], _ => rfl
theorem kbx_BadLoops_place {K : PySem.W.Frag} {mg : Str → Option Value} (T : Top K mg) : KBn K T.x_BadLoops.d ["self", "place"] 1 ["place"] (fun us ws => us ++ [0].map fun i => ws.getD i .none) (fun vs zs => vs ++ [0].map fun i => zs.getD i .non) := kb1 T.x_BadLoops.F [0] fun _ _ _ _ _ _ _ ws hl => match ws, hl with | [_], _ => rfl
section
variable {P : Program} {w : World} {K : PySem.W.Frag} {mg : Str → Option Value} {base : Heap}
theorem ok_BadLoops_init (T : Top K mg) : FnOk P w K mg base CX0 1 T.x_BadLoops.f T.x_BadLoops.d ["self", "place"] (sp_exc T.x_BadLoops.C "place") := by
  refine T.x_BadLoops.F.ok sc_BadLoops_init (fun vs H Q E h => ?_) (fun cdv A outer s H vs Q E hr h => ?_)
  · obtain ⟨a, w, rfl, _⟩ := h
    rfl
  obtain ⟨a, w, rfl, ha, k⟩ := h
  refine ⟨_, pss_cons (ps_expr (pe_veinit (by rfl) T.z_ValueError T.v_ValueError (pa_cons (pv 0) (pa_cons (pv 1) pa_nil)))) (pss_one (ps_ost (pv 0) (pv 1))), ?_⟩
  refine ⟨_, rfl, _, rfl, a, T.x_BadLoops.C, [w], rfl, (by show 1 ≤ 1000; decide), T.x_BadLoops.ox, ha, ?_⟩
  exact ⟨_, rfl, _, rfl, a, T.x_BadLoops.C, rfl, T.x_BadLoops.ox, T.x_BadLoops.nf, .inl ⟨ha, fun dx h1 h2 => k dx h1 h2⟩⟩
end
section
variable {P : Program} {w : World} {K : PySem.W.Frag} {mg : Str → Option Value} {base : Heap}
theorem ok_BadLengths_init (T : Top K mg) : FnOk P w K mg base CX0 1 T.x_BadLengths.f T.x_BadLengths.d ["self", "place"] (sp_exc T.x_BadLengths.C "place") := by
  refine T.x_BadLengths.F.ok sc_BadLengths_init (fun vs H Q E h => ?_) (fun cdv A outer s H vs Q E hr h => ?_)
  · obtain ⟨a, w, rfl, _⟩ := h
    rfl
  obtain ⟨a, w, rfl, ha, k⟩ := h
  refine ⟨_, pss_cons (ps_expr (pe_veinit (by rfl) T.z_ValueError T.v_ValueError (pa_cons (pv 0) (pa_cons (pv 1) pa_nil)))) (pss_one (ps_ost (pv 0) (pv 1))), ?_⟩
  refine ⟨_, rfl, _, rfl, a, T.x_BadLengths.C, [w], rfl, (by show 1 ≤ 1000; decide), T.x_BadLengths.ox, ha, ?_⟩
  exact ⟨_, rfl, _, rfl, a, T.x_BadLengths.C, rfl, T.x_BadLengths.ox, T.x_BadLengths.nf, .inl ⟨ha, fun dx h1 h2 => k dx h1 h2⟩⟩
end
section
variable {P : Program} {w : World} {K : PySem.W.Frag} {mg : Str → Option Value} {base : Heap}
theorem ok_BadPedal_init (T : Top K mg) : FnOk P w K mg base CX0 1 T.x_BadPedal.f T.x_BadPedal.d ["self", "place"] (sp_exc T.x_BadPedal.C "place") := by
  refine T.x_BadPedal.F.ok sc_BadPedal_init (fun vs H Q E h => ?_) (fun cdv A outer s H vs Q E hr h => ?_)
  · obtain ⟨a, w, rfl, _⟩ := h
    rfl
  obtain ⟨a, w, rfl, ha, k⟩ := h
  refine ⟨_, pss_cons (ps_expr (pe_veinit (by rfl) T.z_ValueError T.v_ValueError (pa_cons (pv 0) (pa_cons (pv 1) pa_nil)))) (pss_one (ps_ost (pv 0) (pv 1))), ?_⟩
  refine ⟨_, rfl, _, rfl, a, T.x_BadPedal.C, [w], rfl, (by show 1 ≤ 1000; decide), T.x_BadPedal.ox, ha, ?_⟩
  exact ⟨_, rfl, _, rfl, a, T.x_BadPedal.C, rfl, T.x_BadPedal.ox, T.x_BadPedal.nf, .inl ⟨ha, fun dx h1 h2 => k dx h1 h2⟩⟩
end
section
variable {P : Program} {w : World} {K : PySem.W.Frag} {mg : Str → Option Value} {base : Heap}
theorem ok_BadRow_init (T : Top K mg) : FnOk P w K mg base CX0 1 T.x_BadRow.f T.x_BadRow.d ["self", "place"] (sp_exc T.x_BadRow.C "place") := by
  refine T.x_BadRow.F.ok sc_BadRow_init (fun vs H Q E h => ?_) (fun cdv A outer s H vs Q E hr h => ?_)
  · obtain ⟨a, w, rfl, _⟩ := h
    rfl
  obtain ⟨a, w, rfl, ha, k⟩ := h
  refine ⟨_, pss_cons (ps_expr (pe_veinit (by rfl) T.z_ValueError T.v_ValueError (pa_cons (pv 0) (pa_cons (pv 1) pa_nil)))) (pss_one (ps_ost (pv 0) (pv 1))), ?_⟩
  refine ⟨_, rfl, _, rfl, a, T.x_BadRow.C, [w], rfl, (by show 1 ≤ 1000; decide), T.x_BadRow.ox, ha, ?_⟩
  exact ⟨_, rfl, _, rfl, a, T.x_BadRow.C, rfl, T.x_BadRow.ox, T.x_BadRow.nf, .inl ⟨ha, fun dx h1 h2 => k dx h1 h2⟩⟩
end
section
variable {P : Program} {w : World} {K : PySem.W.Frag} {mg : Str → Option Value} {base : Heap}
theorem ok_BadPaper_init (T : Top K mg) : FnOk P w K mg base CX0 1 T.x_BadPaper.f T.x_BadPaper.d ["self", "part"] (sp_exc T.x_BadPaper.C "part") := by
  refine T.x_BadPaper.F.ok sc_BadPaper_init (fun vs H Q E h => ?_) (fun cdv A outer s H vs Q E hr h => ?_)
  · obtain ⟨a, w, rfl, _⟩ := h
    rfl
  obtain ⟨a, w, rfl, ha, k⟩ := h
  refine ⟨_, pss_cons (ps_expr (pe_veinit (by rfl) T.z_ValueError T.v_ValueError (pa_cons (pv 0) (pa_cons (pv 1) pa_nil)))) (pss_one (ps_ost (pv 0) (pv 1))), ?_⟩
  refine ⟨_, rfl, _, rfl, a, T.x_BadPaper.C, [w], rfl, (by show 1 ≤ 1000; decide), T.x_BadPaper.ox, ha, ?_⟩
  exact ⟨_, rfl, _, rfl, a, T.x_BadPaper.C, rfl, T.x_BadPaper.ox, T.x_BadPaper.nf, .inl ⟨ha, fun dx h1 h2 => k dx h1 h2⟩⟩
end
section
variable {P : Program} {w : World} {K : PySem.W.Frag} {mg : Str → Option Value} {base : Heap}
theorem ok_BadText_init (T : Top K mg) : FnOk P w K mg base CX0 1 T.x_BadText.f T.x_BadText.d ["self", "line", "word"] (sp_exc2 T.x_BadText.C "line" "word") := by
  refine T.x_BadText.F.ok sc_BadText_init (fun vs H Q E h => ?_) (fun cdv A outer s H vs Q E hr h => ?_)
  · obtain ⟨a, w1, w2, rfl, _⟩ := h
    rfl
  obtain ⟨a, w1, w2, rfl, ha, k⟩ := h
  refine ⟨_, pss_cons (ps_expr (pe_veinit (by rfl) T.z_ValueError T.v_ValueError (pa_cons (pv 0) (pa_cons (pv 1) (pa_cons (pv 2) pa_nil))))) (pss_cons (ps_ost (pv 0) (pv 1)) (pss_one (ps_ost (pv 0) (pv 2)))), ?_⟩
  refine ⟨_, rfl, _, rfl, _, rfl, a, T.x_BadText.C, [w1, w2], rfl, (by show 2 ≤ 1000; decide), T.x_BadText.ox, ha, ?_⟩
  refine ⟨_, rfl, _, rfl, a, T.x_BadText.C, rfl, T.x_BadText.ox, T.x_BadText.nf, .inl ⟨ha, fun dx h1 h2 => ?_⟩⟩
  exact ⟨_, rfl, _, rfl, a, T.x_BadText.C, rfl, T.x_BadText.ox, T.x_BadText.nf2, .inr ⟨dx, [("line", w1)], upd_same, (by rw [upd_ne h2, upd_same]), (by show 1 ≤ 900; decide), k dx h1 h2⟩⟩
end
section
variable {P : Program} {w : World} {K : PySem.W.Frag} {mg : Str → Option Value} {base : Heap}
theorem ok_OutOfPlace_init (T : Top K mg) : FnOk P w K mg base CX0 1 T.x_OutOfPlace.f T.x_OutOfPlace.d ["self", "text"] (sp_excN T.x_OutOfPlace.C) := by
  refine T.x_OutOfPlace.F.ok sc_OutOfPlace_init (fun vs H Q E h => ?_) (fun cdv A outer s H vs Q E hr h => ?_)
  · obtain ⟨a, w, rfl, _⟩ := h
    rfl
  obtain ⟨a, w, rfl, ha, k⟩ := h
  refine ⟨_, pss_one (ps_expr (pe_veinit (by rfl) T.z_ValueError T.v_ValueError (pa_cons (pv 0) (pa_cons (pv 1) pa_nil)))), ?_⟩
  exact ⟨_, rfl, _, rfl, a, T.x_OutOfPlace.C, [w], rfl, (by show 1 ≤ 1000; decide), T.x_OutOfPlace.ox, ha, k⟩
end
section
variable {P : Program} {w : World} {K : PySem.W.Frag} {mg : Str → Option Value} {base : Heap}
theorem ok_TooGreat_init (T : Top K mg) : FnOk P w K mg base CX0 1 T.x_TooGreat.f T.x_TooGreat.d ["self", "most"] (sp_exc T.x_TooGreat.C "most") := by
  refine T.x_TooGreat.F.ok sc_TooGreat_init (fun vs H Q E h => ?_) (fun cdv A outer s H vs Q E hr h => ?_)
  · obtain ⟨a, w, rfl, _⟩ := h
    rfl
  obtain ⟨a, w, rfl, ha, k⟩ := h
  refine ⟨_, pss_cons (ps_expr (pe_ovinit (by rfl) T.z_OverflowError T.v_OverflowError (pa_cons (pv 0) (pa_cons (pv 1) pa_nil)))) (pss_one (ps_ovf underOv (pv 0) (pv 1))), ?_⟩
  refine ⟨_, rfl, _, rfl, a, T.x_TooGreat.C, [w], rfl, (by show 1 ≤ 1000; decide), T.x_TooGreat.ox, ha, ?_⟩
  exact ⟨_, rfl, _, rfl, a, T.x_TooGreat.C, rfl, T.x_TooGreat.ox, T.x_TooGreat.nf, ha, fun dx h1 h2 => k dx h1 h2⟩
end
section
variable {P : Program} {w : World} {K : PySem.W.Frag} {mg : Str → Option Value} {base : Heap}
theorem ok_Nothing_init (T : Top K mg) : FnOk P w K mg base CX0 1 T.x_Nothing.f T.x_Nothing.d ["self", "text"] (sp_excN T.x_Nothing.C) := by
  refine T.x_Nothing.F.ok sc_Nothing_init (fun vs H Q E h => ?_) (fun cdv A outer s H vs Q E hr h => ?_)
  · obtain ⟨a, w, rfl, _⟩ := h
    rfl
  obtain ⟨a, w, rfl, ha, k⟩ := h
  refine ⟨_, pss_one (ps_expr (pe_lkinit (by rfl) T.z_LookupError T.v_LookupError (pa_cons (pv 0) (pa_cons (pv 1) pa_nil)))), ?_⟩
  exact ⟨_, rfl, _, rfl, a, T.x_Nothing.C, [w], rfl, (by show 1 ≤ 1000; decide), T.x_Nothing.ox, ha, k⟩
end
section
variable {P : Program} {w : World} {K : PySem.W.Frag} {mg : Str → Option Value} {base : Heap}
theorem ok__law_begun (T : Top K mg) : FnOk P w K mg base CX0 1 T.a__law_begun T.d__law_begun ["script"] (sp__law_begun K) := by
  refine T.F__law_begun.ok sc__law_begun (fun vs H Q E h => ?_) (fun cdv A outer s H vs Q E hr h => ?_)
  · obtain ⟨a, ns, rfl, hS, hl, k⟩ := h
    rfl
  obtain ⟨a, ns, rfl, hS, hl, k⟩ := h
  refine ⟨_, (pss_one (ps_ret (pe_disp (pps_cons pe_str (pe_callTy (k_list (K := K)) (by rfl) T.z_list bt_list (pa_cons (pv 0) pa_nil)) (pps_cons pe_str (pe_lc (own := [("cell", 1)]) rfl sc__law_begun.nd (k_piL (K := K) (pv 0)) (blkOk_by (own := [("cell", 1)]) (N := ["script", "cell"]) (sc := defScope s__law_begun) (by decide +kernel)) (fun _ _ _ _ _ => (pg_name (i := 1) sc__law_begun.nd rfl (Or.inl rfl))) (fun _ _ _ _ _ => (pts_one (pt_cmpR op_ge (pv 1) (pe_op op_pow pe_int pe_int) (nomark _)))) (fun _ _ _ _ _ => (pv 1))) (pps_cons pe_str pe_int pps_nil))) (by rfl) (by rfl) (fun z => by cases z) (by decide)))), ?_⟩
  refine fun p hp => ?_
  refine ⟨_, rfl, a, _, rfl, .inl ((same_upd hp _).seq hS), fun l hl' => ?_⟩
  have s1 : Same H (upd (upd H p (.dK [])) l (.lst (ns.map V.int))) := (same_upd hp _).trans (same_upd hl' _)
  have lp : l ≠ p := fun z => by rw [z, upd_same] at hl'; cases hl'
  refine ⟨_, rfl, a, rfl, ⟨_, s1.seq hS⟩, fun D hD => ?_⟩
  have Dp' : D ≠ p := fun z => by rw [z, upd_ne (Ne.symm lp), upd_same] at hD; cases hD
  have Dl : D ≠ l := fun z => by rw [z, upd_same] at hD; cases hD
  refine lc_list (K := K) (a := a) (xs := ns.map V.int) (fun i H' => ∃ acc : List Int, H' D = some (.lst (acc.map V.int)) ∧ acc.length ≤ i ∧ (∀ z ∈ acc, 0 ≤ z) ∧ Same (upd (upd H p (.dK [])) l (.lst (ns.map V.int))) H')
    ⟨[], upd_same, Nat.le_refl _, (by intro z hz; cases hz), same_upd hD _⟩ (fun i H' _ ⟨_, _, _, _, s⟩ => s.seq (s1.seq hS)) ?_ ?_
  · rintro i x H' hi ⟨acc, hA, hn, h0, s⟩
    obtain ⟨z, hz, rfl⟩ := map_int_get hi
    refine ⟨rfl, _, rfl, _, _, rfl, rfl, ⟨by decide, by decide, by decide⟩, _, _, rfl, rfl, _, rfl, ?_⟩
    refine ite2 (fun cc => ?_) (fun _ => ⟨acc, hA, by omega, h0, s⟩)
    have cz : (10 : Int) ^ (18 : Int).toNat ≤ z := of_decide_eq_true cc
    have cz' : 0 ≤ z := Int.le_trans (by decide) cz
    refine ⟨_, rfl, _, hA, by rw [List.length_map]; exact small1000 (by have := (List.getElem?_eq_some_iff.mp hz).1; omega), acc ++ [z], ?_, ?_, ?_, ?_⟩
    · rw [upd_same, List.map_append]
      all_goals rfl
    · rw [List.length_append, List.length_singleton]
      omega
    · intro y hy
      rcases List.mem_append.mp hy with q | q
      · exact h0 y q
      · rw [List.mem_singleton.mp q]
        exact cz'
    · intro b o q
      have bD : b ≠ D := ne_of_none q hD
      rw [upd_ne bD]
      exact s b o q
  · rintro H' ⟨acc, hA, hn, h0, s⟩
    rw [List.length_map] at hn
    have hp' : H' p = some (.dK []) := s _ _ (by rw [upd_ne (Ne.symm lp), upd_same])
    refine ⟨hp', [(kCells, .ref l), (kLeft, .ref D), (kAt, .int 0)], rfl, (by show 3 ≤ 15; decide), ?_⟩
    rw [merge3]
    have e : ∀ b, b ≠ p → upd H' p (.dK [(kCells, V.ref l), (kLeft, V.ref D), (kAt, V.int 0)]) b = H' b := fun b hb => upd_ne hb
    refine k p _ (fun b o q => ?_) ⟨l, D, upd_same, ⟨ns, ?_, hl⟩, ⟨acc, ?_, by omega, h0⟩, Ne.symm Dl⟩
    · rw [e b (ne_of_none q hp)]
      exact s _ _ (s1 _ _ q)
    · rw [e _ lp]
      exact s _ _ upd_same
    · rw [e _ Dp']
      exact hA
end
section
variable {P : Program} {w : World} {K : PySem.W.Frag} {mg : Str → Option Value} {base : Heap}
theorem ok__law_next (T : Top K mg) : FnOk P w K mg base CX0 1 T.a__law_next T.d__law_next ["m", "many"] (sp__law_next K) := by
  refine T.F__law_next.ok sc__law_next (fun vs H Q E h => ?_) (fun cdv A outer s H vs Q E hr h => ?_)
  · obtain ⟨m, many, n, rfl, M, h0, h9, hn, k⟩ := h
    rfl
  obtain ⟨m, many, n, rfl, M, h0, h9, hn, k⟩ := h
  refine ⟨_, (Evl.pss_cut (ps_while PassesOwn.never (PW.pt (pw_and (pt_cmpR (k_neD (K := K) hr.units) (pe_dget (hu_of hr) (pv 0) pe_str (fun _ _ => rfl)) (pe_lst pa_nil) (nomark _)) (pw_and1 (pt_cmpR op_eq (pe_ix (k_ixL (K := K)) (pe_dget (hu_of hr) (pv 0) pe_str (fun _ _ => rfl)) pe_int (fun _ _ => rfl)) pe_int (nomark _))))) (pss_one (ps_dput (hu_of hr) (pv 0) pe_str (pe_slice (k_slL (K := K)) (pe_dget (hu_of hr) (pv 0) pe_str (fun _ _ => rfl)) (po_some pe_int) po_none) rfl)))
      (pss_cons (ps_if (pt_cmpR (k_neD (K := K) hr.units) (pe_dget (hu_of hr) (pv 0) pe_str (fun _ _ => rfl)) (pe_lst pa_nil) (nomark _)) (pss_cons (ps_set (i := 2) sc__law_next.nd rfl (Or.inl rfl) (pe_callTy call_int1 (by rfl) T.z_int bt_int (pa_cons (pe_ix (k_ixL (K := K)) (pe_dget (hu_of hr) (pv 0) pe_str (fun _ _ => rfl)) pe_int (fun _ _ => rfl)) pa_nil)))
      (pss_cons (ps_asg (pe_op op_fdivW (pv 2) (pv 1)) (pg_sub (pe_dget (hu_of hr) (pv 0) pe_str (fun _ _ => rfl)) pe_int set_list))
      (pss_one (ps_ret (pe_op op_modN (pv 2) (pv 1)))))) pss_nil)
      (pss_cons (ps_set (i := 3) sc__law_next.nd rfl (Or.inl rfl) (pe_op op_add (pe_dget (hu_of hr) (pv 0) pe_str (fun _ _ => rfl)) pe_int))
      (pss_cons (ps_dput (hu_of hr) (pv 0) pe_str (pv 3) rfl)
      (pss_cons (ps_set (i := 4) sc__law_next.nd rfl (Or.inl rfl) (pe_ifExp (pt_cmpR (k_neD (K := K) hr.units) (pe_dget (hu_of hr) (pv 0) pe_str (fun _ _ => rfl)) (pe_lst pa_nil) (nomark _)) (pe_ix (k_ixL (K := K)) (pe_dget (hu_of hr) (pv 0) pe_str (fun _ _ => rfl)) (pe_op op_modN (pe_callTy call_int1 (by rfl) T.z_int bt_int (pa_cons (pv 3) pa_nil)) (pe_callB (k_len (K := K)) (by rfl) T.z_len bt_len (pa_cons (pe_dget (hu_of hr) (pv 0) pe_str (fun _ _ => rfl)) pa_nil))) (fun _ _ => rfl)) pe_int))
      (pss_cons (ps_set (i := 5) sc__law_next.nd rfl (Or.inl rfl) (pe_op op_mul (pe_callTy call_int1 (by rfl) T.z_int bt_int (pa_cons (pe_op op_add (pe_op op_add (pe_op op_modN (pe_callTy call_int1 (by rfl) T.z_int bt_int (pa_cons (pv 4) pa_nil)) pe_int) (pe_op op_mul pe_int (pv 3))) (pe_op op_mul (pe_op op_mul pe_int (pv 3)) (pv 3))) pa_nil)) pe_int))
      (pss_cons (ps_set (i := 5) sc__law_next.nd rfl (Or.inl rfl) (pe_op op_mul (pe_callTy call_int1 (by rfl) T.z_int bt_int (pa_cons (pe_op op_add (pe_op op_modN (pe_callTy call_int1 (by rfl) T.z_int bt_int (pa_cons (pv 5) pa_nil)) pe_int) (pe_op op_mul pe_int (pv 3))) pa_nil)) pe_int))
      (pss_one (ps_ret (pe_op op_modN (pe_callTy call_int1 (by rfl) T.z_int bt_int (pa_cons (pe_op op_fdivN (pe_op op_modN (pe_callTy call_int1 (by rfl) T.z_int bt_int (pa_cons (pv 5) pa_nil)) pe_int) pe_int) pa_nil)) (pv 1))))))))))), ?_⟩
  refine ⟨fun σ H' => σ = [some (.ref m), some (.int many), none, none, none, none] ∧ MS H' m n ∧ Ef m H H', ?_, ?_⟩
  · refine ⟨fun j σ H' => σ = [some (.ref m), some (.int many), none, none, none, none] ∧ Ef m H H' ∧ ∃ (c l : Addr) (ls : List Int), MAt H' m c l n ∧ H' l = some (.lst (ls.map V.int)) ∧ ls.length = j, ?_, ?_⟩
    · obtain ⟨c, l, M⟩ := M
      obtain ⟨ls, hl, _⟩ := M.ls
      exact ⟨ls.length, rfl, Ef.refl, c, l, ls, M, hl, rfl⟩
    · rintro j σ H1 ⟨rfl, e1, c, l, ls, M1, hl, rfl⟩
      refine ⟨_, rfl, m, _, rfl, M1.left, rd_ne_nil hl fun p hp => ?_⟩
      have s2 := same_upd hp (.lst [])
      have lp : l ≠ p := ne_of_none hl hp
      have M2 : MS (upd H1 p (.lst [])) m n := MS.same ⟨c, l, M1⟩ s2
      have e2 : Ef m H (upd H1 p (.lst [])) := e1.trans (Ef.ofSame ⟨c, l, M1⟩ s2)
      cases ls with
      | nil => exact ⟨_, rfl, iteF (iteF ⟨rfl, M2, e2⟩)⟩
      | cons z r =>
        obtain ⟨c', l', M2'⟩ := M2
        have dk2 := s2 _ _ M1.dk
        rw [M2'.dk] at dk2
        have ecl : c' = c ∧ l' = l := by
          have q := HO.dK.inj (Option.some.inj dk2)
          simp [mKvs] at q
          exact q
        obtain ⟨rfl, rfl⟩ := ecl
        have hl2 := s2 _ _ hl
        refine ⟨_, rfl, iteT ?_⟩
        refine ⟨_, rfl, m, _, rfl, M2'.left, l', _, _, V.int z, rfl, rfl, SqL.of hl2, at_zero, rfl, _, rfl, ?_⟩
        refine ite2 (fun _ => ?_) (fun _ => ⟨rfl, ⟨c', l', M2'⟩, e2⟩)
        refine ⟨fun σ' H' => σ' = [some (.ref m), some (.int many), none, none, none, none] ∧ Ef m H H' ∧ ∃ (c l : Addr) (ls : List Int), MAt H' m c l n ∧ H' l = some (.lst (ls.map V.int)) ∧ ls.length = r.length, ?_, ?_⟩
        · rintro σ' H' ⟨a1, a2, a3⟩
          exact ⟨r.length, Nat.lt_succ_self _, a1, a2, a3⟩
        · refine ⟨_, rfl, m, _, rfl, M2'.left, 1, rfl, l', _, rfl, SqL.of hl2, fun q hq => ?_⟩
          rw [cut_tail]
          have mq : m ≠ q := ne_of_none M2'.dk hq
          have s3 := same_upd hq (.lst (r.map V.int))
          refine ⟨_, rfl, m, _, rfl, DPut.k (k := kLeft) (s3 _ _ M2'.dk) (by show 3 < sizeLine; decide), ?_⟩
          have ep : putK (mKvs c' l' n) kLeft (.ref q) = mKvs c' q n := put3_2
          rw [ep]
          obtain ⟨cs, hc, hc2⟩ := M2'.cs
          obtain ⟨ls', hl3, hl4, hl5⟩ := M2'.ls
          have els : ls' = z :: r := map_int_inj (HO.lst.inj (Option.some.inj (hl3.symm.trans hl2)))
          subst els
          have cq : c' ≠ q := ne_of_none hc hq
          have cm : c' ≠ m := ne_of hc M2'.dk (by intro w; cases w)
          refine ⟨rfl, ?_, c', q, r, ⟨upd_same, ⟨cs, ?_, hc2⟩, ⟨r, ?_, ?_, ?_⟩, cq⟩, ?_, rfl⟩
          · refine e2.trans ⟨fun b o hb h1 _ => ?_, fun b hb => ?_, fun o ho => ⟨_, upd_same⟩⟩
            · rw [upd_ne h1, upd_ne (ne_of_none hb hq)]
              exact hb
            · obtain ⟨kvs, kk, w1, w2⟩ := hb
              rw [upd_same] at w1
              cases w1
              rcases mKvs_ref w2 with q1 | q1
              · rw [q1]
                exact .inl M2'.ownC
              · rw [q1]
                exact .inr hq
          · rw [upd_ne cm, upd_ne cq]
            exact hc
          · rw [upd_ne (Ne.symm mq), upd_same]
          · simp at hl4
            omega
          · exact fun y hy => hl5 y (List.mem_cons_of_mem _ hy)
          · rw [upd_ne (Ne.symm mq), upd_same]
  · rintro σ H1 ⟨rfl, M1, e1⟩
    obtain ⟨c, l, M1⟩ := M1
    obtain ⟨ls, hl, hl4, hl5⟩ := M1.ls
    refine ⟨_, rfl, m, _, rfl, M1.left, rd_ne_nil hl fun p hp => ⟨_, rfl, ?_⟩⟩
    have s2 := same_upd hp (.lst [])
    have M2 : MAt (upd H1 p (.lst [])) m c l n := M1.same s2
    have e2 : Ef m H (upd H1 p (.lst [])) := e1.trans (Ef.ofSame ⟨c, l, M1⟩ s2)
    have hl2 := s2 _ _ hl
    have lm : l ≠ m := ne_of hl2 M2.dk (by intro w; cases w)
    cases ls with
    | cons z r =>
      refine iteT ?_
      refine ⟨_, rfl, m, _, rfl, M2.left, l, _, _, V.int z, rfl, rfl, SqL.of hl2, at_zero, .inl ⟨_, rfl, ?_⟩⟩
      refine ⟨_, rfl, _, rfl, _, _, rfl, rfl, ⟨h0, log_ok h0 h9⟩, _, rfl, m, _, rfl, M2.left, l, _, 0, 0, rfl, rfl, hl2, by simp [ixN], ?_⟩
      refine ⟨_, rfl, _, rfl, _, _, rfl, rfl, by omega, ?_⟩
      refine k _ n _ (Int.fmod_nonneg_of_pos _ h0) (Int.fmod_lt_of_pos _ h0) (Nat.le_succ n) ⟨c, l, ?_, ?_, ⟨(z / many) :: r, ?_, hl4, ?_⟩, M2.cl⟩ (e2.trans ⟨fun b o hb h1 h2 => ?_, fun b hb => ?_, fun o ho => ⟨o, ?_⟩⟩)
      · rw [upd_ne (Ne.symm lm)]
        exact M2.dk
      · obtain ⟨cs, hc, hc2⟩ := M2.cs
        exact ⟨cs, by rw [upd_ne M2.cl]; exact hc, hc2⟩
      · rw [upd_same]
        all_goals rfl
      · intro y hy
        rcases List.mem_cons.mp hy with q | q
        · rw [q]
          exact Int.ediv_nonneg (hl5 z List.mem_cons_self) (by omega)
        · exact hl5 y (List.mem_cons_of_mem _ q)
      · rw [upd_ne (fun q => h2 (by rw [q]; exact M2.ownL))]
        exact hb
      · exact .inl (hb.upd (Ne.symm lm))
      · rw [upd_ne (Ne.symm lm)]
        exact ho
    | nil =>
      refine iteF ?_
      refine ⟨_, rfl, m, _, rfl, M2.at, _, _, rfl, rfl, ?_⟩
      refine ⟨_, rfl, _, rfl, m, _, rfl, DPut.k (k := kAt) M2.dk (by show 3 < sizeLine; decide), ?_⟩
      have ep : putK (mKvs c l n) kAt (.int ((n : Int) + 1)) = mKvs c l (n + 1) := put3_3
      rw [ep]
      have M3 : MAt (upd (upd H1 p (.lst [])) m (.dK (mKvs c l (n + 1)))) m c l (n + 1) := by
        obtain ⟨cs, hc, hc2⟩ := M2.cs
        obtain ⟨ls', q1, q2, q3⟩ := M2.ls
        exact ⟨upd_same, ⟨cs, by rw [upd_ne (ne_of hc M2.dk (by intro w; cases w))]; exact hc, hc2⟩, ⟨ls', by rw [upd_ne lm]; exact q1, q2, q3⟩, M2.cl⟩
      have e3 : Ef m H (upd (upd H1 p (.lst [])) m (.dK (mKvs c l (n + 1)))) := by
        refine e2.trans ⟨fun b o hb h1 _ => by rw [upd_ne h1]; exact hb, fun b hb => ?_, fun o _ => ⟨_, upd_same⟩⟩
        obtain ⟨kvs, kk, w1, w2⟩ := hb
        rw [upd_same] at w1
        cases w1
        rcases mKvs_ref w2 with q1 | q1
        · rw [q1]
          exact .inl M2.ownC
        · rw [q1]
          exact .inl M2.ownL
      dsimp only
      refine seq_cut (fun v H' => ∃ i : Int, v = .int i ∧ MS H' m (n + 1) ∧ Ef m H H') (fun Q' k' => ?_) ?_
      · obtain ⟨cs, hc, hc2⟩ := M3.cs
        refine ⟨_, rfl, m, _, rfl, M3.cells, rd_ne_nil hc fun q hq => ⟨_, rfl, ?_⟩⟩
        have s4 := same_upd hq (.lst [])
        have M4 := M3.same s4
        have e4 := e3.trans (Ef.ofSame ⟨c, l, M3⟩ s4)
        have hc4 := s4 _ _ hc
        cases cs with
        | nil => exact iteF (k' _ _ ⟨3, rfl, ⟨c, l, M4⟩, e4⟩)
        | cons z r =>
          refine iteT ?_
          have hp0 : (0 : Int) < (((z :: r).map V.int).length : Int) := by
            rw [List.length_map, List.length_cons]
            omega
          obtain ⟨v, hv⟩ := at_mod (n + 1 : Int) (xs := z :: r) hp0
          refine ⟨_, rfl, m, _, rfl, M4.cells, _, rfl, .inl ⟨_, rfl, _, rfl, m, _, rfl, M4.cells, c, _, rfl, .inl (SqL.of hc4), _, _, rfl, rfl, by omega, c, _, _, V.int v, rfl, rfl, SqL.of hc4, hv, ?_⟩⟩
          exact k' _ _ ⟨v, rfl, ⟨c, l, M4⟩, e4⟩
      · rintro v H4 ⟨i, rfl, M4, e4⟩
        have z0 : (0 : Int) ≤ (n : Int) + 1 := by omega
        have z1 : ((n : Int) + 1) < 2 ^ 41 := by
          have hn' : ((n : Nat) : Int) < ((2 ^ 40 : Nat) : Int) := Int.ofNat_lt.mpr hn
          have : ((2 ^ 40 : Nat) : Int) = 1099511627776 := by decide
          omega
        refine ⟨_, rfl, .inl ⟨_, rfl, _, _, rfl, rfl, by omega, _, rfl, _, _, rfl, rfl, .inl (by decide), _, _, rfl, rfl, ?_⟩⟩
        refine ⟨_, rfl, _, _, rfl, rfl, .inl (by decide), _, rfl, _, _, rfl, rfl, .inl (by constructor <;> omega), _, _, rfl, rfl, .inl ⟨_, rfl, _, _, rfl, rfl, .inr (by decide), ?_⟩⟩
        refine ⟨_, rfl, .inl ⟨_, rfl, _, _, rfl, rfl, by omega, _, rfl, _, _, rfl, rfl, .inl (by decide), _, _, rfl, rfl, .inl ⟨_, rfl, _, _, rfl, rfl, .inr (by decide), ?_⟩⟩⟩
        refine ⟨_, rfl, .inl ⟨_, rfl, _, _, rfl, rfl, by omega, _, _, rfl, rfl, ⟨by decide, by decide⟩, .inl ⟨_, rfl, _, rfl, _, _, rfl, rfl, by omega, ?_⟩⟩⟩
        exact k _ (n + 1) _ (Int.fmod_nonneg_of_pos _ h0) (Int.fmod_lt_of_pos _ h0) (Nat.le_refl _) M4 e4
end
theorem kits {K : PySem.W.Frag} {mg : Str → Option Value} (T : Top K mg) : ∀ (i j : Nat) (C D : Addr), ([T.x_BadLoops.C, T.x_BadLengths.C, T.x_BadPedal.C, T.x_BadRow.C, T.x_BadPaper.C, T.x_BadText.C, T.x_OutOfPlace.C, T.x_TooGreat.C, T.x_Nothing.C])[i]? = some C → ([T.x_BadLoops.C, T.x_BadLengths.C, T.x_BadPedal.C, T.x_BadRow.C, T.x_BadPaper.C, T.x_BadText.C, T.x_OutOfPlace.C, T.x_TooGreat.C, T.x_Nothing.C])[j]? = some D → PySem.W.kitOne K (.ref C) (.ref D) = some (decide (j = i))
  | 0, 0, _, _, hi, hj => by
    obtain rfl := Option.some.inj hi
    obtain rfl := Option.some.inj hj
    exact kit_me
  | 0, 1, _, _, hi, hj => by
    obtain rfl := Option.some.inj hi
    obtain rfl := Option.some.inj hj
    exact kit_apart T.x_BadLoops.te T.y_BadLoops_BadLengths
  | 0, 2, _, _, hi, hj => by
    obtain rfl := Option.some.inj hi
    obtain rfl := Option.some.inj hj
    exact kit_apart T.x_BadLoops.te T.y_BadLoops_BadPedal
  | 0, 3, _, _, hi, hj => by
    obtain rfl := Option.some.inj hi
    obtain rfl := Option.some.inj hj
    exact kit_apart T.x_BadLoops.te T.y_BadLoops_BadRow
  | 0, 4, _, _, hi, hj => by
    obtain rfl := Option.some.inj hi
    obtain rfl := Option.some.inj hj
    exact kit_apart T.x_BadLoops.te T.y_BadLoops_BadPaper
  | 0, 5, _, _, hi, hj => by
    obtain rfl := Option.some.inj hi
    obtain rfl := Option.some.inj hj
    exact kit_apart T.x_BadLoops.te T.y_BadLoops_BadText
  | 0, 6, _, _, hi, hj => by
    obtain rfl := Option.some.inj hi
    obtain rfl := Option.some.inj hj
    exact kit_apart T.x_BadLoops.te T.y_BadLoops_OutOfPlace
  | 0, 7, _, _, hi, hj => by
    obtain rfl := Option.some.inj hi
    obtain rfl := Option.some.inj hj
    exact kit_apart T.x_BadLoops.te T.y_BadLoops_TooGreat
  | 0, 8, _, _, hi, hj => by
    obtain rfl := Option.some.inj hi
    obtain rfl := Option.some.inj hj
    exact kit_apart T.x_BadLoops.te T.y_BadLoops_Nothing
  | 1, 0, _, _, hi, hj => by
    obtain rfl := Option.some.inj hi
    obtain rfl := Option.some.inj hj
    exact kit_apart T.x_BadLengths.te T.y_BadLengths_BadLoops
  | 1, 1, _, _, hi, hj => by
    obtain rfl := Option.some.inj hi
    obtain rfl := Option.some.inj hj
    exact kit_me
  | 1, 2, _, _, hi, hj => by
    obtain rfl := Option.some.inj hi
    obtain rfl := Option.some.inj hj
    exact kit_apart T.x_BadLengths.te T.y_BadLengths_BadPedal
  | 1, 3, _, _, hi, hj => by
    obtain rfl := Option.some.inj hi
    obtain rfl := Option.some.inj hj
    exact kit_apart T.x_BadLengths.te T.y_BadLengths_BadRow
  | 1, 4, _, _, hi, hj => by
    obtain rfl := Option.some.inj hi
    obtain rfl := Option.some.inj hj
    exact kit_apart T.x_BadLengths.te T.y_BadLengths_BadPaper
  | 1, 5, _, _, hi, hj => by
    obtain rfl := Option.some.inj hi
    obtain rfl := Option.some.inj hj
    exact kit_apart T.x_BadLengths.te T.y_BadLengths_BadText
  | 1, 6, _, _, hi, hj => by
    obtain rfl := Option.some.inj hi
    obtain rfl := Option.some.inj hj
    exact kit_apart T.x_BadLengths.te T.y_BadLengths_OutOfPlace
  | 1, 7, _, _, hi, hj => by
    obtain rfl := Option.some.inj hi
    obtain rfl := Option.some.inj hj
    exact kit_apart T.x_BadLengths.te T.y_BadLengths_TooGreat
  | 1, 8, _, _, hi, hj => by
    obtain rfl := Option.some.inj hi
    obtain rfl := Option.some.inj hj
    exact kit_apart T.x_BadLengths.te T.y_BadLengths_Nothing
  | 2, 0, _, _, hi, hj => by
    obtain rfl := Option.some.inj hi
    obtain rfl := Option.some.inj hj
    exact kit_apart T.x_BadPedal.te T.y_BadPedal_BadLoops
  | 2, 1, _, _, hi, hj => by
    obtain rfl := Option.some.inj hi
    obtain rfl := Option.some.inj hj
    exact kit_apart T.x_BadPedal.te T.y_BadPedal_BadLengths
  | 2, 2, _, _, hi, hj => by
    obtain rfl := Option.some.inj hi
    obtain rfl := Option.some.inj hj
    exact kit_me
  | 2, 3, _, _, hi, hj => by
    obtain rfl := Option.some.inj hi
    obtain rfl := Option.some.inj hj
    exact kit_apart T.x_BadPedal.te T.y_BadPedal_BadRow
  | 2, 4, _, _, hi, hj => by
    obtain rfl := Option.some.inj hi
    obtain rfl := Option.some.inj hj
    exact kit_apart T.x_BadPedal.te T.y_BadPedal_BadPaper
  | 2, 5, _, _, hi, hj => by
    obtain rfl := Option.some.inj hi
    obtain rfl := Option.some.inj hj
    exact kit_apart T.x_BadPedal.te T.y_BadPedal_BadText
  | 2, 6, _, _, hi, hj => by
    obtain rfl := Option.some.inj hi
    obtain rfl := Option.some.inj hj
    exact kit_apart T.x_BadPedal.te T.y_BadPedal_OutOfPlace
  | 2, 7, _, _, hi, hj => by
    obtain rfl := Option.some.inj hi
    obtain rfl := Option.some.inj hj
    exact kit_apart T.x_BadPedal.te T.y_BadPedal_TooGreat
  | 2, 8, _, _, hi, hj => by
    obtain rfl := Option.some.inj hi
    obtain rfl := Option.some.inj hj
    exact kit_apart T.x_BadPedal.te T.y_BadPedal_Nothing
  | 3, 0, _, _, hi, hj => by
    obtain rfl := Option.some.inj hi
    obtain rfl := Option.some.inj hj
    exact kit_apart T.x_BadRow.te T.y_BadRow_BadLoops
  | 3, 1, _, _, hi, hj => by
    obtain rfl := Option.some.inj hi
    obtain rfl := Option.some.inj hj
    exact kit_apart T.x_BadRow.te T.y_BadRow_BadLengths
  | 3, 2, _, _, hi, hj => by
    obtain rfl := Option.some.inj hi
    obtain rfl := Option.some.inj hj
    exact kit_apart T.x_BadRow.te T.y_BadRow_BadPedal
  | 3, 3, _, _, hi, hj => by
    obtain rfl := Option.some.inj hi
    obtain rfl := Option.some.inj hj
    exact kit_me
  | 3, 4, _, _, hi, hj => by
    obtain rfl := Option.some.inj hi
    obtain rfl := Option.some.inj hj
    exact kit_apart T.x_BadRow.te T.y_BadRow_BadPaper
  | 3, 5, _, _, hi, hj => by
    obtain rfl := Option.some.inj hi
    obtain rfl := Option.some.inj hj
    exact kit_apart T.x_BadRow.te T.y_BadRow_BadText
  | 3, 6, _, _, hi, hj => by
    obtain rfl := Option.some.inj hi
    obtain rfl := Option.some.inj hj
    exact kit_apart T.x_BadRow.te T.y_BadRow_OutOfPlace
  | 3, 7, _, _, hi, hj => by
    obtain rfl := Option.some.inj hi
    obtain rfl := Option.some.inj hj
    exact kit_apart T.x_BadRow.te T.y_BadRow_TooGreat
  | 3, 8, _, _, hi, hj => by
    obtain rfl := Option.some.inj hi
    obtain rfl := Option.some.inj hj
    exact kit_apart T.x_BadRow.te T.y_BadRow_Nothing
  | 4, 0, _, _, hi, hj => by
    obtain rfl := Option.some.inj hi
    obtain rfl := Option.some.inj hj
    exact kit_apart T.x_BadPaper.te T.y_BadPaper_BadLoops
  | 4, 1, _, _, hi, hj => by
    obtain rfl := Option.some.inj hi
    obtain rfl := Option.some.inj hj
    exact kit_apart T.x_BadPaper.te T.y_BadPaper_BadLengths
  | 4, 2, _, _, hi, hj => by
    obtain rfl := Option.some.inj hi
    obtain rfl := Option.some.inj hj
    exact kit_apart T.x_BadPaper.te T.y_BadPaper_BadPedal
  | 4, 3, _, _, hi, hj => by
    obtain rfl := Option.some.inj hi
    obtain rfl := Option.some.inj hj
    exact kit_apart T.x_BadPaper.te T.y_BadPaper_BadRow
  | 4, 4, _, _, hi, hj => by
    obtain rfl := Option.some.inj hi
    obtain rfl := Option.some.inj hj
    exact kit_me
  | 4, 5, _, _, hi, hj => by
    obtain rfl := Option.some.inj hi
    obtain rfl := Option.some.inj hj
    exact kit_apart T.x_BadPaper.te T.y_BadPaper_BadText
  | 4, 6, _, _, hi, hj => by
    obtain rfl := Option.some.inj hi
    obtain rfl := Option.some.inj hj
    exact kit_apart T.x_BadPaper.te T.y_BadPaper_OutOfPlace
  | 4, 7, _, _, hi, hj => by
    obtain rfl := Option.some.inj hi
    obtain rfl := Option.some.inj hj
    exact kit_apart T.x_BadPaper.te T.y_BadPaper_TooGreat
  | 4, 8, _, _, hi, hj => by
    obtain rfl := Option.some.inj hi
    obtain rfl := Option.some.inj hj
    exact kit_apart T.x_BadPaper.te T.y_BadPaper_Nothing
  | 5, 0, _, _, hi, hj => by
    obtain rfl := Option.some.inj hi
    obtain rfl := Option.some.inj hj
    exact kit_apart T.x_BadText.te T.y_BadText_BadLoops
  | 5, 1, _, _, hi, hj => by
    obtain rfl := Option.some.inj hi
    obtain rfl := Option.some.inj hj
    exact kit_apart T.x_BadText.te T.y_BadText_BadLengths
  | 5, 2, _, _, hi, hj => by
    obtain rfl := Option.some.inj hi
    obtain rfl := Option.some.inj hj
    exact kit_apart T.x_BadText.te T.y_BadText_BadPedal
  | 5, 3, _, _, hi, hj => by
    obtain rfl := Option.some.inj hi
    obtain rfl := Option.some.inj hj
    exact kit_apart T.x_BadText.te T.y_BadText_BadRow
  | 5, 4, _, _, hi, hj => by
    obtain rfl := Option.some.inj hi
    obtain rfl := Option.some.inj hj
    exact kit_apart T.x_BadText.te T.y_BadText_BadPaper
  | 5, 5, _, _, hi, hj => by
    obtain rfl := Option.some.inj hi
    obtain rfl := Option.some.inj hj
    exact kit_me
  | 5, 6, _, _, hi, hj => by
    obtain rfl := Option.some.inj hi
    obtain rfl := Option.some.inj hj
    exact kit_apart T.x_BadText.te T.y_BadText_OutOfPlace
  | 5, 7, _, _, hi, hj => by
    obtain rfl := Option.some.inj hi
    obtain rfl := Option.some.inj hj
    exact kit_apart T.x_BadText.te T.y_BadText_TooGreat
  | 5, 8, _, _, hi, hj => by
    obtain rfl := Option.some.inj hi
    obtain rfl := Option.some.inj hj
    exact kit_apart T.x_BadText.te T.y_BadText_Nothing
  | 6, 0, _, _, hi, hj => by
    obtain rfl := Option.some.inj hi
    obtain rfl := Option.some.inj hj
    exact kit_apart T.x_OutOfPlace.te T.y_OutOfPlace_BadLoops
  | 6, 1, _, _, hi, hj => by
    obtain rfl := Option.some.inj hi
    obtain rfl := Option.some.inj hj
    exact kit_apart T.x_OutOfPlace.te T.y_OutOfPlace_BadLengths
  | 6, 2, _, _, hi, hj => by
    obtain rfl := Option.some.inj hi
    obtain rfl := Option.some.inj hj
    exact kit_apart T.x_OutOfPlace.te T.y_OutOfPlace_BadPedal
  | 6, 3, _, _, hi, hj => by
    obtain rfl := Option.some.inj hi
    obtain rfl := Option.some.inj hj
    exact kit_apart T.x_OutOfPlace.te T.y_OutOfPlace_BadRow
  | 6, 4, _, _, hi, hj => by
    obtain rfl := Option.some.inj hi
    obtain rfl := Option.some.inj hj
    exact kit_apart T.x_OutOfPlace.te T.y_OutOfPlace_BadPaper
  | 6, 5, _, _, hi, hj => by
    obtain rfl := Option.some.inj hi
    obtain rfl := Option.some.inj hj
    exact kit_apart T.x_OutOfPlace.te T.y_OutOfPlace_BadText
  | 6, 6, _, _, hi, hj => by
    obtain rfl := Option.some.inj hi
    obtain rfl := Option.some.inj hj
    exact kit_me
  | 6, 7, _, _, hi, hj => by
    obtain rfl := Option.some.inj hi
    obtain rfl := Option.some.inj hj
    exact kit_apart T.x_OutOfPlace.te T.y_OutOfPlace_TooGreat
  | 6, 8, _, _, hi, hj => by
    obtain rfl := Option.some.inj hi
    obtain rfl := Option.some.inj hj
    exact kit_apart T.x_OutOfPlace.te T.y_OutOfPlace_Nothing
  | 7, 0, _, _, hi, hj => by
    obtain rfl := Option.some.inj hi
    obtain rfl := Option.some.inj hj
    exact kit_apart T.x_TooGreat.te T.y_TooGreat_BadLoops
  | 7, 1, _, _, hi, hj => by
    obtain rfl := Option.some.inj hi
    obtain rfl := Option.some.inj hj
    exact kit_apart T.x_TooGreat.te T.y_TooGreat_BadLengths
  | 7, 2, _, _, hi, hj => by
    obtain rfl := Option.some.inj hi
    obtain rfl := Option.some.inj hj
    exact kit_apart T.x_TooGreat.te T.y_TooGreat_BadPedal
  | 7, 3, _, _, hi, hj => by
    obtain rfl := Option.some.inj hi
    obtain rfl := Option.some.inj hj
    exact kit_apart T.x_TooGreat.te T.y_TooGreat_BadRow
  | 7, 4, _, _, hi, hj => by
    obtain rfl := Option.some.inj hi
    obtain rfl := Option.some.inj hj
    exact kit_apart T.x_TooGreat.te T.y_TooGreat_BadPaper
  | 7, 5, _, _, hi, hj => by
    obtain rfl := Option.some.inj hi
    obtain rfl := Option.some.inj hj
    exact kit_apart T.x_TooGreat.te T.y_TooGreat_BadText
  | 7, 6, _, _, hi, hj => by
    obtain rfl := Option.some.inj hi
    obtain rfl := Option.some.inj hj
    exact kit_apart T.x_TooGreat.te T.y_TooGreat_OutOfPlace
  | 7, 7, _, _, hi, hj => by
    obtain rfl := Option.some.inj hi
    obtain rfl := Option.some.inj hj
    exact kit_me
  | 7, 8, _, _, hi, hj => by
    obtain rfl := Option.some.inj hi
    obtain rfl := Option.some.inj hj
    exact kit_apart T.x_TooGreat.te T.y_TooGreat_Nothing
  | 8, 0, _, _, hi, hj => by
    obtain rfl := Option.some.inj hi
    obtain rfl := Option.some.inj hj
    exact kit_apart T.x_Nothing.te T.y_Nothing_BadLoops
  | 8, 1, _, _, hi, hj => by
    obtain rfl := Option.some.inj hi
    obtain rfl := Option.some.inj hj
    exact kit_apart T.x_Nothing.te T.y_Nothing_BadLengths
  | 8, 2, _, _, hi, hj => by
    obtain rfl := Option.some.inj hi
    obtain rfl := Option.some.inj hj
    exact kit_apart T.x_Nothing.te T.y_Nothing_BadPedal
  | 8, 3, _, _, hi, hj => by
    obtain rfl := Option.some.inj hi
    obtain rfl := Option.some.inj hj
    exact kit_apart T.x_Nothing.te T.y_Nothing_BadRow
  | 8, 4, _, _, hi, hj => by
    obtain rfl := Option.some.inj hi
    obtain rfl := Option.some.inj hj
    exact kit_apart T.x_Nothing.te T.y_Nothing_BadPaper
  | 8, 5, _, _, hi, hj => by
    obtain rfl := Option.some.inj hi
    obtain rfl := Option.some.inj hj
    exact kit_apart T.x_Nothing.te T.y_Nothing_BadText
  | 8, 6, _, _, hi, hj => by
    obtain rfl := Option.some.inj hi
    obtain rfl := Option.some.inj hj
    exact kit_apart T.x_Nothing.te T.y_Nothing_OutOfPlace
  | 8, 7, _, _, hi, hj => by
    obtain rfl := Option.some.inj hi
    obtain rfl := Option.some.inj hj
    exact kit_apart T.x_Nothing.te T.y_Nothing_TooGreat
  | 8, 8, _, _, hi, hj => by
    obtain rfl := Option.some.inj hi
    obtain rfl := Option.some.inj hj
    exact kit_me
  | 0, j + 9, _, _, _, hj => by cases hj
  | 1, j + 9, _, _, _, hj => by cases hj
  | 2, j + 9, _, _, _, hj => by cases hj
  | 3, j + 9, _, _, _, hj => by cases hj
  | 4, j + 9, _, _, _, hj => by cases hj
  | 5, j + 9, _, _, _, hj => by cases hj
  | 6, j + 9, _, _, _, hj => by cases hj
  | 7, j + 9, _, _, _, hj => by cases hj
  | 8, j + 9, _, _, _, hj => by cases hj
  | i + 9, j, _, _, hi, _ => by cases hi
theorem eCs {K : PySem.W.Frag} {mg : Str → Option Value} (T : Top K mg) : ∀ (i : Nat) (C : Addr), ([T.x_BadLoops.C, T.x_BadLengths.C, T.x_BadPedal.C, T.x_BadRow.C, T.x_BadPaper.C, T.x_BadText.C, T.x_OutOfPlace.C, T.x_TooGreat.C, T.x_Nothing.C])[i]? = some C → ExcC K C
  | 0, _, hi => by
    obtain rfl := Option.some.inj hi
    exact T.e_BadLoops
  | 1, _, hi => by
    obtain rfl := Option.some.inj hi
    exact T.e_BadLengths
  | 2, _, hi => by
    obtain rfl := Option.some.inj hi
    exact T.e_BadPedal
  | 3, _, hi => by
    obtain rfl := Option.some.inj hi
    exact T.e_BadRow
  | 4, _, hi => by
    obtain rfl := Option.some.inj hi
    exact T.e_BadPaper
  | 5, _, hi => by
    obtain rfl := Option.some.inj hi
    exact T.e_BadText
  | 6, _, hi => by
    obtain rfl := Option.some.inj hi
    exact T.e_OutOfPlace
  | 7, _, hi => by
    obtain rfl := Option.some.inj hi
    exact T.e_TooGreat
  | 8, _, hi => by
    obtain rfl := Option.some.inj hi
    exact T.e_Nothing
  | i + 9, _, hi => by cases hi
theorem kitValueError {K : PySem.W.Frag} {mg : Str → Option Value} (T : Top K mg) : ∀ (i : Nat) (C : Addr), ([T.x_BadLoops.C, T.x_BadLengths.C, T.x_BadPedal.C, T.x_BadRow.C, T.x_BadPaper.C, T.x_BadText.C, T.x_OutOfPlace.C, T.x_TooGreat.C, T.x_Nothing.C])[i]? = some C → PySem.W.kitOne K (.ref C) (.type "ValueError") = some (decide (i < 7))
  | 0, _, hi => by
    obtain rfl := Option.some.inj hi
    exact (kit_vT T.x_BadLoops.ox "ValueError" (by decide +kernel)).trans (by decide +kernel)
  | 1, _, hi => by
    obtain rfl := Option.some.inj hi
    exact (kit_vT T.x_BadLengths.ox "ValueError" (by decide +kernel)).trans (by decide +kernel)
  | 2, _, hi => by
    obtain rfl := Option.some.inj hi
    exact (kit_vT T.x_BadPedal.ox "ValueError" (by decide +kernel)).trans (by decide +kernel)
  | 3, _, hi => by
    obtain rfl := Option.some.inj hi
    exact (kit_vT T.x_BadRow.ox "ValueError" (by decide +kernel)).trans (by decide +kernel)
  | 4, _, hi => by
    obtain rfl := Option.some.inj hi
    exact (kit_vT T.x_BadPaper.ox "ValueError" (by decide +kernel)).trans (by decide +kernel)
  | 5, _, hi => by
    obtain rfl := Option.some.inj hi
    exact (kit_vT T.x_BadText.ox "ValueError" (by decide +kernel)).trans (by decide +kernel)
  | 6, _, hi => by
    obtain rfl := Option.some.inj hi
    exact (kit_vT T.x_OutOfPlace.ox "ValueError" (by decide +kernel)).trans (by decide +kernel)
  | 7, _, hi => by
    obtain rfl := Option.some.inj hi
    exact (kit_oT T.x_TooGreat.ox "ValueError" (by decide +kernel)).trans (by decide +kernel)
  | 8, _, hi => by
    obtain rfl := Option.some.inj hi
    exact (kit_oT T.x_Nothing.ox "ValueError" (by decide +kernel)).trans (by decide +kernel)
  | i + 9, _, hi => by cases hi
theorem kitOverflowError {K : PySem.W.Frag} {mg : Str → Option Value} (T : Top K mg) : ∀ (i : Nat) (C : Addr), ([T.x_BadLoops.C, T.x_BadLengths.C, T.x_BadPedal.C, T.x_BadRow.C, T.x_BadPaper.C, T.x_BadText.C, T.x_OutOfPlace.C, T.x_TooGreat.C, T.x_Nothing.C])[i]? = some C → PySem.W.kitOne K (.ref C) (.type "OverflowError") = some (decide (i = 7))
  | 0, _, hi => by
    obtain rfl := Option.some.inj hi
    exact (kit_vT T.x_BadLoops.ox "OverflowError" (by decide +kernel)).trans (by decide +kernel)
  | 1, _, hi => by
    obtain rfl := Option.some.inj hi
    exact (kit_vT T.x_BadLengths.ox "OverflowError" (by decide +kernel)).trans (by decide +kernel)
  | 2, _, hi => by
    obtain rfl := Option.some.inj hi
    exact (kit_vT T.x_BadPedal.ox "OverflowError" (by decide +kernel)).trans (by decide +kernel)
  | 3, _, hi => by
    obtain rfl := Option.some.inj hi
    exact (kit_vT T.x_BadRow.ox "OverflowError" (by decide +kernel)).trans (by decide +kernel)
  | 4, _, hi => by
    obtain rfl := Option.some.inj hi
    exact (kit_vT T.x_BadPaper.ox "OverflowError" (by decide +kernel)).trans (by decide +kernel)
  | 5, _, hi => by
    obtain rfl := Option.some.inj hi
    exact (kit_vT T.x_BadText.ox "OverflowError" (by decide +kernel)).trans (by decide +kernel)
  | 6, _, hi => by
    obtain rfl := Option.some.inj hi
    exact (kit_vT T.x_OutOfPlace.ox "OverflowError" (by decide +kernel)).trans (by decide +kernel)
  | 7, _, hi => by
    obtain rfl := Option.some.inj hi
    exact (kit_oT T.x_TooGreat.ox "OverflowError" (by decide +kernel)).trans (by decide +kernel)
  | 8, _, hi => by
    obtain rfl := Option.some.inj hi
    exact (kit_oT T.x_Nothing.ox "OverflowError" (by decide +kernel)).trans (by decide +kernel)
  | i + 9, _, hi => by cases hi
theorem kitLookupError {K : PySem.W.Frag} {mg : Str → Option Value} (T : Top K mg) : ∀ (i : Nat) (C : Addr), ([T.x_BadLoops.C, T.x_BadLengths.C, T.x_BadPedal.C, T.x_BadRow.C, T.x_BadPaper.C, T.x_BadText.C, T.x_OutOfPlace.C, T.x_TooGreat.C, T.x_Nothing.C])[i]? = some C → PySem.W.kitOne K (.ref C) (.type "LookupError") = some (decide (i = 8))
  | 0, _, hi => by
    obtain rfl := Option.some.inj hi
    exact (kit_vT T.x_BadLoops.ox "LookupError" (by decide +kernel)).trans (by decide +kernel)
  | 1, _, hi => by
    obtain rfl := Option.some.inj hi
    exact (kit_vT T.x_BadLengths.ox "LookupError" (by decide +kernel)).trans (by decide +kernel)
  | 2, _, hi => by
    obtain rfl := Option.some.inj hi
    exact (kit_vT T.x_BadPedal.ox "LookupError" (by decide +kernel)).trans (by decide +kernel)
  | 3, _, hi => by
    obtain rfl := Option.some.inj hi
    exact (kit_vT T.x_BadRow.ox "LookupError" (by decide +kernel)).trans (by decide +kernel)
  | 4, _, hi => by
    obtain rfl := Option.some.inj hi
    exact (kit_vT T.x_BadPaper.ox "LookupError" (by decide +kernel)).trans (by decide +kernel)
  | 5, _, hi => by
    obtain rfl := Option.some.inj hi
    exact (kit_vT T.x_BadText.ox "LookupError" (by decide +kernel)).trans (by decide +kernel)
  | 6, _, hi => by
    obtain rfl := Option.some.inj hi
    exact (kit_vT T.x_OutOfPlace.ox "LookupError" (by decide +kernel)).trans (by decide +kernel)
  | 7, _, hi => by
    obtain rfl := Option.some.inj hi
    exact (kit_oT T.x_TooGreat.ox "LookupError" (by decide +kernel)).trans (by decide +kernel)
  | 8, _, hi => by
    obtain rfl := Option.some.inj hi
    exact (kit_oT T.x_Nothing.ox "LookupError" (by decide +kernel)).trans (by decide +kernel)
  | i + 9, _, hi => by cases hi
theorem kitKeyError {K : PySem.W.Frag} {mg : Str → Option Value} (T : Top K mg) : ∀ (i : Nat) (C : Addr), ([T.x_BadLoops.C, T.x_BadLengths.C, T.x_BadPedal.C, T.x_BadRow.C, T.x_BadPaper.C, T.x_BadText.C, T.x_OutOfPlace.C, T.x_TooGreat.C, T.x_Nothing.C])[i]? = some C → PySem.W.kitOne K (.ref C) (.type "KeyError") = some false
  | 0, _, hi => by
    obtain rfl := Option.some.inj hi
    exact (kit_vT T.x_BadLoops.ox "KeyError" (by decide +kernel)).trans (by decide +kernel)
  | 1, _, hi => by
    obtain rfl := Option.some.inj hi
    exact (kit_vT T.x_BadLengths.ox "KeyError" (by decide +kernel)).trans (by decide +kernel)
  | 2, _, hi => by
    obtain rfl := Option.some.inj hi
    exact (kit_vT T.x_BadPedal.ox "KeyError" (by decide +kernel)).trans (by decide +kernel)
  | 3, _, hi => by
    obtain rfl := Option.some.inj hi
    exact (kit_vT T.x_BadRow.ox "KeyError" (by decide +kernel)).trans (by decide +kernel)
  | 4, _, hi => by
    obtain rfl := Option.some.inj hi
    exact (kit_vT T.x_BadPaper.ox "KeyError" (by decide +kernel)).trans (by decide +kernel)
  | 5, _, hi => by
    obtain rfl := Option.some.inj hi
    exact (kit_vT T.x_BadText.ox "KeyError" (by decide +kernel)).trans (by decide +kernel)
  | 6, _, hi => by
    obtain rfl := Option.some.inj hi
    exact (kit_vT T.x_OutOfPlace.ox "KeyError" (by decide +kernel)).trans (by decide +kernel)
  | 7, _, hi => by
    obtain rfl := Option.some.inj hi
    exact (kit_oT T.x_TooGreat.ox "KeyError" (by decide +kernel)).trans (by decide +kernel)
  | 8, _, hi => by
    obtain rfl := Option.some.inj hi
    exact (kit_oT T.x_Nothing.ox "KeyError" (by decide +kernel)).trans (by decide +kernel)
  | i + 9, _, hi => by cases hi
theorem kitIndexError {K : PySem.W.Frag} {mg : Str → Option Value} (T : Top K mg) : ∀ (i : Nat) (C : Addr), ([T.x_BadLoops.C, T.x_BadLengths.C, T.x_BadPedal.C, T.x_BadRow.C, T.x_BadPaper.C, T.x_BadText.C, T.x_OutOfPlace.C, T.x_TooGreat.C, T.x_Nothing.C])[i]? = some C → PySem.W.kitOne K (.ref C) (.type "IndexError") = some false
  | 0, _, hi => by
    obtain rfl := Option.some.inj hi
    exact (kit_vT T.x_BadLoops.ox "IndexError" (by decide +kernel)).trans (by decide +kernel)
  | 1, _, hi => by
    obtain rfl := Option.some.inj hi
    exact (kit_vT T.x_BadLengths.ox "IndexError" (by decide +kernel)).trans (by decide +kernel)
  | 2, _, hi => by
    obtain rfl := Option.some.inj hi
    exact (kit_vT T.x_BadPedal.ox "IndexError" (by decide +kernel)).trans (by decide +kernel)
  | 3, _, hi => by
    obtain rfl := Option.some.inj hi
    exact (kit_vT T.x_BadRow.ox "IndexError" (by decide +kernel)).trans (by decide +kernel)
  | 4, _, hi => by
    obtain rfl := Option.some.inj hi
    exact (kit_vT T.x_BadPaper.ox "IndexError" (by decide +kernel)).trans (by decide +kernel)
  | 5, _, hi => by
    obtain rfl := Option.some.inj hi
    exact (kit_vT T.x_BadText.ox "IndexError" (by decide +kernel)).trans (by decide +kernel)
  | 6, _, hi => by
    obtain rfl := Option.some.inj hi
    exact (kit_vT T.x_OutOfPlace.ox "IndexError" (by decide +kernel)).trans (by decide +kernel)
  | 7, _, hi => by
    obtain rfl := Option.some.inj hi
    exact (kit_oT T.x_TooGreat.ox "IndexError" (by decide +kernel)).trans (by decide +kernel)
  | 8, _, hi => by
    obtain rfl := Option.some.inj hi
    exact (kit_oT T.x_Nothing.ox "IndexError" (by decide +kernel)).trans (by decide +kernel)
  | i + 9, _, hi => by cases hi
section
variable {P : Program} {w : World} {K : PySem.W.Frag} {mg : Str → Option Value} {base : Heap}
theorem ok__law_marks (T : Top K mg) : FnOk P w K mg base CX0 1 T.a__law_marks T.d__law_marks ["one"] (sp__law_marks [T.x_BadLoops.C, T.x_BadLengths.C, T.x_BadPedal.C, T.x_BadRow.C, T.x_BadPaper.C, T.x_BadText.C, T.x_OutOfPlace.C, T.x_TooGreat.C, T.x_Nothing.C]) := by
  refine T.F__law_marks.ok sc__law_marks (fun vs H Q E h => ?_) (fun cdv A outer s H vs Q E hr h => ?_)
  · obtain ⟨a, C, i, fs, rfl, hC, hE, k⟩ := h
    rfl
  obtain ⟨a, C, i, fs, rfl, hC, hE, k⟩ := h
  refine ⟨_, (pss_cons (ps_set (i := 1) sc__law_marks.nd rfl (Or.inl rfl) (pe_lst (pa_cons (pe_callB (k_isO (K := K)) (by rfl) T.z_isinstance bt_isinstance (pa_cons (pv 0) (pa_cons (pe_glob (v := .ref T.x_BadLoops.C) (by rfl) T.x_BadLoops.m rfl) pa_nil))) (pa_cons (pe_callB (k_isO (K := K)) (by rfl) T.z_isinstance bt_isinstance (pa_cons (pv 0) (pa_cons (pe_glob (v := .ref T.x_BadLengths.C) (by rfl) T.x_BadLengths.m rfl) pa_nil))) (pa_cons (pe_callB (k_isO (K := K)) (by rfl) T.z_isinstance bt_isinstance (pa_cons (pv 0) (pa_cons (pe_glob (v := .ref T.x_BadPedal.C) (by rfl) T.x_BadPedal.m rfl) pa_nil))) pa_nil)))))
      (pss_cons (ps_set (i := 1) sc__law_marks.nd rfl (Or.inl rfl) (pe_op op_cat (pv 1) (pe_lst (pa_cons (pe_callB (k_isO (K := K)) (by rfl) T.z_isinstance bt_isinstance (pa_cons (pv 0) (pa_cons (pe_glob (v := .ref T.x_BadRow.C) (by rfl) T.x_BadRow.m rfl) pa_nil))) (pa_cons (pe_callB (k_isO (K := K)) (by rfl) T.z_isinstance bt_isinstance (pa_cons (pv 0) (pa_cons (pe_glob (v := .ref T.x_BadPaper.C) (by rfl) T.x_BadPaper.m rfl) pa_nil))) (pa_cons (pe_callB (k_isO (K := K)) (by rfl) T.z_isinstance bt_isinstance (pa_cons (pv 0) (pa_cons (pe_glob (v := .ref T.x_BadText.C) (by rfl) T.x_BadText.m rfl) pa_nil))) pa_nil))))))
      (pss_cons (ps_set (i := 1) sc__law_marks.nd rfl (Or.inl rfl) (pe_op op_cat (pv 1) (pe_lst (pa_cons (pe_callB (k_isO (K := K)) (by rfl) T.z_isinstance bt_isinstance (pa_cons (pv 0) (pa_cons (pe_glob (v := .ref T.x_OutOfPlace.C) (by rfl) T.x_OutOfPlace.m rfl) pa_nil))) pa_nil))))
      (pss_one (ps_ret (pe_op op_cat (pv 1) (pe_lst (pa_cons (pe_callB (k_isO (K := K)) (by rfl) T.z_isinstance bt_isinstance (pa_cons (pv 0) (pa_cons (pe_glob (v := .ref T.x_TooGreat.C) (by rfl) T.x_TooGreat.m rfl) pa_nil))) (pa_cons (pe_callB (k_isO (K := K)) (by rfl) T.z_isinstance bt_isinstance (pa_cons (pv 0) (pa_cons (pe_glob (v := .ref T.x_Nothing.C) (by rfl) T.x_Nothing.m rfl) pa_nil))) pa_nil))))))))), ?_⟩
  have ec := eCs T i C hC
  have kt := fun j D h => kits T i j C D hC h
  refine rd_isO rfl hE ec (.own _) (kt 0 _ rfl) (rd_isO rfl hE ec (.own _) (kt 1 _ rfl) (rd_isO rfl hE ec (.own _) (kt 2 _ rfl) ⟨(by show 3 ≤ sizeLine; decide), fun p1 h1 => ?_⟩))
  have s1 := same_upd h1 (.lst [V.bl (decide (0 = i)), .bl (decide (1 = i)), .bl (decide (2 = i))])
  have u1 : upd H p1 (.lst [V.bl (decide (0 = i)), .bl (decide (1 = i)), .bl (decide (2 = i))]) p1 = _ := upd_same
  generalize upd H p1 (.lst [V.bl (decide (0 = i)), .bl (decide (1 = i)), .bl (decide (2 = i))]) = H1 at s1 u1 ⊢
  have hE := hE.same s1
  dsimp only [gName]
  refine ⟨_, rfl, rd_isO rfl hE ec (.own _) (kt 3 _ rfl) (rd_isO rfl hE ec (.own _) (kt 4 _ rfl) (rd_isO rfl hE ec (.own _) (kt 5 _ rfl) ⟨(by show 3 ≤ sizeLine; decide), fun p2 h2 => ⟨p1, p2, _, _, rfl, rfl, (same_upd h2 _) _ _ u1, upd_same, (by show 6 ≤ sizeLine; decide), fun p3 h3 => ?_⟩⟩))⟩
  have s3 := s1.trans ((same_upd h2 (.lst [V.bl (decide (3 = i)), .bl (decide (4 = i)), .bl (decide (5 = i))])).trans (same_upd h3 (.lst [V.bl (decide (0 = i)), .bl (decide (1 = i)), .bl (decide (2 = i)), .bl (decide (3 = i)), .bl (decide (4 = i)), .bl (decide (5 = i))])))
  have hE := hE.same ((same_upd h2 (.lst [V.bl (decide (3 = i)), .bl (decide (4 = i)), .bl (decide (5 = i))])).trans (same_upd h3 (.lst [V.bl (decide (0 = i)), .bl (decide (1 = i)), .bl (decide (2 = i)), .bl (decide (3 = i)), .bl (decide (4 = i)), .bl (decide (5 = i))])))
  have u3 : upd (upd H1 p2 (.lst [V.bl (decide (3 = i)), .bl (decide (4 = i)), .bl (decide (5 = i))])) p3 (.lst [V.bl (decide (0 = i)), .bl (decide (1 = i)), .bl (decide (2 = i)), .bl (decide (3 = i)), .bl (decide (4 = i)), .bl (decide (5 = i))]) p3 = _ := upd_same
  dsimp only [List.cons_append, List.nil_append]
  generalize upd (upd H1 p2 (.lst [V.bl (decide (3 = i)), .bl (decide (4 = i)), .bl (decide (5 = i))])) p3 (.lst [V.bl (decide (0 = i)), .bl (decide (1 = i)), .bl (decide (2 = i)), .bl (decide (3 = i)), .bl (decide (4 = i)), .bl (decide (5 = i))]) = H3 at s3 u3 hE ⊢
  refine ⟨_, rfl, rd_isO rfl hE ec (.own _) (kt 6 _ rfl) ⟨(by show 1 ≤ sizeLine; decide), fun p4 h4 => ⟨p3, p4, _, _, rfl, rfl, (same_upd h4 _) _ _ u3, upd_same, (by show 7 ≤ sizeLine; decide), fun p5 h5 => ?_⟩⟩⟩
  have s5 := (same_upd h4 (.lst [V.bl (decide (6 = i))])).trans (same_upd h5 (.lst [V.bl (decide (0 = i)), .bl (decide (1 = i)), .bl (decide (2 = i)), .bl (decide (3 = i)), .bl (decide (4 = i)), .bl (decide (5 = i)), .bl (decide (6 = i))]))
  have hE := hE.same s5
  have u5 : upd (upd H3 p4 (.lst [V.bl (decide (6 = i))])) p5 (.lst [V.bl (decide (0 = i)), .bl (decide (1 = i)), .bl (decide (2 = i)), .bl (decide (3 = i)), .bl (decide (4 = i)), .bl (decide (5 = i)), .bl (decide (6 = i))]) p5 = _ := upd_same
  dsimp only [List.cons_append, List.nil_append]
  generalize upd (upd H3 p4 (.lst [V.bl (decide (6 = i))])) p5 (.lst [V.bl (decide (0 = i)), .bl (decide (1 = i)), .bl (decide (2 = i)), .bl (decide (3 = i)), .bl (decide (4 = i)), .bl (decide (5 = i)), .bl (decide (6 = i))]) = H5 at s5 u5 hE ⊢
  refine ⟨_, rfl, rd_isO rfl hE ec (.own _) (kt 7 _ rfl) (rd_isO rfl hE ec (.own _) (kt 8 _ rfl) ⟨(by show 2 ≤ sizeLine; decide), fun p6 h6 => ⟨p5, p6, _, _, rfl, rfl, (same_upd h6 _) _ _ u5, upd_same, (by show 9 ≤ sizeLine; decide), fun p7 h7 => ?_⟩⟩)⟩
  exact k p7 _ (s3.trans (s5.trans ((same_upd h6 _).trans (same_upd h7 _)))) upd_same
end
section
variable {P : Program} {w : World} {K : PySem.W.Frag} {mg : Str → Option Value} {base : Heap}
theorem ok__law_above (T : Top K mg) : FnOk P w K mg base CX0 1 T.a__law_above T.d__law_above ["one"] (sp__law_above [T.x_BadLoops.C, T.x_BadLengths.C, T.x_BadPedal.C, T.x_BadRow.C, T.x_BadPaper.C, T.x_BadText.C, T.x_OutOfPlace.C, T.x_TooGreat.C, T.x_Nothing.C]) := by
  refine T.F__law_above.ok sc__law_above (fun vs H Q E h => ?_) (fun cdv A outer s H vs Q E hr h => ?_)
  · obtain ⟨a, C, i, fs, rfl, hC, hE, k⟩ := h
    rfl
  obtain ⟨a, C, i, fs, rfl, hC, hE, k⟩ := h
  refine ⟨_, (pss_cons (ps_set (i := 1) sc__law_above.nd rfl (Or.inl rfl) (pe_lst (pa_cons (pe_callB (k_isO (K := K)) (by rfl) T.z_isinstance bt_isinstance (pa_cons (pv 0) (pa_cons (pe_bltn (v := .ty "ValueError") (by rfl) T.z_ValueError bt_ValueError rfl) pa_nil))) (pa_cons (pe_callB (k_isO (K := K)) (by rfl) T.z_isinstance bt_isinstance (pa_cons (pv 0) (pa_cons (pe_bltn (v := .ty "OverflowError") (by rfl) T.z_OverflowError bt_OverflowError rfl) pa_nil))) (pa_cons (pe_callB (k_isO (K := K)) (by rfl) T.z_isinstance bt_isinstance (pa_cons (pv 0) (pa_cons (pe_bltn (v := .ty "LookupError") (by rfl) T.z_LookupError bt_LookupError rfl) pa_nil))) pa_nil)))))
      (pss_one (ps_ret (pe_op op_cat (pv 1) (pe_lst (pa_cons (pe_callB (k_isO (K := K)) (by rfl) T.z_isinstance bt_isinstance (pa_cons (pv 0) (pa_cons (pe_bltn (v := .ty "KeyError") (by rfl) T.z_KeyError bt_KeyError rfl) pa_nil))) (pa_cons (pe_callB (k_isO (K := K)) (by rfl) T.z_isinstance bt_isinstance (pa_cons (pv 0) (pa_cons (pe_bltn (v := .ty "IndexError") (by rfl) T.z_IndexError bt_IndexError rfl) pa_nil))) pa_nil))))))), ?_⟩
  have ec := eCs T i C hC
  refine rd_isO rfl hE ec (.ty _) (kitValueError T i C hC) (rd_isO rfl hE ec (.ty _) (kitOverflowError T i C hC) (rd_isO rfl hE ec (.ty _) (kitLookupError T i C hC) ⟨(by show 3 ≤ sizeLine; decide), fun p1 h1 => ?_⟩))
  have s1 := same_upd h1 (.lst [V.bl (decide (i < 7)), .bl (decide (i = 7)), .bl (decide (i = 8))])
  have u1 : upd H p1 (.lst [V.bl (decide (i < 7)), .bl (decide (i = 7)), .bl (decide (i = 8))]) p1 = _ := upd_same
  generalize upd H p1 (.lst [V.bl (decide (i < 7)), .bl (decide (i = 7)), .bl (decide (i = 8))]) = H1 at s1 u1 ⊢
  have hE := hE.same s1
  dsimp only [gName]
  refine ⟨_, rfl, rd_isO rfl hE ec (.ty _) (kitKeyError T i C hC) (rd_isO rfl hE ec (.ty _) (kitIndexError T i C hC) ⟨(by show 2 ≤ sizeLine; decide), fun p2 h2 => ⟨p1, p2, _, _, rfl, rfl, (same_upd h2 _) _ _ u1, upd_same, (by show 5 ≤ sizeLine; decide), fun p3 h3 => ?_⟩⟩)⟩
  exact k p3 _ (s1.trans ((same_upd h2 _).trans (same_upd h3 _))) upd_same
end
section
variable {P : Program} {w : World} {K : PySem.W.Frag} {mg : Str → Option Value} {base : Heap}
theorem ok__law_made (T : Top K mg) : FnOk P w K mg base CX0 3 T.a__law_made T.d__law_made ["way", "x", "y"] (sp__law_made [T.x_BadLoops.C, T.x_BadLengths.C, T.x_BadPedal.C, T.x_BadRow.C, T.x_BadPaper.C, T.x_BadText.C, T.x_OutOfPlace.C, T.x_TooGreat.C, T.x_Nothing.C]) := by
  refine T.F__law_made.ok sc__law_made (fun vs H Q E h => ?_) (fun cdv A outer s H vs Q E hr h => ?_)
  · obtain ⟨wy, x, y, rfl, k⟩ := h
    rfl
  obtain ⟨wy, x, y, rfl, k⟩ := h
  refine ⟨_, (pss_cons (ps_if (pt_cmpR op_eq (pv 0) pe_int (nomark _)) (pss_cons (ps_set (i := 3) sc__law_made.nd rfl (Or.inl rfl) (pe_lst (pa_cons (pe_mkE (exb_v T.x_BadLoops.ox) T.x_BadLoops.iC T.x_BadLoops.tI (ok_BadLoops_init T) (hr.mono (by decide)) T.x_BadLoops.b pass0 (by rfl) T.x_BadLoops.m (pa_cons (pv 1) pa_nil)) (pa_cons (pe_mkE (exb_v T.x_BadLengths.ox) T.x_BadLengths.iC T.x_BadLengths.tI (ok_BadLengths_init T) (hr.mono (by decide)) T.x_BadLengths.b pass0 (by rfl) T.x_BadLengths.m (pa_cons (pv 2) pa_nil)) (pa_cons (pe_mkE (exb_v T.x_BadPedal.ox) T.x_BadPedal.iC T.x_BadPedal.tI (ok_BadPedal_init T) (hr.mono (by decide)) T.x_BadPedal.b pass0 (by rfl) T.x_BadPedal.m (pa_cons (pv 1) pa_nil)) (pa_cons (pe_mkE (exb_v T.x_BadRow.ox) T.x_BadRow.iC T.x_BadRow.tI (ok_BadRow_init T) (hr.mono (by decide)) T.x_BadRow.b pass0 (by rfl) T.x_BadRow.m (pa_cons (pv 2) pa_nil)) (pa_cons (pe_mkE (exb_v T.x_BadPaper.ox) T.x_BadPaper.iC T.x_BadPaper.tI (ok_BadPaper_init T) (hr.mono (by decide)) T.x_BadPaper.b pass0 (by rfl) T.x_BadPaper.m (pa_cons (pv 1) pa_nil)) (pa_cons (pe_mkE (exb_v T.x_BadText.ox) T.x_BadText.iC T.x_BadText.tI (ok_BadText_init T) (hr.mono (by decide)) T.x_BadText.b pass0 (by rfl) T.x_BadText.m (pa_cons (pv 1) (pa_cons (pv 2) pa_nil))) pa_nil))))))))
      (pss_one (ps_ret (pe_op op_cat (pv 3) (pe_lst (pa_cons (pe_mkE (exb_v T.x_OutOfPlace.ox) T.x_OutOfPlace.iC T.x_OutOfPlace.tI (ok_OutOfPlace_init T) (hr.mono (by decide)) T.x_OutOfPlace.b pass0 (by rfl) T.x_OutOfPlace.m (pa_cons pe_str pa_nil)) (pa_cons (pe_mkE (exb_o underOv T.x_TooGreat.ox) T.x_TooGreat.iC T.x_TooGreat.tI (ok_TooGreat_init T) (hr.mono (by decide)) T.x_TooGreat.b pass0 (by rfl) T.x_TooGreat.m (pa_cons (pv 1) pa_nil)) (pa_cons (pe_mkE (exb_o underLk T.x_Nothing.ox) T.x_Nothing.iC T.x_Nothing.tI (ok_Nothing_init T) (hr.mono (by decide)) T.x_Nothing.b pass0 (by rfl) T.x_Nothing.m (pa_cons pe_str pa_nil)) pa_nil)))))))) pss_nil)
      (pss_cons (ps_set (i := 3) sc__law_made.nd rfl (Or.inl rfl) (pe_lst (pa_cons (pe_mkK (exb_v T.x_BadLoops.ox) T.x_BadLoops.iC T.x_BadLoops.tI (ok_BadLoops_init T) (hr.mono (by decide)) (kbx_BadLoops_place T) pass0 (by rfl) T.x_BadLoops.m (pk_cons (pv 1) pk_nil)) (pa_cons (pe_mkK (exb_v T.x_BadLengths.ox) T.x_BadLengths.iC T.x_BadLengths.tI (ok_BadLengths_init T) (hr.mono (by decide)) (kbx_BadLengths_place T) pass0 (by rfl) T.x_BadLengths.m (pk_cons (pv 2) pk_nil)) (pa_cons (pe_mkK (exb_v T.x_BadPedal.ox) T.x_BadPedal.iC T.x_BadPedal.tI (ok_BadPedal_init T) (hr.mono (by decide)) (kbx_BadPedal_place T) pass0 (by rfl) T.x_BadPedal.m (pk_cons (pv 1) pk_nil)) (pa_cons (pe_mkK (exb_v T.x_BadRow.ox) T.x_BadRow.iC T.x_BadRow.tI (ok_BadRow_init T) (hr.mono (by decide)) (kbx_BadRow_place T) pass0 (by rfl) T.x_BadRow.m (pk_cons (pv 2) pk_nil)) (pa_cons (pe_mkK (exb_v T.x_BadPaper.ox) T.x_BadPaper.iC T.x_BadPaper.tI (ok_BadPaper_init T) (hr.mono (by decide)) (kbx_BadPaper_part T) pass0 (by rfl) T.x_BadPaper.m (pk_cons (pv 1) pk_nil)) pa_nil)))))))
      (pss_one (ps_ret (pe_op op_cat (pv 3) (pe_lst (pa_cons (pe_mkK (exb_v T.x_BadText.ox) T.x_BadText.iC T.x_BadText.tI (ok_BadText_init T) (hr.mono (by decide)) (kbx_BadText_word_line T) pass0 (by rfl) T.x_BadText.m (pk_cons (pv 2) (pk_cons (pv 1) pk_nil))) (pa_cons (pe_mkK (exb_v T.x_OutOfPlace.ox) T.x_OutOfPlace.iC T.x_OutOfPlace.tI (ok_OutOfPlace_init T) (hr.mono (by decide)) (kbx_OutOfPlace_text T) pass0 (by rfl) T.x_OutOfPlace.m (pk_cons pe_str pk_nil)) (pa_cons (pe_mkK (exb_o underOv T.x_TooGreat.ox) T.x_TooGreat.iC T.x_TooGreat.tI (ok_TooGreat_init T) (hr.mono (by decide)) (kbx_TooGreat_most T) pass0 (by rfl) T.x_TooGreat.m (pk_cons (pv 1) pk_nil)) (pa_cons (pe_mkK (exb_o underLk T.x_Nothing.ox) T.x_Nothing.iC T.x_Nothing.tI (ok_Nothing_init T) (hr.mono (by decide)) (kbx_Nothing_text T) pass0 (by rfl) T.x_Nothing.m (pk_cons pe_str pk_nil)) pa_nil)))))))))), ?_⟩
  by_cases w0 : V.int wy = V.int 0
  · refine ⟨_, rfl, rfl, _, rfl, iteP w0 ?_⟩
    dsimp only [tSeq, tAsg, tLst, tCons]
    refine rd_mk1 rfl fun e0 H0 s0 x0 => ?_
    refine rd_mk1 rfl fun e1 H1 s1 x1 => ?_
    refine rd_mk1 rfl fun e2 H2 s2 x2 => ?_
    refine rd_mk1 rfl fun e3 H3 s3 x3 => ?_
    refine rd_mk1 rfl fun e4 H4 s4 x4 => ?_
    refine rd_mk2 rfl rfl fun e5 H5 s5 x5 => ?_
    refine ⟨(by show 6 ≤ sizeLine; decide), fun p hp => ?_⟩
    have sp := same_upd hp (.lst [V.ref e0, .ref e1, .ref e2, .ref e3, .ref e4, .ref e5])
    have up : upd H5 p (.lst [V.ref e0, .ref e1, .ref e2, .ref e3, .ref e4, .ref e5]) p = _ := upd_same
    generalize upd H5 p (.lst [V.ref e0, .ref e1, .ref e2, .ref e3, .ref e4, .ref e5]) = H6 at sp up ⊢
    dsimp only [gName]
    refine ⟨_, rfl, ?_⟩
    dsimp only [tRet, tOp, tLst, tCons]
    refine rd_mk0 fun e6 H7 s6 x6 => ?_
    refine rd_mk1 rfl fun e7 H8 s7 x7 => ?_
    refine rd_mk0 fun e8 H9 s8 x8 => ?_
    refine ⟨(by show 3 ≤ sizeLine; decide), fun p2 hp2 => ⟨p, p2, _, _, rfl, rfl, (s6.trans (s7.trans (s8.trans (same_upd hp2 _)))) _ _ up, upd_same, (by show 9 ≤ sizeLine; decide), fun p3 hp3 => ?_⟩⟩
    have t9 := (same_upd hp2 (.lst [V.ref e6, .ref e7, .ref e8])).trans (same_upd hp3 (.lst [V.ref e0, .ref e1, .ref e2, .ref e3, .ref e4, .ref e5, .ref e6, .ref e7, .ref e8]))
    have t8 := s8.trans t9
    have t7 := s7.trans t8
    have t5 := sp.trans (s6.trans t7)
    have t4 := s5.trans t5
    have t3 := s4.trans t4
    have t2 := s3.trans t3
    have t1 := s2.trans t2
    have t0 := s1.trans t1
    exact k p3 [e0, e1, e2, e3, e4, e5, e6, e7, e8] _ (s0.trans t0) upd_same (.cons (x0.same t0) (.cons (x1.same t1) (.cons (x2.same t2) (.cons (x3.same t3) (.cons (x4.same t4) (.cons (x5.same t5) (.cons (x6.same t7) (.cons (x7.same t8) (.cons (x8.same t9) .nil)))))))))
  · refine ⟨_, rfl, rfl, _, rfl, iteN w0 ?_⟩
    dsimp only [tNext]
    dsimp only [tSeq, tAsg, tLst, tCons]
    refine rd_kk1 rfl fun e0 H0 s0 x0 => ?_
    refine rd_kk1 rfl fun e1 H1 s1 x1 => ?_
    refine rd_kk1 rfl fun e2 H2 s2 x2 => ?_
    refine rd_kk1 rfl fun e3 H3 s3 x3 => ?_
    refine rd_kk1 rfl fun e4 H4 s4 x4 => ?_
    refine ⟨(by show 5 ≤ sizeLine; decide), fun p hp => ?_⟩
    have sp := same_upd hp (.lst [V.ref e0, .ref e1, .ref e2, .ref e3, .ref e4])
    have up : upd H4 p (.lst [V.ref e0, .ref e1, .ref e2, .ref e3, .ref e4]) p = _ := upd_same
    generalize upd H4 p (.lst [V.ref e0, .ref e1, .ref e2, .ref e3, .ref e4]) = H6 at sp up ⊢
    dsimp only [gName]
    refine ⟨_, rfl, ?_⟩
    dsimp only [tRet, tOp, tLst, tCons]
    refine rd_kk2 rfl rfl fun e5 H5 s5 x5 => ?_
    refine rd_kk0 fun e6 H7 s6 x6 => ?_
    refine rd_kk1 rfl fun e7 H8 s7 x7 => ?_
    refine rd_kk0 fun e8 H9 s8 x8 => ?_
    refine ⟨(by show 4 ≤ sizeLine; decide), fun p2 hp2 => ⟨p, p2, _, _, rfl, rfl, (s5.trans (s6.trans (s7.trans (s8.trans (same_upd hp2 _))))) _ _ up, upd_same, (by show 9 ≤ sizeLine; decide), fun p3 hp3 => ?_⟩⟩
    have t9 := (same_upd hp2 (.lst [V.ref e5, .ref e6, .ref e7, .ref e8])).trans (same_upd hp3 (.lst [V.ref e0, .ref e1, .ref e2, .ref e3, .ref e4, .ref e5, .ref e6, .ref e7, .ref e8]))
    have t8 := s8.trans t9
    have t7 := s7.trans t8
    have t5 := s6.trans t7
    have t4 := sp.trans (s5.trans t5)
    have t3 := s4.trans t4
    have t2 := s3.trans t3
    have t1 := s2.trans t2
    have t0 := s1.trans t1
    exact k p3 [e0, e1, e2, e3, e4, e5, e6, e7, e8] _ (s0.trans t0) upd_same (.cons (x0.same t0) (.cons (x1.same t1) (.cons (x2.same t2) (.cons (x3.same t3) (.cons (x4.same t4) (.cons (x5.same t5) (.cons (x6.same t7) (.cons (x7.same t8) (.cons (x8.same t9) .nil)))))))))
end
section
variable {P : Program} {w : World} {K : PySem.W.Frag} {mg : Str → Option Value} {base : Heap}
theorem ok__law_right (T : Top K mg) : FnG P w K mg base 4 T.a__law_right T.d__law_right ["way", "x", "y"] (sp__law_right K) := by
  refine T.F__law_right.okG sc__law_right (fun vs H Q E h => ?_) (fun cdv A outer s H vs Q E hr hG h => ?_)
  · obtain ⟨wy, x, y, dx, dy, rfl, hx, hy, mx, my, k⟩ := h
    rfl
  obtain ⟨wy, x, y, dx, dy, rfl, hx, hy, mx, my, k⟩ := h
  refine ⟨_, (pss_cons (ps_set (i := 3) sc__law_right.nd rfl (Or.inl rfl) (pe_call (ok__law_made T) (hr.mono (by decide)) (by rfl) T.m__law_made T.F__law_made.kp T.b__law_made .nil pass0 (pa_cons (pv 0) (pa_cons (pv 1) (pa_cons (pv 2) pa_nil)))))
      (pss_cons (ps_set (i := 4) sc__law_right.nd rfl (Or.inl rfl) (pe_lst (pa_cons (pe_xo (K := K) (pe_ix (k_ixL (K := K)) (pv 3) pe_int (fun _ _ => rfl))) (pa_cons (pe_xo (K := K) (pe_ix (k_ixL (K := K)) (pv 3) pe_int (fun _ _ => rfl))) (pa_cons (pe_xo (K := K) (pe_ix (k_ixL (K := K)) (pv 3) pe_int (fun _ _ => rfl))) (pa_cons (pe_xo (K := K) (pe_ix (k_ixL (K := K)) (pv 3) pe_int (fun _ _ => rfl))) (pa_cons (pe_xo (K := K) (pe_ix (k_ixL (K := K)) (pv 3) pe_int (fun _ _ => rfl))) pa_nil)))))))
      (pss_cons (ps_if (pt_cmpR op_ne (pe_callB (k_reprZ (K := K) hr.units hG) (by rfl) T.z_repr bt_repr (pa_cons (pe_op op_cat (pv 4) (pe_lst (pa_cons (pe_xo (K := K) (pe_ix (k_ixL (K := K)) (pv 3) pe_int (fun _ _ => rfl))) (pa_cons (pe_xo (K := K) (pe_ix (k_ixL (K := K)) (pv 3) pe_int (fun _ _ => rfl))) (pa_cons (pe_xo (K := K) (pe_ix (k_ixL (K := K)) (pv 3) pe_int (fun _ _ => rfl))) pa_nil))))) pa_nil)) (pe_callB (k_reprZ (K := K) hr.units hG) (by rfl) T.z_repr bt_repr (pa_cons (pe_lst (pa_cons (pv 1) (pa_cons (pv 2) (pa_cons (pv 1) (pa_cons (pv 2) (pa_cons (pv 1) (pa_cons (pv 1) (pa_cons (pv 2) (pa_cons (pv 1) pa_nil))))))))) pa_nil)) (nomark _)) (pss_one (ps_ret pe_bl)) pss_nil)
      (pss_cons (ps_for PassesOwn.never rfl (k_piEL (K := K) (by rfl) T.z_enumerate (pa_cons (pv 3) pa_nil)) (pg_tup rfl (pgs_cons (pg_name (i := 5) sc__law_right.nd rfl (Or.inl rfl)) (pgs_cons (pg_name (i := 6) sc__law_right.nd rfl (Or.inl rfl)) pgs_nil))) (pss_cons (ps_if (pt_cmpR (k_neD (K := K) hr.units) (pe_lc (own := [("k", 7), ("is_so", 8)]) rfl sc__law_right.nd (k_piEL (K := K) (by rfl) T.z_enumerate (pa_cons (pe_call (ok__law_marks T) (hr.mono (by decide)) (by rfl) T.m__law_marks T.F__law_marks.kp T.b__law_marks .nil pass0 (pa_cons (pv 6) pa_nil)) pa_nil)) (blkOk_by (own := [("k", 7), ("is_so", 8)]) (N := ["way", "x", "y", "made", "fields", "at", "one", "k", "is_so"]) (sc := defScope s__law_right) (by decide +kernel)) (fun _ _ _ _ _ => (k_pgt (K := K) (n := 2) rfl (pgs_cons (pg_name (i := 7) sc__law_right.nd rfl (Or.inl rfl)) (pgs_cons (pg_name (i := 8) sc__law_right.nd rfl (Or.inl rfl)) pgs_nil)))) (fun _ _ _ _ _ => (pts_one (pt_val (pv 8)))) (fun _ _ _ _ _ => (pv 7))) (pe_lst (pa_cons (pv 5) pa_nil)) (nomark _)) (pss_one (ps_ret pe_bl)) pss_nil)
      (pss_one (ps_if (pt_cmpR (k_neD (K := K) hr.units) (pe_call (ok__law_above T) (hr.mono (by decide)) (by rfl) T.m__law_above T.F__law_above.kp T.b__law_above .nil pass0 (pa_cons (pv 6) pa_nil)) (pe_lst (pa_cons (pe_cmpR op_lt (pv 5) pe_int (nomark _)) (pa_cons (pe_cmpR op_eq (pv 5) pe_int (nomark _)) (pa_cons (pe_cmpR op_eq (pv 5) pe_int (nomark _)) (pa_cons pe_bl (pa_cons pe_bl pa_nil)))))) (nomark _)) (pss_one (ps_ret pe_bl)) pss_nil))))
      (pss_one (ps_ret pe_bl)))))), ?_⟩
  refine ⟨_, rfl, _, rfl, _, rfl, wy, x, y, rfl, fun p es H1 s1 hp hM => ?_⟩
  dsimp only [gName]
  have hM0 := hM
  unfold fldL at hM0
  cases hM0 with
  | @cons e0 _ es _ _ _ x0 hM0 =>
  cases hM0 with
  | @cons e1 _ es _ _ _ x1 hM0 =>
  cases hM0 with
  | @cons e2 _ es _ _ _ x2 hM0 =>
  cases hM0 with
  | @cons e3 _ es _ _ _ x3 hM0 =>
  cases hM0 with
  | @cons e4 _ es _ _ _ x4 hM0 =>
  cases hM0 with
  | @cons e5 _ es _ _ _ x5 hM0 =>
  cases hM0 with
  | @cons e6 _ es _ _ _ x6 hM0 =>
  cases hM0 with
  | @cons e7 _ es _ _ _ x7 hM0 =>
  cases hM0 with
  | @cons e8 _ es _ _ _ x8 hM0 =>
  cases hM0
  obtain ⟨d0, a0, b0⟩ := x0
  obtain ⟨d1, a1, b1⟩ := x1
  obtain ⟨d2, a2, b2⟩ := x2
  obtain ⟨d3, a3, b3⟩ := x3
  obtain ⟨d4, a4, b4⟩ := x4
  obtain ⟨d5, a5, b5⟩ := x5
  obtain ⟨d7, a7, b7⟩ := x7
  refine ⟨_, rfl, p, _, _, _, rfl, rfl, SqL.of hp, at_zero, e0, _, d0, _, x, rfl, a0, T.x_BadLoops.xf, T.x_BadLoops.nf, b0, rfl, ?_⟩
  refine ⟨_, rfl, p, _, _, _, rfl, rfl, SqL.of hp, at_of (j := 1) rfl rfl, e1, _, d1, _, y, rfl, a1, T.x_BadLengths.xf, T.x_BadLengths.nf, b1, rfl, ?_⟩
  refine ⟨_, rfl, p, _, _, _, rfl, rfl, SqL.of hp, at_of (j := 2) rfl rfl, e2, _, d2, _, x, rfl, a2, T.x_BadPedal.xf, T.x_BadPedal.nf, b2, rfl, ?_⟩
  refine ⟨_, rfl, p, _, _, _, rfl, rfl, SqL.of hp, at_of (j := 3) rfl rfl, e3, _, d3, _, y, rfl, a3, T.x_BadRow.xf, T.x_BadRow.nf, b3, rfl, ?_⟩
  refine ⟨_, rfl, p, _, _, _, rfl, rfl, SqL.of hp, at_of (j := 4) rfl rfl, e4, _, d4, _, x, rfl, a4, T.x_BadPaper.xf, T.x_BadPaper.nf, b4, rfl, ?_⟩
  refine ⟨(by show 5 ≤ sizeLine; decide), fun q hq => ?_⟩
  have sq := same_upd hq (.lst [x, y, x, y, x])
  have uq : upd H1 q (.lst [x, y, x, y, x]) q = _ := upd_same
  have hp2 := sq _ _ hp
  generalize upd H1 q (.lst [x, y, x, y, x]) = H2 at sq uq hp2 ⊢
  dsimp only [gName]
  have a5 := sq _ _ a5
  have b5 := sq _ _ b5
  have a7 := sq _ _ a7
  have b7 := sq _ _ b7
  refine ⟨_, rfl, _, rfl, p, _, _, _, rfl, rfl, SqL.of hp2, at_of (j := 5) rfl rfl, e5, _, d5, _, x, rfl, a5, T.x_BadText.xf, T.x_BadText.nf, b5, rfl, ?_⟩
  refine ⟨_, rfl, p, _, _, _, rfl, rfl, SqL.of hp2, at_of (j := 5) rfl rfl, e5, _, d5, _, y, rfl, a5, T.x_BadText.xf, T.x_BadText.nf2, b5, rfl, ?_⟩
  refine ⟨_, rfl, p, _, _, _, rfl, rfl, SqL.of hp2, at_of (j := 7) rfl rfl, e7, _, d7, _, x, rfl, a7, T.x_TooGreat.xf, T.x_TooGreat.nf, b7, rfl, ?_⟩
  refine ⟨(by show 3 ≤ sizeLine; decide), fun q2 hq2 => ⟨q, q2, _, _, rfl, rfl, (same_upd hq2 _) _ _ uq, upd_same, (by show 8 ≤ sizeLine; decide), fun q3 hq3 => ?_⟩⟩
  have s3 := (same_upd hq2 (.lst [x, y, x])).trans (same_upd hq3 (.lst [x, y, x, y, x, x, y, x]))
  have hp3 := s3 _ _ hp2
  have hM3 := (hM.same sq).same s3
  have hx3 := ((hx.same s1).same sq).same s3
  have hy3 := ((hy.same s1).same sq).same s3
  have s13 := s1.trans (sq.trans s3)
  have u3 : upd (upd H2 q2 (.lst [x, y, x])) q3 (.lst [x, y, x, y, x, x, y, x]) q3 = _ := upd_same
  dsimp only [List.cons_append, List.nil_append]
  generalize upd (upd H2 q2 (.lst [x, y, x])) q3 (.lst [x, y, x, y, x, x, y, x]) = H3 at hp3 hM3 hx3 hy3 s13 u3 ⊢
  obtain ⟨dep, len⟩ := eight_ok dx mx dy my
  refine ⟨q3, x, _, _, rfl, SqL.of u3, .cons hx3 (.cons hy3 (.cons hx3 (.cons hy3 (.cons hx3 (.cons hx3 (.cons hy3 (.cons hx3 .nil))))))), dep, len, ?_⟩
  refine ⟨_, rfl, _, rfl, _, rfl, _, rfl, _, rfl, _, rfl, _, rfl, _, rfl, (by show 8 ≤ sizeLine; decide), fun q4 hq4 => ?_⟩
  have s4 := same_upd hq4 (.lst [x, y, x, y, x, x, y, x])
  have hx4 := hx3.same s4
  have hy4 := hy3.same s4
  refine ⟨q4, x, _, _, rfl, SqL.of upd_same, .cons hx4 (.cons hy4 (.cons hx4 (.cons hy4 (.cons hx4 (.cons hx4 (.cons hy4 (.cons hx4 .nil))))))), dep, len, rfl, _, rfl, iteNN rfl ?_⟩
  have hp4 := s4 _ _ hp3
  have hM4 := hM3.same s4
  have s14 := s13.trans s4
  generalize upd H3 q4 (.lst [x, y, x, y, x, x, y, x]) = H4 at hp4 hM4 s14 ⊢
  dsimp only [tNext]
  refine ⟨_, rfl, p, _, rfl, SqL.of hp4, ?_⟩
  refine for_it walk_enum (fun i σ H' => ∃ w5 w6, σ = [some (.int wy), some x, some y, some (.ref p), some (.ref q), w5, w6, none, none] ∧ Same H4 H') ⟨_, _, rfl, fun _ _ h => h⟩ (fun i σ H' _ ⟨_, _, _, s⟩ => SqL.of (s _ _ hp4)) ?_ ?_
  · rintro j v σ H5 H6 hj ⟨w5, w6, rfl, s5⟩ ⟨t6, y6, z6, rfl, ht6, rfl, hy6, hz6⟩
    cases hy6
    have s6 := same_step s5 ht6 (.tup [.int (j : Nat), z6])
    have hz6 : (List.map V.ref [e0, e1, e2, e3, e4, e5, e6, e7, e8])[j]? = some z6 := hz6
    rw [List.getElem?_map] at hz6
    obtain ⟨e, he, rfl⟩ := Option.map_eq_some_iff.mp hz6
    obtain ⟨C, fs, hC, hE⟩ := hM4.get he
    have hj9 : j < 9 := hj
    refine ⟨t6, _, rfl, SqT.of upd_same, rfl, _, _, rfl, _, _, rfl, rfl, ?_⟩
    generalize upd H5 t6 (.tup [.int (j : Nat), .ref e]) = H7 at s6 ⊢
    have hE7 := hE.same s6
    refine ⟨_, rfl, e, C, j, fs, rfl, hC, hE7, fun pm Hm sm hm => ⟨pm, _, rfl, SqL.of hm, fun D hD => ?_⟩⟩
    refine lc_it walk_enum (fun i H' => H' D = some (.lst (if j < i then [V.int (j : Nat)] else [])) ∧ Same Hm H') ⟨upd_same, same_upd hD _⟩ (fun i H' _ q => SqL.of (q.2 _ _ hm)) ?_ ?_
    · rintro i v H8 H9 hi ⟨hA, s8⟩ ⟨t, y9, z, rfl, ht, rfl, hy, hz⟩
      cases hy
      obtain rfl := marks_get hz
      have s9 := same_step s8 ht (.tup [.int (i : Nat), .bl (decide (i = j))])
      have hA9 := (same_upd ht (.tup [.int (i : Nat), .bl (decide (i = j))])) _ _ hA
      refine ⟨t, _, rfl, SqT.of upd_same, rfl, _, _, rfl, _, _, rfl, rfl, rfl, ?_⟩
      refine ⟨_, rfl, _, rfl, ?_⟩
      by_cases ij : i = j
      · subst ij
        rw [if_neg (Nat.lt_irrefl _)] at hA9
        refine iteP rfl ⟨_, rfl, _, hA9, small1000 (by show 0 ≤ 1000; decide), ?_, ?_⟩
        · rw [if_pos (Nat.lt_succ_self _), upd_same]
          rfl
        · exact fun b o w => by
            rw [upd_ne (ne_of_none w hD)]
            exact s9 _ _ w
      · refine iteN ij ⟨?_, s9⟩
        rw [hA9]
        by_cases l : j < i
        · rw [if_pos l, if_pos (by omega)]
        · rw [if_neg l, if_neg (by omega)]
    rintro H8 ⟨hA, s8⟩
    have hA : H8 D = some (.lst [V.int (j : Nat)]) := by
      rw [hA, if_pos (show j < (marksV j).length from hj9)]
    refine ⟨_, rfl, (by show 1 ≤ sizeLine; decide), fun pl hl => ⟨.list [.int (j : Nat)], .list [.int (j : Nat)], .lst (SqL.of ((same_upd hl _) _ _ hA)) (.cons (.int _) .nil), .lst (SqL.of upd_same) (.cons (.int _) .nil), (by rfl), (by rfl), _, rfl, ?_⟩⟩
    rw [eqv_list _ rfl]
    refine iteF ?_
    dsimp only [tNext]
    have s10 := s6.trans (sm.trans (s8.trans (same_upd hl (.lst [V.int (j : Nat)]))))
    generalize upd H8 pl (.lst [V.int (j : Nat)]) = H10 at s10 ⊢
    have hE10 := hE.same s10
    refine ⟨_, rfl, e, C, j, fs, rfl, hC, hE10, fun pm2 H11 s11 hm2 => ?_⟩
    refine ⟨_, rfl, _, _, rfl, rfl, _, rfl, rfl, _, rfl, rfl, (by show 5 ≤ sizeLine; decide), fun pl2 hl2 => ?_⟩
    have l2 : upd H11 pl2 (.lst [V.bl (decide (((j : Nat) : Int) < 7)), .bl (decide (V.int ((j : Nat) : Int) = V.int ((7 : Nat) : Int))), .bl (decide (V.int ((j : Nat) : Int) = V.int ((8 : Nat) : Int))), .bl false, .bl false]) pl2 = some (.lst (aboveV j)) := by
      rw [upd_same, dec_lt, dec_eqV, dec_eqV]
    have s12 := same_upd hl2 (.lst [V.bl (decide (((j : Nat) : Int) < 7)), .bl (decide (V.int ((j : Nat) : Int) = V.int ((7 : Nat) : Int))), .bl (decide (V.int ((j : Nat) : Int) = V.int ((8 : Nat) : Int))), .bl false, .bl false])
    refine ⟨.list [.bool (decide (j < 7)), .bool (decide (j = 7)), .bool (decide (j = 8)), .bool false, .bool false], .list [.bool (decide (j < 7)), .bool (decide (j = 7)), .bool (decide (j = 8)), .bool false, .bool false],
      .lst (SqL.of (s12 _ _ hm2)) (.cons (.bl _) (.cons (.bl _) (.cons (.bl _) (.cons (.bl _) (.cons (.bl _) .nil))))), .lst (SqL.of l2) (.cons (.bl _) (.cons (.bl _) (.cons (.bl _) (.cons (.bl _) (.cons (.bl _) .nil))))), (by rfl), (by rfl), _, rfl, ?_⟩
    rw [eqv_list _ rfl]
    exact iteF ⟨_, _, rfl, s10.trans (s11.trans s12)⟩
  · rintro σ H5 ⟨w5, w6, rfl, s5⟩
    exact k _ (s14.trans s5)
end
end My

namespace My
open PySem PySem.Spec PyProof.Rows L2
/-- kept while numbers are drawn -/
def Kp (H : Hp) (m : Addr) (L : List (Addr × HO)) : Prop := ∀ q ∈ L, H q.1 = some q.2 ∧ offM H m q.1
theorem Kp.ef {H H' : Hp} {m : Addr} {L : List (Addr × HO)} (k : Kp H m L) (e : Ef m H H') : Kp H' m L := fun q hq => by
  obtain ⟨h1, h2⟩ := k q hq
  refine ⟨e.keep _ _ h1 h2.1 h2.2, h2.1, fun w => ?_⟩
  rcases e.new _ w with z | z
  · exact h2.2 z
  · rw [h1] at z
    cases z
theorem Kp.sm {H H' : Hp} {m n : Nat} {L : List (Addr × HO)} (k : Kp H m L) (M : MS H m n) (s : Same H H') : Kp H' m L := fun q hq => ⟨s _ _ (k q hq).1, off_sm M (k q hq).2 s⟩
abbrev cols (p p1 p2 p3 p4 p5 p6 : Addr) : List (Addr × HO) := [(p, .lst [.non, .int 0, .int (-1), .int 7, .bl true, .str "", .str "form", .ref p1, .ref p2, .ref p3, .ref p4, .int (10 ^ 30), .ref p6, .bl false]), (p6, .tup [.int 1, .ref p5]), (p5, .tup [.int 0, .int 2]), (p4, .dK [(.inr "a", .int 1)]), (p3, .lst [.int 1, .int 2]), (p2, .tup [.int 1, .int 2]), (p1, .tup [])]
theorem cols_pick {K : PySem.W.Frag} {H : Hp} {m p p1 p2 p3 p4 p5 p6 : Addr} (k : Kp H m (cols p p1 p2 p3 p4 p5 p6)) {r : Int} (h0 : 0 ≤ r) (h1 : r < 14) :
    ∃ x d, atI [V.non, .int 0, .int (-1), .int 7, .bl true, .str "", .str "form", .ref p1, .ref p2, .ref p3, .ref p4, .int (10 ^ 30), .ref p6, .bl false] r = some x ∧ d ∈ somes ∧ Dz K H x d := by
  have k1 := (k (p1, .tup []) (by simp)).1
  have k2 := (k (p2, .tup [.int 1, .int 2]) (by simp)).1
  have k3 := (k (p3, .lst [.int 1, .int 2]) (by simp)).1
  have k4 := (k (p4, .dK [(.inr "a", .int 1)]) (by simp)).1
  have k5 := (k (p5, .tup [.int 0, .int 2]) (by simp)).1
  have k6 := (k (p6, .tup [.int 1, .ref p5]) (by simp)).1
  have e : r = 0 ∨ r = 1 ∨ r = 2 ∨ r = 3 ∨ r = 4 ∨ r = 5 ∨ r = 6 ∨ r = 7 ∨ r = 8 ∨ r = 9 ∨ r = 10 ∨ r = 11 ∨ r = 12 ∨ r = 13 := by omega
  rcases e with rfl | rfl | rfl | rfl | rfl | rfl | rfl | rfl | rfl | rfl | rfl | rfl | rfl | rfl
  · exact ⟨_, .none, rfl, by simp, .base .non rfl rfl⟩
  · exact ⟨_, .int 0, rfl, by simp, .base (.int _) rfl (by decide +kernel)⟩
  · exact ⟨_, .int (-1), rfl, by simp, .base (.int _) rfl (by decide +kernel)⟩
  · exact ⟨_, .int 7, rfl, by simp, .base (.int _) rfl (by decide +kernel)⟩
  · exact ⟨_, .bool true, rfl, by simp, .base (.bl _) rfl (by decide +kernel)⟩
  · exact ⟨_, .str "", rfl, by simp, .base (.str _) rfl (by decide +kernel)⟩
  · exact ⟨_, .str "form", rfl, by simp, .base (.str _) rfl (by decide +kernel)⟩
  · exact ⟨_, .tuple [], rfl, by simp, .base (.tup (SqT.of k1) .nil) rfl (by decide +kernel)⟩
  · exact ⟨_, .tuple [.int 1, .int 2], rfl, by simp, .base (.tup (SqT.of k2) (.cons (.int _) (.cons (.int _) .nil))) rfl (by decide +kernel)⟩
  · exact ⟨_, .list [.int 1, .int 2], rfl, by simp, .base (.lst (SqL.of k3) (.cons (.int _) (.cons (.int _) .nil))) rfl (by decide +kernel)⟩
  · exact ⟨_, .dict [(.str "a", .int 1)], rfl, by simp, .dct k4 (by decide +kernel)⟩
  · exact ⟨_, .int (10 ^ 30), rfl, by simp, .base (.int _) rfl (by decide +kernel)⟩
  · exact ⟨_, .tuple [.int 1, .tuple [.int 0, .int 2]], rfl, by simp, .base (.tup (SqT.of k6) (.cons (.int _) (.cons (.tup (SqT.of k5) (.cons (.int _) (.cons (.int _) .nil))) .nil))) rfl (by decide +kernel)⟩
  · exact ⟨_, .bool false, rfl, by simp, .base (.bl _) rfl (by decide +kernel)⟩
theorem Kp.add {H : Hp} {m n : Nat} {p : Addr} {o : HO} {L : List (Addr × HO)} (k : Kp H m L) (M : MS H m n) (h : H p = none) : Kp (upd H p o) m ((p, o) :: L) ∧ MS (upd H p o) m n ∧ Same H (upd H p o) := by
  have s := same_upd h o
  refine ⟨fun q hq => ?_, M.same s, s⟩
  rcases List.mem_cons.mp hq with rfl | hq
  · exact ⟨upd_same, off_free M s h⟩
  · exact k.sm M s q hq
section
variable {P : Program} {w : World} {K : PySem.W.Frag} {mg : Str → Option Value} {base : Heap}
theorem ok_law (T : Top K mg) : FnG P w K mg base 5 T.a_law T.d_law ["script"] (sp_law K) := by
  refine T.F_law.okG sc_law (fun vs H Q E h => ?_) (fun cdv A outer s H vs Q E hr hG h => ?_)
  · obtain ⟨a, ns, rfl, hS, hl, q⟩ := h
    rfl
  obtain ⟨a, ns, rfl, hS, hl, q⟩ := h
  refine ⟨_, (pss_cons (ps_set (i := 1) sc_law.nd rfl (Or.inl rfl) (pe_call (ok__law_begun T) (hr.mono (by decide)) (by rfl) T.m__law_begun T.F__law_begun.kp T.b__law_begun .nil pass0 (pa_cons (pv 0) pa_nil)))
      (pss_cons (ps_set (i := 2) sc_law.nd rfl (Or.inl rfl) (pe_lst (pa_cons pe_non (pa_cons pe_int (pa_cons (pe_un un_neg pe_int) (pa_cons pe_int (pa_cons pe_bl (pa_cons pe_str (pa_cons pe_str (pa_cons (pe_tup pa_nil) (pa_cons (pe_tup (pa_cons pe_int (pa_cons pe_int pa_nil))) (pa_cons (pe_lst (pa_cons pe_int (pa_cons pe_int pa_nil))) (pa_cons (pe_disp (pps_cons pe_str pe_int pps_nil) (by rfl) (by rfl) (fun z => by cases z) (by decide)) (pa_cons (pe_op op_pow pe_int pe_int) (pa_cons (pe_tup (pa_cons pe_int (pa_cons (pe_tup (pa_cons pe_int (pa_cons pe_int pa_nil))) pa_nil))) (pa_cons pe_bl pa_nil))))))))))))))))
      (pss_cons (ps_for PassesOwn.never rfl (pi_range1 (by rfl) T.z_range (pa_cons (pe_op op_add pe_int (pe_callB (call_min2 rfl) (by rfl) T.z_min bt_min (pa_cons (pe_callB (k_len (K := K)) (by rfl) T.z_len bt_len (pa_cons (pv 0) pa_nil)) (pa_cons pe_int pa_nil)))) pa_nil)) (pg_name (i := 3) sc_law.nd rfl (Or.inl rfl)) (pss_one (ps_if (pt_not (pt_val (pe_callG (ok__law_right T) (hr.mono (by decide)) hG (by rfl) T.m__law_right T.F__law_right.kp T.b__law_right .nil pass0 (pa_cons (pe_call (ok__law_next T) (hr.mono (by decide)) (by rfl) T.m__law_next T.F__law_next.kp T.b__law_next .nil pass0 (pa_cons (pv 1) (pa_cons pe_int pa_nil))) (pa_cons (pe_ix (k_ixL (K := K)) (pv 2) (pe_call (ok__law_next T) (hr.mono (by decide)) (by rfl) T.m__law_next T.F__law_next.kp T.b__law_next .nil pass0 (pa_cons (pv 1) (pa_cons pe_int pa_nil))) (fun _ _ => rfl)) (pa_cons (pe_ix (k_ixL (K := K)) (pv 2) (pe_call (ok__law_next T) (hr.mono (by decide)) (by rfl) T.m__law_next T.F__law_next.kp T.b__law_next .nil pass0 (pa_cons (pv 1) (pa_cons pe_int pa_nil))) (fun _ _ => rfl)) pa_nil)))))) (pss_one (ps_ret pe_bl)) pss_nil)))
      (pss_one (ps_ret pe_bl))))), ?_⟩
  refine ⟨_, rfl, a, ns, rfl, hS, hl, fun m H1 s1 M1 => ?_⟩
  dsimp only [gName]
  have K0 : Kp H1 m [] := fun q hq => nomatch hq
  refine ⟨_, rfl, (by show 0 ≤ sizeLine; decide), fun p1 h1 => ?_⟩
  obtain ⟨K1, M1, t1⟩ := K0.add (o := .tup []) M1 h1
  generalize upd H1 p1 (.tup []) = G1 at K1 M1 t1 ⊢
  refine ⟨(by show 2 ≤ sizeLine; decide), fun p2 h2 => ?_⟩
  obtain ⟨K2, M2, t2⟩ := K1.add (o := .tup [.int 1, .int 2]) M1 h2
  generalize upd G1 p2 (.tup [.int 1, .int 2]) = G2 at K2 M2 t2 ⊢
  refine ⟨(by show 2 ≤ sizeLine; decide), fun p3 h3 => ?_⟩
  obtain ⟨K3, M3, t3⟩ := K2.add (o := .lst [.int 1, .int 2]) M2 h3
  generalize upd G2 p3 (.lst [.int 1, .int 2]) = G3 at K3 M3 t3 ⊢
  refine fun p4 h4 => ⟨upd_same, [(.inr "a", .int 1)], rfl, (by show 1 ≤ 15; decide), ?_⟩
  rw [upd_upd]
  obtain ⟨K4, M4, t4⟩ := K3.add (o := .dK [(.inr "a", .int 1)]) M3 h4
  have e4 : upd G3 p4 (.dK (mergeK [] [(.inr (Str.ofString "a"), V.int 1)])) = upd G3 p4 (.dK [(.inr "a", .int 1)]) := rfl
  rw [e4]
  generalize upd G3 p4 (.dK [(.inr "a", .int 1)]) = G4 at K4 M4 t4 ⊢
  refine ⟨_, _, rfl, rfl, ⟨by decide, by decide, by decide⟩, (by show 2 ≤ sizeLine; decide), fun p5 h5 => ?_⟩
  obtain ⟨K5, M5, t5⟩ := K4.add (o := .tup [.int 0, .int 2]) M4 h5
  generalize upd G4 p5 (.tup [.int 0, .int 2]) = G5 at K5 M5 t5 ⊢
  refine ⟨(by show 2 ≤ sizeLine; decide), fun p6 h6 => ?_⟩
  obtain ⟨K6, M6, t6⟩ := K5.add (o := .tup [.int 1, .ref p5]) M5 h6
  generalize upd G5 p6 (.tup [.int 1, .ref p5]) = G6 at K6 M6 t6 ⊢
  refine ⟨(by show 14 ≤ sizeLine; decide), fun p7 h7 => ?_⟩
  obtain ⟨K7, M7, t7⟩ := K6.add (o := .lst [.non, .int 0, .int (-1), .int 7, .bl true, .str "", .str "form", .ref p1, .ref p2, .ref p3, .ref p4, .int (10 ^ 30), .ref p6, .bl false]) M6 h7
  have e7 : upd G6 p7 (.lst [V.non, V.int 0, (fun (i : Int) => V.int (-i)) 1, V.int 7, V.bl true, V.str (Str.ofString ""), V.str (Str.ofString "form"), V.ref p1, V.ref p2, V.ref p3, V.ref p4, (fun (i j : Int) => V.int (i ^ j.toNat)) 10 30, V.ref p6, V.bl false]) = upd G6 p7 (.lst [.non, .int 0, .int (-1), .int 7, .bl true, .str "", .str "form", .ref p1, .ref p2, .ref p3, .ref p4, .int (10 ^ 30), .ref p6, .bl false]) := rfl
  rw [e7]
  generalize upd G6 p7 (.lst [.non, .int 0, .int (-1), .int 7, .bl true, .str "", .str "form", .ref p1, .ref p2, .ref p3, .ref p4, .int (10 ^ 30), .ref p6, .bl false]) = G7 at K7 M7 t7 ⊢
  have sG := s1.trans (t1.trans (t2.trans (t3.trans (t4.trans (t5.trans (t6.trans t7))))))
  dsimp only [gName]
  have hmin := min_of 5 (((ns.map V.int).length : Nat) : Int) (by omega) (by omega)
  refine ⟨_, rfl, a, _, rfl, .inl (sG.seq hS), _, _, rfl, _, _, rfl, rfl, _, rfl, by omega, by omega, ?_⟩
  refine for_it walk_range (fun i σ H' => ∃ (n : Nat) (w3 : Option V), σ = [some (.ref a), some (.ref m), some (.ref p7), w3] ∧ MS H' m n ∧ n ≤ 10 * i ∧ Kp H' m (cols p7 p1 p2 p3 p4 p5 p6)) ⟨0, none, rfl, M7, by omega, K7⟩ (fun _ _ _ _ _ => trivial) ?_ ?_
  · rintro i v σ H2 H2' hi ⟨n, w3, rfl, M2, hn, kk⟩ ⟨rfl, rfl⟩
    have hi8 : i < 8 := by omega
    refine ⟨_, rfl, m, 2, n, rfl, M2, by decide, by decide, by omega, fun r3 n3 H3 a3 b3 hn3 M3 e3 => ?_⟩
    have k3 := kk.ef e3
    refine ⟨_, rfl, _, rfl, m, 14, n3, rfl, M3, by decide, by decide, by omega, fun r4 n4 H4 a4 b4 hn4 M4 e4 => ?_⟩
    have k4 := k3.ef e4
    obtain ⟨x, dx, ax, mx, zx⟩ := cols_pick (K := K) k4 a4 b4
    refine ⟨p7, _, r4, x, rfl, rfl, SqL.of (k4 (p7, _) (by simp)).1, ax, ?_⟩
    refine ⟨_, rfl, _, rfl, m, 14, n4, rfl, M4, by decide, by decide, by omega, fun r5 n5 H5 a5 b5 hn5 M5 e5 => ?_⟩
    have k5 := k4.ef e5
    obtain ⟨y, dy, ay, my, zy⟩ := cols_pick (K := K) k5 a5 b5
    refine ⟨p7, _, r5, y, rfl, rfl, SqL.of (k5 (p7, _) (by simp)).1, ay, ?_⟩
    obtain ⟨x2, dx2, ax2, mx2, zx2⟩ := cols_pick (K := K) k5 a4 b4
    obtain rfl : x2 = x := Option.some.inj (ax2.symm.trans ax)
    exact ⟨r3, x2, y, dx2, dy, rfl, zx2, zy, mx2, my, fun H6 s6 => ⟨_, rfl, iteF ⟨_, _, rfl, M5.same s6, by omega, k5.sm M5 s6⟩⟩⟩
  rintro σ H2 ⟨n, w3, rfl, M2, hn, kk⟩
  exact q _
end
end My

namespace My
open PySem PySem.Spec PyProof.Rows L2
theorem all_mk {P : Program} {w : World} {K : PySem.W.Frag} {h : Heap} {mg : Str → Option Value} {fa : Addr} (X : K.In h) (G : h.Ns mainGlobals mg) (hfa : mg "law" = some (.ref fa))
    {f0 f1 f2 f3 f4 f5 f6 : Addr} {od0 an0 od1 an1 od2 an2 od3 an3 od4 an4 od5 an5 od6 an6 : Option Addr} {sl0 sl1 sl2 sl3 sl4 sl5 sl6 : Array (Option Value)}
    {oc0 dc0 pm0 cd0 ct0 kV0 oc1 dc1 pm1 cd1 ct1 kV1 oc2 dc2 pm2 cd2 ct2 kV2 oc3 dc3 pm3 cd3 ct3 kV3 oc4 dc4 pm4 cd4 ct4 kV4 oc5 dc5 pm5 cd5 ct5 kV5 oc6 dc6 pm6 cd6 ct6 kV6 : Value}
    (a0 : PySem.W.nsIn K mainGlobals "_law_begun" = some (some (.ref f0)))
    (l0 : K.lookup f0 = some ⟨oc0, od0, .func (PySem.W.fnOf "_law_begun" "_law_begun" (defArgs s__law_begun) (defBody s__law_begun) (defScope s__law_begun) .none kV0 dc0 pm0 an0 cd0 ct0), sl0⟩)
    (c0 : PySem.W.codeIn K cd0 "_law_begun" = true) (k0 : PySem.W.keepIn K (.ref f0) = true)
    (a1 : PySem.W.nsIn K mainGlobals "_law_next" = some (some (.ref f1)))
    (l1 : K.lookup f1 = some ⟨oc1, od1, .func (PySem.W.fnOf "_law_next" "_law_next" (defArgs s__law_next) (defBody s__law_next) (defScope s__law_next) .none kV1 dc1 pm1 an1 cd1 ct1), sl1⟩)
    (c1 : PySem.W.codeIn K cd1 "_law_next" = true) (k1 : PySem.W.keepIn K (.ref f1) = true)
    (a2 : PySem.W.nsIn K mainGlobals "_law_marks" = some (some (.ref f2)))
    (l2 : K.lookup f2 = some ⟨oc2, od2, .func (PySem.W.fnOf "_law_marks" "_law_marks" (defArgs s__law_marks) (defBody s__law_marks) (defScope s__law_marks) .none kV2 dc2 pm2 an2 cd2 ct2), sl2⟩)
    (c2 : PySem.W.codeIn K cd2 "_law_marks" = true) (k2 : PySem.W.keepIn K (.ref f2) = true)
    (a3 : PySem.W.nsIn K mainGlobals "_law_above" = some (some (.ref f3)))
    (l3 : K.lookup f3 = some ⟨oc3, od3, .func (PySem.W.fnOf "_law_above" "_law_above" (defArgs s__law_above) (defBody s__law_above) (defScope s__law_above) .none kV3 dc3 pm3 an3 cd3 ct3), sl3⟩)
    (c3 : PySem.W.codeIn K cd3 "_law_above" = true) (k3 : PySem.W.keepIn K (.ref f3) = true)
    (a4 : PySem.W.nsIn K mainGlobals "_law_made" = some (some (.ref f4)))
    (l4 : K.lookup f4 = some ⟨oc4, od4, .func (PySem.W.fnOf "_law_made" "_law_made" (defArgs s__law_made) (defBody s__law_made) (defScope s__law_made) .none kV4 dc4 pm4 an4 cd4 ct4), sl4⟩)
    (c4 : PySem.W.codeIn K cd4 "_law_made" = true) (k4 : PySem.W.keepIn K (.ref f4) = true)
    (a5 : PySem.W.nsIn K mainGlobals "_law_right" = some (some (.ref f5)))
    (l5 : K.lookup f5 = some ⟨oc5, od5, .func (PySem.W.fnOf "_law_right" "_law_right" (defArgs s__law_right) (defBody s__law_right) (defScope s__law_right) .none kV5 dc5 pm5 an5 cd5 ct5), sl5⟩)
    (c5 : PySem.W.codeIn K cd5 "_law_right" = true) (k5 : PySem.W.keepIn K (.ref f5) = true)
    (a6 : PySem.W.nsIn K mainGlobals "law" = some (some (.ref f6)))
    (l6 : K.lookup f6 = some ⟨oc6, od6, .func (PySem.W.fnOf "law" "law" (defArgs s_law) (defBody s_law) (defScope s_law) .none kV6 dc6 pm6 an6 cd6 ct6), sl6⟩)
    (c6 : PySem.W.codeIn K cd6 "law" = true) (k6 : PySem.W.keepIn K (.ref f6) = true)
    {C_BadLoops f_BadLoops N_BadLoops : Addr} {nm_BadLoops q_BadLoops : Str} {bs_BadLoops sub_BadLoops : List Value} {sn_BadLoops : List Str} {ab_BadLoops : Bool} {col_BadLoops : Option Bool} {dd_BadLoops od_BadLoops an_BadLoops : Option Addr} {m0_BadLoops m1_BadLoops m2_BadLoops m3_BadLoops m5_BadLoops : Option Value}
    {sl_BadLoops : Array (Option Value)} {oc_BadLoops kV_BadLoops dc_BadLoops pm_BadLoops cd_BadLoops ct_BadLoops : Value}
    (aC_BadLoops : PySem.W.nsIn K mainGlobals "BadLoops" = some (some (.ref C_BadLoops)))
    (xL_BadLoops : K.lookup C_BadLoops = some (excClassObj nm_BadLoops q_BadLoops C_BadLoops N_BadLoops bs_BadLoops [.type "ValueError", .type "Exception", .type "BaseException", .type "object"] true sn_BadLoops sub_BadLoops ab_BadLoops col_BadLoops dd_BadLoops m0_BadLoops m1_BadLoops m2_BadLoops m3_BadLoops m5_BadLoops "ValueError.__new__"))
    (sa_BadLoops : PySem.W.findIn K (.ref C_BadLoops) "__setattr__" = some (some (.builtin "object.__setattr__")))
    (ga_BadLoops : PySem.W.findIn K (.ref C_BadLoops) "__getattribute__" = some (some (.builtin "BaseException.__getattribute__")))
    (gg_BadLoops : PySem.W.findIn K (.ref C_BadLoops) "__getattr__" = some none)
    (nb_BadLoops : PySem.W.findIn K (.ref C_BadLoops) "place" = some none)
    (ai_BadLoops : PySem.W.findIn K (.ref C_BadLoops) "__init__" = some (some (.ref f_BadLoops)))
    (ti_BadLoops : PySem.W.typeIn K (.ref f_BadLoops) = some (.type "function"))
    (kC_BadLoops : PySem.W.keepIn K (.ref C_BadLoops) = true)
    (eC_BadLoops : PySem.W.subIn K (.ref C_BadLoops) (.type "BaseException") = some true)
    (tC_BadLoops : PySem.W.typeIn K (.ref C_BadLoops) = some (.type "type"))
    (hC_BadLoops : PySem.W.hasDictIn K C_BadLoops = true)
    (iC_BadLoops : PySem.W.isClsIn K C_BadLoops = true)
    (sC_BadLoops : PySem.W.subIn K (.ref C_BadLoops) (.ref C_BadLoops) = some true)
    (ki_BadLoops : PySem.W.keepIn K (.ref f_BadLoops) = true)
    (li_BadLoops : K.lookup f_BadLoops = some ⟨oc_BadLoops, od_BadLoops, .func (PySem.W.fnOf "__init__" "BadLoops.__init__" (defArgs s_BadLoops_init) (defBody s_BadLoops_init) (defScope s_BadLoops_init) .none kV_BadLoops dc_BadLoops pm_BadLoops an_BadLoops cd_BadLoops ct_BadLoops), sl_BadLoops⟩)
    (ci_BadLoops : PySem.W.codeIn K cd_BadLoops "BadLoops.__init__" = true)
    {C_BadLengths f_BadLengths N_BadLengths : Addr} {nm_BadLengths q_BadLengths : Str} {bs_BadLengths sub_BadLengths : List Value} {sn_BadLengths : List Str} {ab_BadLengths : Bool} {col_BadLengths : Option Bool} {dd_BadLengths od_BadLengths an_BadLengths : Option Addr} {m0_BadLengths m1_BadLengths m2_BadLengths m3_BadLengths m5_BadLengths : Option Value}
    {sl_BadLengths : Array (Option Value)} {oc_BadLengths kV_BadLengths dc_BadLengths pm_BadLengths cd_BadLengths ct_BadLengths : Value}
    (aC_BadLengths : PySem.W.nsIn K mainGlobals "BadLengths" = some (some (.ref C_BadLengths)))
    (xL_BadLengths : K.lookup C_BadLengths = some (excClassObj nm_BadLengths q_BadLengths C_BadLengths N_BadLengths bs_BadLengths [.type "ValueError", .type "Exception", .type "BaseException", .type "object"] true sn_BadLengths sub_BadLengths ab_BadLengths col_BadLengths dd_BadLengths m0_BadLengths m1_BadLengths m2_BadLengths m3_BadLengths m5_BadLengths "ValueError.__new__"))
    (sa_BadLengths : PySem.W.findIn K (.ref C_BadLengths) "__setattr__" = some (some (.builtin "object.__setattr__")))
    (ga_BadLengths : PySem.W.findIn K (.ref C_BadLengths) "__getattribute__" = some (some (.builtin "BaseException.__getattribute__")))
    (gg_BadLengths : PySem.W.findIn K (.ref C_BadLengths) "__getattr__" = some none)
    (nb_BadLengths : PySem.W.findIn K (.ref C_BadLengths) "place" = some none)
    (ai_BadLengths : PySem.W.findIn K (.ref C_BadLengths) "__init__" = some (some (.ref f_BadLengths)))
    (ti_BadLengths : PySem.W.typeIn K (.ref f_BadLengths) = some (.type "function"))
    (kC_BadLengths : PySem.W.keepIn K (.ref C_BadLengths) = true)
    (eC_BadLengths : PySem.W.subIn K (.ref C_BadLengths) (.type "BaseException") = some true)
    (tC_BadLengths : PySem.W.typeIn K (.ref C_BadLengths) = some (.type "type"))
    (hC_BadLengths : PySem.W.hasDictIn K C_BadLengths = true)
    (iC_BadLengths : PySem.W.isClsIn K C_BadLengths = true)
    (sC_BadLengths : PySem.W.subIn K (.ref C_BadLengths) (.ref C_BadLengths) = some true)
    (ki_BadLengths : PySem.W.keepIn K (.ref f_BadLengths) = true)
    (li_BadLengths : K.lookup f_BadLengths = some ⟨oc_BadLengths, od_BadLengths, .func (PySem.W.fnOf "__init__" "BadLengths.__init__" (defArgs s_BadLengths_init) (defBody s_BadLengths_init) (defScope s_BadLengths_init) .none kV_BadLengths dc_BadLengths pm_BadLengths an_BadLengths cd_BadLengths ct_BadLengths), sl_BadLengths⟩)
    (ci_BadLengths : PySem.W.codeIn K cd_BadLengths "BadLengths.__init__" = true)
    {C_BadPedal f_BadPedal N_BadPedal : Addr} {nm_BadPedal q_BadPedal : Str} {bs_BadPedal sub_BadPedal : List Value} {sn_BadPedal : List Str} {ab_BadPedal : Bool} {col_BadPedal : Option Bool} {dd_BadPedal od_BadPedal an_BadPedal : Option Addr} {m0_BadPedal m1_BadPedal m2_BadPedal m3_BadPedal m5_BadPedal : Option Value}
    {sl_BadPedal : Array (Option Value)} {oc_BadPedal kV_BadPedal dc_BadPedal pm_BadPedal cd_BadPedal ct_BadPedal : Value}
    (aC_BadPedal : PySem.W.nsIn K mainGlobals "BadPedal" = some (some (.ref C_BadPedal)))
    (xL_BadPedal : K.lookup C_BadPedal = some (excClassObj nm_BadPedal q_BadPedal C_BadPedal N_BadPedal bs_BadPedal [.type "ValueError", .type "Exception", .type "BaseException", .type "object"] true sn_BadPedal sub_BadPedal ab_BadPedal col_BadPedal dd_BadPedal m0_BadPedal m1_BadPedal m2_BadPedal m3_BadPedal m5_BadPedal "ValueError.__new__"))
    (sa_BadPedal : PySem.W.findIn K (.ref C_BadPedal) "__setattr__" = some (some (.builtin "object.__setattr__")))
    (ga_BadPedal : PySem.W.findIn K (.ref C_BadPedal) "__getattribute__" = some (some (.builtin "BaseException.__getattribute__")))
    (gg_BadPedal : PySem.W.findIn K (.ref C_BadPedal) "__getattr__" = some none)
    (nb_BadPedal : PySem.W.findIn K (.ref C_BadPedal) "place" = some none)
    (ai_BadPedal : PySem.W.findIn K (.ref C_BadPedal) "__init__" = some (some (.ref f_BadPedal)))
    (ti_BadPedal : PySem.W.typeIn K (.ref f_BadPedal) = some (.type "function"))
    (kC_BadPedal : PySem.W.keepIn K (.ref C_BadPedal) = true)
    (eC_BadPedal : PySem.W.subIn K (.ref C_BadPedal) (.type "BaseException") = some true)
    (tC_BadPedal : PySem.W.typeIn K (.ref C_BadPedal) = some (.type "type"))
    (hC_BadPedal : PySem.W.hasDictIn K C_BadPedal = true)
    (iC_BadPedal : PySem.W.isClsIn K C_BadPedal = true)
    (sC_BadPedal : PySem.W.subIn K (.ref C_BadPedal) (.ref C_BadPedal) = some true)
    (ki_BadPedal : PySem.W.keepIn K (.ref f_BadPedal) = true)
    (li_BadPedal : K.lookup f_BadPedal = some ⟨oc_BadPedal, od_BadPedal, .func (PySem.W.fnOf "__init__" "BadPedal.__init__" (defArgs s_BadPedal_init) (defBody s_BadPedal_init) (defScope s_BadPedal_init) .none kV_BadPedal dc_BadPedal pm_BadPedal an_BadPedal cd_BadPedal ct_BadPedal), sl_BadPedal⟩)
    (ci_BadPedal : PySem.W.codeIn K cd_BadPedal "BadPedal.__init__" = true)
    {C_BadRow f_BadRow N_BadRow : Addr} {nm_BadRow q_BadRow : Str} {bs_BadRow sub_BadRow : List Value} {sn_BadRow : List Str} {ab_BadRow : Bool} {col_BadRow : Option Bool} {dd_BadRow od_BadRow an_BadRow : Option Addr} {m0_BadRow m1_BadRow m2_BadRow m3_BadRow m5_BadRow : Option Value}
    {sl_BadRow : Array (Option Value)} {oc_BadRow kV_BadRow dc_BadRow pm_BadRow cd_BadRow ct_BadRow : Value}
    (aC_BadRow : PySem.W.nsIn K mainGlobals "BadRow" = some (some (.ref C_BadRow)))
    (xL_BadRow : K.lookup C_BadRow = some (excClassObj nm_BadRow q_BadRow C_BadRow N_BadRow bs_BadRow [.type "ValueError", .type "Exception", .type "BaseException", .type "object"] true sn_BadRow sub_BadRow ab_BadRow col_BadRow dd_BadRow m0_BadRow m1_BadRow m2_BadRow m3_BadRow m5_BadRow "ValueError.__new__"))
    (sa_BadRow : PySem.W.findIn K (.ref C_BadRow) "__setattr__" = some (some (.builtin "object.__setattr__")))
    (ga_BadRow : PySem.W.findIn K (.ref C_BadRow) "__getattribute__" = some (some (.builtin "BaseException.__getattribute__")))
    (gg_BadRow : PySem.W.findIn K (.ref C_BadRow) "__getattr__" = some none)
    (nb_BadRow : PySem.W.findIn K (.ref C_BadRow) "place" = some none)
    (ai_BadRow : PySem.W.findIn K (.ref C_BadRow) "__init__" = some (some (.ref f_BadRow)))
    (ti_BadRow : PySem.W.typeIn K (.ref f_BadRow) = some (.type "function"))
    (kC_BadRow : PySem.W.keepIn K (.ref C_BadRow) = true)
    (eC_BadRow : PySem.W.subIn K (.ref C_BadRow) (.type "BaseException") = some true)
    (tC_BadRow : PySem.W.typeIn K (.ref C_BadRow) = some (.type "type"))
    (hC_BadRow : PySem.W.hasDictIn K C_BadRow = true)
    (iC_BadRow : PySem.W.isClsIn K C_BadRow = true)
    (sC_BadRow : PySem.W.subIn K (.ref C_BadRow) (.ref C_BadRow) = some true)
    (ki_BadRow : PySem.W.keepIn K (.ref f_BadRow) = true)
    (li_BadRow : K.lookup f_BadRow = some ⟨oc_BadRow, od_BadRow, .func (PySem.W.fnOf "__init__" "BadRow.__init__" (defArgs s_BadRow_init) (defBody s_BadRow_init) (defScope s_BadRow_init) .none kV_BadRow dc_BadRow pm_BadRow an_BadRow cd_BadRow ct_BadRow), sl_BadRow⟩)
    (ci_BadRow : PySem.W.codeIn K cd_BadRow "BadRow.__init__" = true)
    {C_BadPaper f_BadPaper N_BadPaper : Addr} {nm_BadPaper q_BadPaper : Str} {bs_BadPaper sub_BadPaper : List Value} {sn_BadPaper : List Str} {ab_BadPaper : Bool} {col_BadPaper : Option Bool} {dd_BadPaper od_BadPaper an_BadPaper : Option Addr} {m0_BadPaper m1_BadPaper m2_BadPaper m3_BadPaper m5_BadPaper : Option Value}
    {sl_BadPaper : Array (Option Value)} {oc_BadPaper kV_BadPaper dc_BadPaper pm_BadPaper cd_BadPaper ct_BadPaper : Value}
    (aC_BadPaper : PySem.W.nsIn K mainGlobals "BadPaper" = some (some (.ref C_BadPaper)))
    (xL_BadPaper : K.lookup C_BadPaper = some (excClassObj nm_BadPaper q_BadPaper C_BadPaper N_BadPaper bs_BadPaper [.type "ValueError", .type "Exception", .type "BaseException", .type "object"] true sn_BadPaper sub_BadPaper ab_BadPaper col_BadPaper dd_BadPaper m0_BadPaper m1_BadPaper m2_BadPaper m3_BadPaper m5_BadPaper "ValueError.__new__"))
    (sa_BadPaper : PySem.W.findIn K (.ref C_BadPaper) "__setattr__" = some (some (.builtin "object.__setattr__")))
    (ga_BadPaper : PySem.W.findIn K (.ref C_BadPaper) "__getattribute__" = some (some (.builtin "BaseException.__getattribute__")))
    (gg_BadPaper : PySem.W.findIn K (.ref C_BadPaper) "__getattr__" = some none)
    (nb_BadPaper : PySem.W.findIn K (.ref C_BadPaper) "part" = some none)
    (ai_BadPaper : PySem.W.findIn K (.ref C_BadPaper) "__init__" = some (some (.ref f_BadPaper)))
    (ti_BadPaper : PySem.W.typeIn K (.ref f_BadPaper) = some (.type "function"))
    (kC_BadPaper : PySem.W.keepIn K (.ref C_BadPaper) = true)
    (eC_BadPaper : PySem.W.subIn K (.ref C_BadPaper) (.type "BaseException") = some true)
    (tC_BadPaper : PySem.W.typeIn K (.ref C_BadPaper) = some (.type "type"))
    (hC_BadPaper : PySem.W.hasDictIn K C_BadPaper = true)
    (iC_BadPaper : PySem.W.isClsIn K C_BadPaper = true)
    (sC_BadPaper : PySem.W.subIn K (.ref C_BadPaper) (.ref C_BadPaper) = some true)
    (ki_BadPaper : PySem.W.keepIn K (.ref f_BadPaper) = true)
    (li_BadPaper : K.lookup f_BadPaper = some ⟨oc_BadPaper, od_BadPaper, .func (PySem.W.fnOf "__init__" "BadPaper.__init__" (defArgs s_BadPaper_init) (defBody s_BadPaper_init) (defScope s_BadPaper_init) .none kV_BadPaper dc_BadPaper pm_BadPaper an_BadPaper cd_BadPaper ct_BadPaper), sl_BadPaper⟩)
    (ci_BadPaper : PySem.W.codeIn K cd_BadPaper "BadPaper.__init__" = true)
    {C_BadText f_BadText N_BadText : Addr} {nm_BadText q_BadText : Str} {bs_BadText sub_BadText : List Value} {sn_BadText : List Str} {ab_BadText : Bool} {col_BadText : Option Bool} {dd_BadText od_BadText an_BadText : Option Addr} {m0_BadText m1_BadText m2_BadText m3_BadText m5_BadText : Option Value}
    {sl_BadText : Array (Option Value)} {oc_BadText kV_BadText dc_BadText pm_BadText cd_BadText ct_BadText : Value}
    (aC_BadText : PySem.W.nsIn K mainGlobals "BadText" = some (some (.ref C_BadText)))
    (xL_BadText : K.lookup C_BadText = some (excClassObj nm_BadText q_BadText C_BadText N_BadText bs_BadText [.type "ValueError", .type "Exception", .type "BaseException", .type "object"] true sn_BadText sub_BadText ab_BadText col_BadText dd_BadText m0_BadText m1_BadText m2_BadText m3_BadText m5_BadText "ValueError.__new__"))
    (sa_BadText : PySem.W.findIn K (.ref C_BadText) "__setattr__" = some (some (.builtin "object.__setattr__")))
    (ga_BadText : PySem.W.findIn K (.ref C_BadText) "__getattribute__" = some (some (.builtin "BaseException.__getattribute__")))
    (gg_BadText : PySem.W.findIn K (.ref C_BadText) "__getattr__" = some none)
    (nb_BadText : PySem.W.findIn K (.ref C_BadText) "line" = some none)
    (ai_BadText : PySem.W.findIn K (.ref C_BadText) "__init__" = some (some (.ref f_BadText)))
    (ti_BadText : PySem.W.typeIn K (.ref f_BadText) = some (.type "function"))
    (kC_BadText : PySem.W.keepIn K (.ref C_BadText) = true)
    (eC_BadText : PySem.W.subIn K (.ref C_BadText) (.type "BaseException") = some true)
    (tC_BadText : PySem.W.typeIn K (.ref C_BadText) = some (.type "type"))
    (hC_BadText : PySem.W.hasDictIn K C_BadText = true)
    (iC_BadText : PySem.W.isClsIn K C_BadText = true)
    (sC_BadText : PySem.W.subIn K (.ref C_BadText) (.ref C_BadText) = some true)
    (ki_BadText : PySem.W.keepIn K (.ref f_BadText) = true)
    (nw_BadText : PySem.W.findIn K (.ref C_BadText) "word" = some none)
    (li_BadText : K.lookup f_BadText = some ⟨oc_BadText, od_BadText, .func (PySem.W.fnOf "__init__" "BadText.__init__" (defArgs s_BadText_init) (defBody s_BadText_init) (defScope s_BadText_init) .none kV_BadText dc_BadText pm_BadText an_BadText cd_BadText ct_BadText), sl_BadText⟩)
    (ci_BadText : PySem.W.codeIn K cd_BadText "BadText.__init__" = true)
    {C_OutOfPlace f_OutOfPlace N_OutOfPlace : Addr} {nm_OutOfPlace q_OutOfPlace : Str} {bs_OutOfPlace sub_OutOfPlace : List Value} {sn_OutOfPlace : List Str} {ab_OutOfPlace : Bool} {col_OutOfPlace : Option Bool} {dd_OutOfPlace od_OutOfPlace an_OutOfPlace : Option Addr} {m0_OutOfPlace m1_OutOfPlace m2_OutOfPlace m3_OutOfPlace m5_OutOfPlace : Option Value}
    {sl_OutOfPlace : Array (Option Value)} {oc_OutOfPlace kV_OutOfPlace dc_OutOfPlace pm_OutOfPlace cd_OutOfPlace ct_OutOfPlace : Value}
    (aC_OutOfPlace : PySem.W.nsIn K mainGlobals "OutOfPlace" = some (some (.ref C_OutOfPlace)))
    (xL_OutOfPlace : K.lookup C_OutOfPlace = some (excClassObj nm_OutOfPlace q_OutOfPlace C_OutOfPlace N_OutOfPlace bs_OutOfPlace [.type "ValueError", .type "Exception", .type "BaseException", .type "object"] true sn_OutOfPlace sub_OutOfPlace ab_OutOfPlace col_OutOfPlace dd_OutOfPlace m0_OutOfPlace m1_OutOfPlace m2_OutOfPlace m3_OutOfPlace m5_OutOfPlace "ValueError.__new__"))
    (sa_OutOfPlace : PySem.W.findIn K (.ref C_OutOfPlace) "__setattr__" = some (some (.builtin "object.__setattr__")))
    (ga_OutOfPlace : PySem.W.findIn K (.ref C_OutOfPlace) "__getattribute__" = some (some (.builtin "BaseException.__getattribute__")))
    (gg_OutOfPlace : PySem.W.findIn K (.ref C_OutOfPlace) "__getattr__" = some none)
    (nb_OutOfPlace : PySem.W.findIn K (.ref C_OutOfPlace) "text" = some none)
    (ai_OutOfPlace : PySem.W.findIn K (.ref C_OutOfPlace) "__init__" = some (some (.ref f_OutOfPlace)))
    (ti_OutOfPlace : PySem.W.typeIn K (.ref f_OutOfPlace) = some (.type "function"))
    (kC_OutOfPlace : PySem.W.keepIn K (.ref C_OutOfPlace) = true)
    (eC_OutOfPlace : PySem.W.subIn K (.ref C_OutOfPlace) (.type "BaseException") = some true)
    (tC_OutOfPlace : PySem.W.typeIn K (.ref C_OutOfPlace) = some (.type "type"))
    (hC_OutOfPlace : PySem.W.hasDictIn K C_OutOfPlace = true)
    (iC_OutOfPlace : PySem.W.isClsIn K C_OutOfPlace = true)
    (sC_OutOfPlace : PySem.W.subIn K (.ref C_OutOfPlace) (.ref C_OutOfPlace) = some true)
    (ki_OutOfPlace : PySem.W.keepIn K (.ref f_OutOfPlace) = true)
    (li_OutOfPlace : K.lookup f_OutOfPlace = some ⟨oc_OutOfPlace, od_OutOfPlace, .func (PySem.W.fnOf "__init__" "OutOfPlace.__init__" (defArgs s_OutOfPlace_init) (defBody s_OutOfPlace_init) (defScope s_OutOfPlace_init) .none kV_OutOfPlace dc_OutOfPlace pm_OutOfPlace an_OutOfPlace cd_OutOfPlace ct_OutOfPlace), sl_OutOfPlace⟩)
    (ci_OutOfPlace : PySem.W.codeIn K cd_OutOfPlace "OutOfPlace.__init__" = true)
    {C_TooGreat f_TooGreat N_TooGreat : Addr} {nm_TooGreat q_TooGreat : Str} {bs_TooGreat sub_TooGreat : List Value} {sn_TooGreat : List Str} {ab_TooGreat : Bool} {col_TooGreat : Option Bool} {dd_TooGreat od_TooGreat an_TooGreat : Option Addr} {m0_TooGreat m1_TooGreat m2_TooGreat m3_TooGreat m5_TooGreat : Option Value}
    {sl_TooGreat : Array (Option Value)} {oc_TooGreat kV_TooGreat dc_TooGreat pm_TooGreat cd_TooGreat ct_TooGreat : Value}
    (aC_TooGreat : PySem.W.nsIn K mainGlobals "TooGreat" = some (some (.ref C_TooGreat)))
    (xL_TooGreat : K.lookup C_TooGreat = some (excClassObj nm_TooGreat q_TooGreat C_TooGreat N_TooGreat bs_TooGreat [.type "OverflowError", .type "ArithmeticError", .type "Exception", .type "BaseException", .type "object"] true sn_TooGreat sub_TooGreat ab_TooGreat col_TooGreat dd_TooGreat m0_TooGreat m1_TooGreat m2_TooGreat m3_TooGreat m5_TooGreat "OverflowError.__new__"))
    (sa_TooGreat : PySem.W.findIn K (.ref C_TooGreat) "__setattr__" = some (some (.builtin "object.__setattr__")))
    (ga_TooGreat : PySem.W.findIn K (.ref C_TooGreat) "__getattribute__" = some (some (.builtin "BaseException.__getattribute__")))
    (gg_TooGreat : PySem.W.findIn K (.ref C_TooGreat) "__getattr__" = some none)
    (nb_TooGreat : PySem.W.findIn K (.ref C_TooGreat) "most" = some none)
    (ai_TooGreat : PySem.W.findIn K (.ref C_TooGreat) "__init__" = some (some (.ref f_TooGreat)))
    (ti_TooGreat : PySem.W.typeIn K (.ref f_TooGreat) = some (.type "function"))
    (kC_TooGreat : PySem.W.keepIn K (.ref C_TooGreat) = true)
    (eC_TooGreat : PySem.W.subIn K (.ref C_TooGreat) (.type "BaseException") = some true)
    (tC_TooGreat : PySem.W.typeIn K (.ref C_TooGreat) = some (.type "type"))
    (hC_TooGreat : PySem.W.hasDictIn K C_TooGreat = true)
    (iC_TooGreat : PySem.W.isClsIn K C_TooGreat = true)
    (sC_TooGreat : PySem.W.subIn K (.ref C_TooGreat) (.ref C_TooGreat) = some true)
    (ki_TooGreat : PySem.W.keepIn K (.ref f_TooGreat) = true)
    (li_TooGreat : K.lookup f_TooGreat = some ⟨oc_TooGreat, od_TooGreat, .func (PySem.W.fnOf "__init__" "TooGreat.__init__" (defArgs s_TooGreat_init) (defBody s_TooGreat_init) (defScope s_TooGreat_init) .none kV_TooGreat dc_TooGreat pm_TooGreat an_TooGreat cd_TooGreat ct_TooGreat), sl_TooGreat⟩)
    (ci_TooGreat : PySem.W.codeIn K cd_TooGreat "TooGreat.__init__" = true)
    {C_Nothing f_Nothing N_Nothing : Addr} {nm_Nothing q_Nothing : Str} {bs_Nothing sub_Nothing : List Value} {sn_Nothing : List Str} {ab_Nothing : Bool} {col_Nothing : Option Bool} {dd_Nothing od_Nothing an_Nothing : Option Addr} {m0_Nothing m1_Nothing m2_Nothing m3_Nothing m5_Nothing : Option Value}
    {sl_Nothing : Array (Option Value)} {oc_Nothing kV_Nothing dc_Nothing pm_Nothing cd_Nothing ct_Nothing : Value}
    (aC_Nothing : PySem.W.nsIn K mainGlobals "Nothing" = some (some (.ref C_Nothing)))
    (xL_Nothing : K.lookup C_Nothing = some (excClassObj nm_Nothing q_Nothing C_Nothing N_Nothing bs_Nothing [.type "LookupError", .type "Exception", .type "BaseException", .type "object"] true sn_Nothing sub_Nothing ab_Nothing col_Nothing dd_Nothing m0_Nothing m1_Nothing m2_Nothing m3_Nothing m5_Nothing "LookupError.__new__"))
    (sa_Nothing : PySem.W.findIn K (.ref C_Nothing) "__setattr__" = some (some (.builtin "object.__setattr__")))
    (ga_Nothing : PySem.W.findIn K (.ref C_Nothing) "__getattribute__" = some (some (.builtin "BaseException.__getattribute__")))
    (gg_Nothing : PySem.W.findIn K (.ref C_Nothing) "__getattr__" = some none)
    (nb_Nothing : PySem.W.findIn K (.ref C_Nothing) "text" = some none)
    (ai_Nothing : PySem.W.findIn K (.ref C_Nothing) "__init__" = some (some (.ref f_Nothing)))
    (ti_Nothing : PySem.W.typeIn K (.ref f_Nothing) = some (.type "function"))
    (kC_Nothing : PySem.W.keepIn K (.ref C_Nothing) = true)
    (eC_Nothing : PySem.W.subIn K (.ref C_Nothing) (.type "BaseException") = some true)
    (tC_Nothing : PySem.W.typeIn K (.ref C_Nothing) = some (.type "type"))
    (hC_Nothing : PySem.W.hasDictIn K C_Nothing = true)
    (iC_Nothing : PySem.W.isClsIn K C_Nothing = true)
    (sC_Nothing : PySem.W.subIn K (.ref C_Nothing) (.ref C_Nothing) = some true)
    (ki_Nothing : PySem.W.keepIn K (.ref f_Nothing) = true)
    (li_Nothing : K.lookup f_Nothing = some ⟨oc_Nothing, od_Nothing, .func (PySem.W.fnOf "__init__" "Nothing.__init__" (defArgs s_Nothing_init) (defBody s_Nothing_init) (defScope s_Nothing_init) .none kV_Nothing dc_Nothing pm_Nothing an_Nothing cd_Nothing ct_Nothing), sl_Nothing⟩)
    (ci_Nothing : PySem.W.codeIn K cd_Nothing "Nothing.__init__" = true)
    (cl_BadLoops : PySem.W.findIn K (.ref C_BadLoops) "__class__" = some (some (.builtin "object.__class__"))) (mo_BadLoops : PySem.W.mroIn K C_BadLoops (.type "object") = some true)
    (sy_BadLoops_BadLengths : PySem.W.subIn K (.ref C_BadLoops) (.ref C_BadLengths) = some false)
    (sy_BadLoops_BadPedal : PySem.W.subIn K (.ref C_BadLoops) (.ref C_BadPedal) = some false)
    (sy_BadLoops_BadRow : PySem.W.subIn K (.ref C_BadLoops) (.ref C_BadRow) = some false)
    (sy_BadLoops_BadPaper : PySem.W.subIn K (.ref C_BadLoops) (.ref C_BadPaper) = some false)
    (sy_BadLoops_BadText : PySem.W.subIn K (.ref C_BadLoops) (.ref C_BadText) = some false)
    (sy_BadLoops_OutOfPlace : PySem.W.subIn K (.ref C_BadLoops) (.ref C_OutOfPlace) = some false)
    (sy_BadLoops_TooGreat : PySem.W.subIn K (.ref C_BadLoops) (.ref C_TooGreat) = some false)
    (sy_BadLoops_Nothing : PySem.W.subIn K (.ref C_BadLoops) (.ref C_Nothing) = some false)
    (cl_BadLengths : PySem.W.findIn K (.ref C_BadLengths) "__class__" = some (some (.builtin "object.__class__"))) (mo_BadLengths : PySem.W.mroIn K C_BadLengths (.type "object") = some true)
    (sy_BadLengths_BadLoops : PySem.W.subIn K (.ref C_BadLengths) (.ref C_BadLoops) = some false)
    (sy_BadLengths_BadPedal : PySem.W.subIn K (.ref C_BadLengths) (.ref C_BadPedal) = some false)
    (sy_BadLengths_BadRow : PySem.W.subIn K (.ref C_BadLengths) (.ref C_BadRow) = some false)
    (sy_BadLengths_BadPaper : PySem.W.subIn K (.ref C_BadLengths) (.ref C_BadPaper) = some false)
    (sy_BadLengths_BadText : PySem.W.subIn K (.ref C_BadLengths) (.ref C_BadText) = some false)
    (sy_BadLengths_OutOfPlace : PySem.W.subIn K (.ref C_BadLengths) (.ref C_OutOfPlace) = some false)
    (sy_BadLengths_TooGreat : PySem.W.subIn K (.ref C_BadLengths) (.ref C_TooGreat) = some false)
    (sy_BadLengths_Nothing : PySem.W.subIn K (.ref C_BadLengths) (.ref C_Nothing) = some false)
    (cl_BadPedal : PySem.W.findIn K (.ref C_BadPedal) "__class__" = some (some (.builtin "object.__class__"))) (mo_BadPedal : PySem.W.mroIn K C_BadPedal (.type "object") = some true)
    (sy_BadPedal_BadLoops : PySem.W.subIn K (.ref C_BadPedal) (.ref C_BadLoops) = some false)
    (sy_BadPedal_BadLengths : PySem.W.subIn K (.ref C_BadPedal) (.ref C_BadLengths) = some false)
    (sy_BadPedal_BadRow : PySem.W.subIn K (.ref C_BadPedal) (.ref C_BadRow) = some false)
    (sy_BadPedal_BadPaper : PySem.W.subIn K (.ref C_BadPedal) (.ref C_BadPaper) = some false)
    (sy_BadPedal_BadText : PySem.W.subIn K (.ref C_BadPedal) (.ref C_BadText) = some false)
    (sy_BadPedal_OutOfPlace : PySem.W.subIn K (.ref C_BadPedal) (.ref C_OutOfPlace) = some false)
    (sy_BadPedal_TooGreat : PySem.W.subIn K (.ref C_BadPedal) (.ref C_TooGreat) = some false)
    (sy_BadPedal_Nothing : PySem.W.subIn K (.ref C_BadPedal) (.ref C_Nothing) = some false)
    (cl_BadRow : PySem.W.findIn K (.ref C_BadRow) "__class__" = some (some (.builtin "object.__class__"))) (mo_BadRow : PySem.W.mroIn K C_BadRow (.type "object") = some true)
    (sy_BadRow_BadLoops : PySem.W.subIn K (.ref C_BadRow) (.ref C_BadLoops) = some false)
    (sy_BadRow_BadLengths : PySem.W.subIn K (.ref C_BadRow) (.ref C_BadLengths) = some false)
    (sy_BadRow_BadPedal : PySem.W.subIn K (.ref C_BadRow) (.ref C_BadPedal) = some false)
    (sy_BadRow_BadPaper : PySem.W.subIn K (.ref C_BadRow) (.ref C_BadPaper) = some false)
    (sy_BadRow_BadText : PySem.W.subIn K (.ref C_BadRow) (.ref C_BadText) = some false)
    (sy_BadRow_OutOfPlace : PySem.W.subIn K (.ref C_BadRow) (.ref C_OutOfPlace) = some false)
    (sy_BadRow_TooGreat : PySem.W.subIn K (.ref C_BadRow) (.ref C_TooGreat) = some false)
    (sy_BadRow_Nothing : PySem.W.subIn K (.ref C_BadRow) (.ref C_Nothing) = some false)
    (cl_BadPaper : PySem.W.findIn K (.ref C_BadPaper) "__class__" = some (some (.builtin "object.__class__"))) (mo_BadPaper : PySem.W.mroIn K C_BadPaper (.type "object") = some true)
    (sy_BadPaper_BadLoops : PySem.W.subIn K (.ref C_BadPaper) (.ref C_BadLoops) = some false)
    (sy_BadPaper_BadLengths : PySem.W.subIn K (.ref C_BadPaper) (.ref C_BadLengths) = some false)
    (sy_BadPaper_BadPedal : PySem.W.subIn K (.ref C_BadPaper) (.ref C_BadPedal) = some false)
    (sy_BadPaper_BadRow : PySem.W.subIn K (.ref C_BadPaper) (.ref C_BadRow) = some false)
    (sy_BadPaper_BadText : PySem.W.subIn K (.ref C_BadPaper) (.ref C_BadText) = some false)
    (sy_BadPaper_OutOfPlace : PySem.W.subIn K (.ref C_BadPaper) (.ref C_OutOfPlace) = some false)
    (sy_BadPaper_TooGreat : PySem.W.subIn K (.ref C_BadPaper) (.ref C_TooGreat) = some false)
    (sy_BadPaper_Nothing : PySem.W.subIn K (.ref C_BadPaper) (.ref C_Nothing) = some false)
    (cl_BadText : PySem.W.findIn K (.ref C_BadText) "__class__" = some (some (.builtin "object.__class__"))) (mo_BadText : PySem.W.mroIn K C_BadText (.type "object") = some true)
    (sy_BadText_BadLoops : PySem.W.subIn K (.ref C_BadText) (.ref C_BadLoops) = some false)
    (sy_BadText_BadLengths : PySem.W.subIn K (.ref C_BadText) (.ref C_BadLengths) = some false)
    (sy_BadText_BadPedal : PySem.W.subIn K (.ref C_BadText) (.ref C_BadPedal) = some false)
    (sy_BadText_BadRow : PySem.W.subIn K (.ref C_BadText) (.ref C_BadRow) = some false)
    (sy_BadText_BadPaper : PySem.W.subIn K (.ref C_BadText) (.ref C_BadPaper) = some false)
    (sy_BadText_OutOfPlace : PySem.W.subIn K (.ref C_BadText) (.ref C_OutOfPlace) = some false)
    (sy_BadText_TooGreat : PySem.W.subIn K (.ref C_BadText) (.ref C_TooGreat) = some false)
    (sy_BadText_Nothing : PySem.W.subIn K (.ref C_BadText) (.ref C_Nothing) = some false)
    (cl_OutOfPlace : PySem.W.findIn K (.ref C_OutOfPlace) "__class__" = some (some (.builtin "object.__class__"))) (mo_OutOfPlace : PySem.W.mroIn K C_OutOfPlace (.type "object") = some true)
    (sy_OutOfPlace_BadLoops : PySem.W.subIn K (.ref C_OutOfPlace) (.ref C_BadLoops) = some false)
    (sy_OutOfPlace_BadLengths : PySem.W.subIn K (.ref C_OutOfPlace) (.ref C_BadLengths) = some false)
    (sy_OutOfPlace_BadPedal : PySem.W.subIn K (.ref C_OutOfPlace) (.ref C_BadPedal) = some false)
    (sy_OutOfPlace_BadRow : PySem.W.subIn K (.ref C_OutOfPlace) (.ref C_BadRow) = some false)
    (sy_OutOfPlace_BadPaper : PySem.W.subIn K (.ref C_OutOfPlace) (.ref C_BadPaper) = some false)
    (sy_OutOfPlace_BadText : PySem.W.subIn K (.ref C_OutOfPlace) (.ref C_BadText) = some false)
    (sy_OutOfPlace_TooGreat : PySem.W.subIn K (.ref C_OutOfPlace) (.ref C_TooGreat) = some false)
    (sy_OutOfPlace_Nothing : PySem.W.subIn K (.ref C_OutOfPlace) (.ref C_Nothing) = some false)
    (cl_TooGreat : PySem.W.findIn K (.ref C_TooGreat) "__class__" = some (some (.builtin "object.__class__"))) (mo_TooGreat : PySem.W.mroIn K C_TooGreat (.type "object") = some true)
    (sy_TooGreat_BadLoops : PySem.W.subIn K (.ref C_TooGreat) (.ref C_BadLoops) = some false)
    (sy_TooGreat_BadLengths : PySem.W.subIn K (.ref C_TooGreat) (.ref C_BadLengths) = some false)
    (sy_TooGreat_BadPedal : PySem.W.subIn K (.ref C_TooGreat) (.ref C_BadPedal) = some false)
    (sy_TooGreat_BadRow : PySem.W.subIn K (.ref C_TooGreat) (.ref C_BadRow) = some false)
    (sy_TooGreat_BadPaper : PySem.W.subIn K (.ref C_TooGreat) (.ref C_BadPaper) = some false)
    (sy_TooGreat_BadText : PySem.W.subIn K (.ref C_TooGreat) (.ref C_BadText) = some false)
    (sy_TooGreat_OutOfPlace : PySem.W.subIn K (.ref C_TooGreat) (.ref C_OutOfPlace) = some false)
    (sy_TooGreat_Nothing : PySem.W.subIn K (.ref C_TooGreat) (.ref C_Nothing) = some false)
    (cl_Nothing : PySem.W.findIn K (.ref C_Nothing) "__class__" = some (some (.builtin "object.__class__"))) (mo_Nothing : PySem.W.mroIn K C_Nothing (.type "object") = some true)
    (sy_Nothing_BadLoops : PySem.W.subIn K (.ref C_Nothing) (.ref C_BadLoops) = some false)
    (sy_Nothing_BadLengths : PySem.W.subIn K (.ref C_Nothing) (.ref C_BadLengths) = some false)
    (sy_Nothing_BadPedal : PySem.W.subIn K (.ref C_Nothing) (.ref C_BadPedal) = some false)
    (sy_Nothing_BadRow : PySem.W.subIn K (.ref C_Nothing) (.ref C_BadRow) = some false)
    (sy_Nothing_BadPaper : PySem.W.subIn K (.ref C_Nothing) (.ref C_BadPaper) = some false)
    (sy_Nothing_BadText : PySem.W.subIn K (.ref C_Nothing) (.ref C_BadText) = some false)
    (sy_Nothing_OutOfPlace : PySem.W.subIn K (.ref C_Nothing) (.ref C_OutOfPlace) = some false)
    (sy_Nothing_TooGreat : PySem.W.subIn K (.ref C_Nothing) (.ref C_TooGreat) = some false)
    (z_ValueError : PySem.W.nsIn K mainGlobals "ValueError" = some none)
    (v_ValueError : PySem.W.findCls K (.type "ValueError") (.type "type") "__init__" = some (.val (.builtin "ValueError.__init__")))
    (z_OverflowError : PySem.W.nsIn K mainGlobals "OverflowError" = some none)
    (v_OverflowError : PySem.W.findCls K (.type "OverflowError") (.type "type") "__init__" = some (.val (.builtin "OverflowError.__init__")))
    (z_LookupError : PySem.W.nsIn K mainGlobals "LookupError" = some none)
    (v_LookupError : PySem.W.findCls K (.type "LookupError") (.type "type") "__init__" = some (.val (.builtin "LookupError.__init__")))
    (z_list : PySem.W.nsIn K mainGlobals "list" = some none)
    (z_int : PySem.W.nsIn K mainGlobals "int" = some none)
    (z_len : PySem.W.nsIn K mainGlobals "len" = some none)
    (z_isinstance : PySem.W.nsIn K mainGlobals "isinstance" = some none)
    (z_KeyError : PySem.W.nsIn K mainGlobals "KeyError" = some none)
    (z_IndexError : PySem.W.nsIn K mainGlobals "IndexError" = some none)
    (z_enumerate : PySem.W.nsIn K mainGlobals "enumerate" = some none)
    (z_repr : PySem.W.nsIn K mainGlobals "repr" = some none)
    (z_range : PySem.W.nsIn K mainGlobals "range" = some none)
    (z_min : PySem.W.nsIn K mainGlobals "min" = some none)
    : ∃ fd : FuncData, (∀ (s : Shared) (v : Value), BindsTo s fd ⟨[v], []⟩ [("script", v)]) ∧
      ∀ base : Heap, K.In base → base.Ns mainGlobals mg → FnG P w K mg base 5 fa fd ["script"] (sp_law K) := by
  have e := hfa.symm.trans (PySem.W.mg_of X G a6)
  cases e
  have F0 := fun_mk (st := s__law_begun) l0 c0 k0
  have b0 := F0.binds (ps := ["script"]) fun _ _ _ _ _ _ us hl => match us, hl with | [_], _ => rfl
  have F1 := fun_mk (st := s__law_next) l1 c1 k1
  have b1 := F1.binds (ps := ["m", "many"]) fun _ _ _ _ _ _ us hl => match us, hl with | [_, _], _ => rfl
  have F2 := fun_mk (st := s__law_marks) l2 c2 k2
  have b2 := F2.binds (ps := ["one"]) fun _ _ _ _ _ _ us hl => match us, hl with | [_], _ => rfl
  have F3 := fun_mk (st := s__law_above) l3 c3 k3
  have b3 := F3.binds (ps := ["one"]) fun _ _ _ _ _ _ us hl => match us, hl with | [_], _ => rfl
  have F4 := fun_mk (st := s__law_made) l4 c4 k4
  have b4 := F4.binds (ps := ["way", "x", "y"]) fun _ _ _ _ _ _ us hl => match us, hl with | [_, _, _], _ => rfl
  have F5 := fun_mk (st := s__law_right) l5 c5 k5
  have b5 := F5.binds (ps := ["way", "x", "y"]) fun _ _ _ _ _ _ us hl => match us, hl with | [_, _, _], _ => rfl
  have F6 := fun_mk (st := s_law) l6 c6 k6
  have b6 := F6.binds (ps := ["script"]) fun _ _ _ _ _ _ us hl => match us, hl with | [_], _ => rfl
  have Fi_BadLoops := fun_mk (st := s_BadLoops_init) li_BadLoops ci_BadLoops ki_BadLoops
  have bi_BadLoops := Fi_BadLoops.binds (ps := ["self", "place"]) fun _ _ _ _ _ _ us hl => match us, hl with | [_, _], _ => rfl
  have Fi_BadLengths := fun_mk (st := s_BadLengths_init) li_BadLengths ci_BadLengths ki_BadLengths
  have bi_BadLengths := Fi_BadLengths.binds (ps := ["self", "place"]) fun _ _ _ _ _ _ us hl => match us, hl with | [_, _], _ => rfl
  have Fi_BadPedal := fun_mk (st := s_BadPedal_init) li_BadPedal ci_BadPedal ki_BadPedal
  have bi_BadPedal := Fi_BadPedal.binds (ps := ["self", "place"]) fun _ _ _ _ _ _ us hl => match us, hl with | [_, _], _ => rfl
  have Fi_BadRow := fun_mk (st := s_BadRow_init) li_BadRow ci_BadRow ki_BadRow
  have bi_BadRow := Fi_BadRow.binds (ps := ["self", "place"]) fun _ _ _ _ _ _ us hl => match us, hl with | [_, _], _ => rfl
  have Fi_BadPaper := fun_mk (st := s_BadPaper_init) li_BadPaper ci_BadPaper ki_BadPaper
  have bi_BadPaper := Fi_BadPaper.binds (ps := ["self", "part"]) fun _ _ _ _ _ _ us hl => match us, hl with | [_, _], _ => rfl
  have Fi_BadText := fun_mk (st := s_BadText_init) li_BadText ci_BadText ki_BadText
  have bi_BadText := Fi_BadText.binds (ps := ["self", "line", "word"]) fun _ _ _ _ _ _ us hl => match us, hl with | [_, _, _], _ => rfl
  have Fi_OutOfPlace := fun_mk (st := s_OutOfPlace_init) li_OutOfPlace ci_OutOfPlace ki_OutOfPlace
  have bi_OutOfPlace := Fi_OutOfPlace.binds (ps := ["self", "text"]) fun _ _ _ _ _ _ us hl => match us, hl with | [_, _], _ => rfl
  have Fi_TooGreat := fun_mk (st := s_TooGreat_init) li_TooGreat ci_TooGreat ki_TooGreat
  have bi_TooGreat := Fi_TooGreat.binds (ps := ["self", "most"]) fun _ _ _ _ _ _ us hl => match us, hl with | [_, _], _ => rfl
  have Fi_Nothing := fun_mk (st := s_Nothing_init) li_Nothing ci_Nothing ki_Nothing
  have bi_Nothing := Fi_Nothing.binds (ps := ["self", "text"]) fun _ _ _ _ _ _ us hl => match us, hl with | [_, _], _ => rfl
  refine ⟨PySem.W.fnOf "law" "law" (defArgs s_law) (defBody s_law) (defScope s_law) .none kV6 dc6 pm6 an6 cd6 ct6, fun s v => .of_eq rfl, fun base _ _ => ?_⟩
  let T : Top K mg := {
      a__law_begun := f0
      d__law_begun := _
      F__law_begun := F0
      m__law_begun := PySem.W.mg_of X G a0
      b__law_begun := b0
      a__law_next := f1
      d__law_next := _
      F__law_next := F1
      m__law_next := PySem.W.mg_of X G a1
      b__law_next := b1
      a__law_marks := f2
      d__law_marks := _
      F__law_marks := F2
      m__law_marks := PySem.W.mg_of X G a2
      b__law_marks := b2
      a__law_above := f3
      d__law_above := _
      F__law_above := F3
      m__law_above := PySem.W.mg_of X G a3
      b__law_above := b3
      a__law_made := f4
      d__law_made := _
      F__law_made := F4
      m__law_made := PySem.W.mg_of X G a4
      b__law_made := b4
      a__law_right := f5
      d__law_right := _
      F__law_right := F5
      m__law_right := PySem.W.mg_of X G a5
      b__law_right := b5
      a_law := fa
      d_law := _
      F_law := F6
      m_law := PySem.W.mg_of X G a6
      b_law := b6
      x_BadLoops := exc_mk X G Fi_BadLoops bi_BadLoops aC_BadLoops xL_BadLoops sa_BadLoops ga_BadLoops gg_BadLoops nb_BadLoops ai_BadLoops ti_BadLoops kC_BadLoops eC_BadLoops tC_BadLoops hC_BadLoops iC_BadLoops sC_BadLoops
      x_BadLengths := exc_mk X G Fi_BadLengths bi_BadLengths aC_BadLengths xL_BadLengths sa_BadLengths ga_BadLengths gg_BadLengths nb_BadLengths ai_BadLengths ti_BadLengths kC_BadLengths eC_BadLengths tC_BadLengths hC_BadLengths iC_BadLengths sC_BadLengths
      x_BadPedal := exc_mk X G Fi_BadPedal bi_BadPedal aC_BadPedal xL_BadPedal sa_BadPedal ga_BadPedal gg_BadPedal nb_BadPedal ai_BadPedal ti_BadPedal kC_BadPedal eC_BadPedal tC_BadPedal hC_BadPedal iC_BadPedal sC_BadPedal
      x_BadRow := exc_mk X G Fi_BadRow bi_BadRow aC_BadRow xL_BadRow sa_BadRow ga_BadRow gg_BadRow nb_BadRow ai_BadRow ti_BadRow kC_BadRow eC_BadRow tC_BadRow hC_BadRow iC_BadRow sC_BadRow
      x_BadPaper := exc_mk X G Fi_BadPaper bi_BadPaper aC_BadPaper xL_BadPaper sa_BadPaper ga_BadPaper gg_BadPaper nb_BadPaper ai_BadPaper ti_BadPaper kC_BadPaper eC_BadPaper tC_BadPaper hC_BadPaper iC_BadPaper sC_BadPaper
      x_BadText := exc_mk2 X G Fi_BadText bi_BadText aC_BadText xL_BadText sa_BadText ga_BadText gg_BadText nb_BadText nw_BadText ai_BadText ti_BadText kC_BadText eC_BadText tC_BadText hC_BadText iC_BadText sC_BadText
      x_OutOfPlace := exc_mk X G Fi_OutOfPlace bi_OutOfPlace aC_OutOfPlace xL_OutOfPlace sa_OutOfPlace ga_OutOfPlace gg_OutOfPlace nb_OutOfPlace ai_OutOfPlace ti_OutOfPlace kC_OutOfPlace eC_OutOfPlace tC_OutOfPlace hC_OutOfPlace iC_OutOfPlace sC_OutOfPlace
      x_TooGreat := exo_mk X G Fi_TooGreat bi_TooGreat aC_TooGreat xL_TooGreat sa_TooGreat ga_TooGreat gg_TooGreat nb_TooGreat ai_TooGreat ti_TooGreat kC_TooGreat eC_TooGreat tC_TooGreat hC_TooGreat iC_TooGreat sC_TooGreat
      x_Nothing := exo_mk X G Fi_Nothing bi_Nothing aC_Nothing xL_Nothing sa_Nothing ga_Nothing gg_Nothing nb_Nothing ai_Nothing ti_Nothing kC_Nothing eC_Nothing tC_Nothing hC_Nothing iC_Nothing sC_Nothing
      e_BadLoops := ⟨ga_BadLoops, gg_BadLoops, eC_BadLoops, hC_BadLoops, cl_BadLoops, (by rfl), (by rfl), mo_BadLoops⟩
      y_BadLoops_BadLengths := exm_apart eC_BadLengths iC_BadLengths tC_BadLengths sy_BadLoops_BadLengths
      y_BadLoops_BadPedal := exm_apart eC_BadPedal iC_BadPedal tC_BadPedal sy_BadLoops_BadPedal
      y_BadLoops_BadRow := exm_apart eC_BadRow iC_BadRow tC_BadRow sy_BadLoops_BadRow
      y_BadLoops_BadPaper := exm_apart eC_BadPaper iC_BadPaper tC_BadPaper sy_BadLoops_BadPaper
      y_BadLoops_BadText := exm_apart eC_BadText iC_BadText tC_BadText sy_BadLoops_BadText
      y_BadLoops_OutOfPlace := exm_apart eC_OutOfPlace iC_OutOfPlace tC_OutOfPlace sy_BadLoops_OutOfPlace
      y_BadLoops_TooGreat := exm_apart eC_TooGreat iC_TooGreat tC_TooGreat sy_BadLoops_TooGreat
      y_BadLoops_Nothing := exm_apart eC_Nothing iC_Nothing tC_Nothing sy_BadLoops_Nothing
      e_BadLengths := ⟨ga_BadLengths, gg_BadLengths, eC_BadLengths, hC_BadLengths, cl_BadLengths, (by rfl), (by rfl), mo_BadLengths⟩
      y_BadLengths_BadLoops := exm_apart eC_BadLoops iC_BadLoops tC_BadLoops sy_BadLengths_BadLoops
      y_BadLengths_BadPedal := exm_apart eC_BadPedal iC_BadPedal tC_BadPedal sy_BadLengths_BadPedal
      y_BadLengths_BadRow := exm_apart eC_BadRow iC_BadRow tC_BadRow sy_BadLengths_BadRow
      y_BadLengths_BadPaper := exm_apart eC_BadPaper iC_BadPaper tC_BadPaper sy_BadLengths_BadPaper
      y_BadLengths_BadText := exm_apart eC_BadText iC_BadText tC_BadText sy_BadLengths_BadText
      y_BadLengths_OutOfPlace := exm_apart eC_OutOfPlace iC_OutOfPlace tC_OutOfPlace sy_BadLengths_OutOfPlace
      y_BadLengths_TooGreat := exm_apart eC_TooGreat iC_TooGreat tC_TooGreat sy_BadLengths_TooGreat
      y_BadLengths_Nothing := exm_apart eC_Nothing iC_Nothing tC_Nothing sy_BadLengths_Nothing
      e_BadPedal := ⟨ga_BadPedal, gg_BadPedal, eC_BadPedal, hC_BadPedal, cl_BadPedal, (by rfl), (by rfl), mo_BadPedal⟩
      y_BadPedal_BadLoops := exm_apart eC_BadLoops iC_BadLoops tC_BadLoops sy_BadPedal_BadLoops
      y_BadPedal_BadLengths := exm_apart eC_BadLengths iC_BadLengths tC_BadLengths sy_BadPedal_BadLengths
      y_BadPedal_BadRow := exm_apart eC_BadRow iC_BadRow tC_BadRow sy_BadPedal_BadRow
      y_BadPedal_BadPaper := exm_apart eC_BadPaper iC_BadPaper tC_BadPaper sy_BadPedal_BadPaper
      y_BadPedal_BadText := exm_apart eC_BadText iC_BadText tC_BadText sy_BadPedal_BadText
      y_BadPedal_OutOfPlace := exm_apart eC_OutOfPlace iC_OutOfPlace tC_OutOfPlace sy_BadPedal_OutOfPlace
      y_BadPedal_TooGreat := exm_apart eC_TooGreat iC_TooGreat tC_TooGreat sy_BadPedal_TooGreat
      y_BadPedal_Nothing := exm_apart eC_Nothing iC_Nothing tC_Nothing sy_BadPedal_Nothing
      e_BadRow := ⟨ga_BadRow, gg_BadRow, eC_BadRow, hC_BadRow, cl_BadRow, (by rfl), (by rfl), mo_BadRow⟩
      y_BadRow_BadLoops := exm_apart eC_BadLoops iC_BadLoops tC_BadLoops sy_BadRow_BadLoops
      y_BadRow_BadLengths := exm_apart eC_BadLengths iC_BadLengths tC_BadLengths sy_BadRow_BadLengths
      y_BadRow_BadPedal := exm_apart eC_BadPedal iC_BadPedal tC_BadPedal sy_BadRow_BadPedal
      y_BadRow_BadPaper := exm_apart eC_BadPaper iC_BadPaper tC_BadPaper sy_BadRow_BadPaper
      y_BadRow_BadText := exm_apart eC_BadText iC_BadText tC_BadText sy_BadRow_BadText
      y_BadRow_OutOfPlace := exm_apart eC_OutOfPlace iC_OutOfPlace tC_OutOfPlace sy_BadRow_OutOfPlace
      y_BadRow_TooGreat := exm_apart eC_TooGreat iC_TooGreat tC_TooGreat sy_BadRow_TooGreat
      y_BadRow_Nothing := exm_apart eC_Nothing iC_Nothing tC_Nothing sy_BadRow_Nothing
      e_BadPaper := ⟨ga_BadPaper, gg_BadPaper, eC_BadPaper, hC_BadPaper, cl_BadPaper, (by rfl), (by rfl), mo_BadPaper⟩
      y_BadPaper_BadLoops := exm_apart eC_BadLoops iC_BadLoops tC_BadLoops sy_BadPaper_BadLoops
      y_BadPaper_BadLengths := exm_apart eC_BadLengths iC_BadLengths tC_BadLengths sy_BadPaper_BadLengths
      y_BadPaper_BadPedal := exm_apart eC_BadPedal iC_BadPedal tC_BadPedal sy_BadPaper_BadPedal
      y_BadPaper_BadRow := exm_apart eC_BadRow iC_BadRow tC_BadRow sy_BadPaper_BadRow
      y_BadPaper_BadText := exm_apart eC_BadText iC_BadText tC_BadText sy_BadPaper_BadText
      y_BadPaper_OutOfPlace := exm_apart eC_OutOfPlace iC_OutOfPlace tC_OutOfPlace sy_BadPaper_OutOfPlace
      y_BadPaper_TooGreat := exm_apart eC_TooGreat iC_TooGreat tC_TooGreat sy_BadPaper_TooGreat
      y_BadPaper_Nothing := exm_apart eC_Nothing iC_Nothing tC_Nothing sy_BadPaper_Nothing
      e_BadText := ⟨ga_BadText, gg_BadText, eC_BadText, hC_BadText, cl_BadText, (by rfl), (by rfl), mo_BadText⟩
      y_BadText_BadLoops := exm_apart eC_BadLoops iC_BadLoops tC_BadLoops sy_BadText_BadLoops
      y_BadText_BadLengths := exm_apart eC_BadLengths iC_BadLengths tC_BadLengths sy_BadText_BadLengths
      y_BadText_BadPedal := exm_apart eC_BadPedal iC_BadPedal tC_BadPedal sy_BadText_BadPedal
      y_BadText_BadRow := exm_apart eC_BadRow iC_BadRow tC_BadRow sy_BadText_BadRow
      y_BadText_BadPaper := exm_apart eC_BadPaper iC_BadPaper tC_BadPaper sy_BadText_BadPaper
      y_BadText_OutOfPlace := exm_apart eC_OutOfPlace iC_OutOfPlace tC_OutOfPlace sy_BadText_OutOfPlace
      y_BadText_TooGreat := exm_apart eC_TooGreat iC_TooGreat tC_TooGreat sy_BadText_TooGreat
      y_BadText_Nothing := exm_apart eC_Nothing iC_Nothing tC_Nothing sy_BadText_Nothing
      e_OutOfPlace := ⟨ga_OutOfPlace, gg_OutOfPlace, eC_OutOfPlace, hC_OutOfPlace, cl_OutOfPlace, (by rfl), (by rfl), mo_OutOfPlace⟩
      y_OutOfPlace_BadLoops := exm_apart eC_BadLoops iC_BadLoops tC_BadLoops sy_OutOfPlace_BadLoops
      y_OutOfPlace_BadLengths := exm_apart eC_BadLengths iC_BadLengths tC_BadLengths sy_OutOfPlace_BadLengths
      y_OutOfPlace_BadPedal := exm_apart eC_BadPedal iC_BadPedal tC_BadPedal sy_OutOfPlace_BadPedal
      y_OutOfPlace_BadRow := exm_apart eC_BadRow iC_BadRow tC_BadRow sy_OutOfPlace_BadRow
      y_OutOfPlace_BadPaper := exm_apart eC_BadPaper iC_BadPaper tC_BadPaper sy_OutOfPlace_BadPaper
      y_OutOfPlace_BadText := exm_apart eC_BadText iC_BadText tC_BadText sy_OutOfPlace_BadText
      y_OutOfPlace_TooGreat := exm_apart eC_TooGreat iC_TooGreat tC_TooGreat sy_OutOfPlace_TooGreat
      y_OutOfPlace_Nothing := exm_apart eC_Nothing iC_Nothing tC_Nothing sy_OutOfPlace_Nothing
      e_TooGreat := ⟨ga_TooGreat, gg_TooGreat, eC_TooGreat, hC_TooGreat, cl_TooGreat, (by rfl), (by rfl), mo_TooGreat⟩
      y_TooGreat_BadLoops := exm_apart eC_BadLoops iC_BadLoops tC_BadLoops sy_TooGreat_BadLoops
      y_TooGreat_BadLengths := exm_apart eC_BadLengths iC_BadLengths tC_BadLengths sy_TooGreat_BadLengths
      y_TooGreat_BadPedal := exm_apart eC_BadPedal iC_BadPedal tC_BadPedal sy_TooGreat_BadPedal
      y_TooGreat_BadRow := exm_apart eC_BadRow iC_BadRow tC_BadRow sy_TooGreat_BadRow
      y_TooGreat_BadPaper := exm_apart eC_BadPaper iC_BadPaper tC_BadPaper sy_TooGreat_BadPaper
      y_TooGreat_BadText := exm_apart eC_BadText iC_BadText tC_BadText sy_TooGreat_BadText
      y_TooGreat_OutOfPlace := exm_apart eC_OutOfPlace iC_OutOfPlace tC_OutOfPlace sy_TooGreat_OutOfPlace
      y_TooGreat_Nothing := exm_apart eC_Nothing iC_Nothing tC_Nothing sy_TooGreat_Nothing
      e_Nothing := ⟨ga_Nothing, gg_Nothing, eC_Nothing, hC_Nothing, cl_Nothing, (by rfl), (by rfl), mo_Nothing⟩
      y_Nothing_BadLoops := exm_apart eC_BadLoops iC_BadLoops tC_BadLoops sy_Nothing_BadLoops
      y_Nothing_BadLengths := exm_apart eC_BadLengths iC_BadLengths tC_BadLengths sy_Nothing_BadLengths
      y_Nothing_BadPedal := exm_apart eC_BadPedal iC_BadPedal tC_BadPedal sy_Nothing_BadPedal
      y_Nothing_BadRow := exm_apart eC_BadRow iC_BadRow tC_BadRow sy_Nothing_BadRow
      y_Nothing_BadPaper := exm_apart eC_BadPaper iC_BadPaper tC_BadPaper sy_Nothing_BadPaper
      y_Nothing_BadText := exm_apart eC_BadText iC_BadText tC_BadText sy_Nothing_BadText
      y_Nothing_OutOfPlace := exm_apart eC_OutOfPlace iC_OutOfPlace tC_OutOfPlace sy_Nothing_OutOfPlace
      y_Nothing_TooGreat := exm_apart eC_TooGreat iC_TooGreat tC_TooGreat sy_Nothing_TooGreat
      z_ValueError := PySem.W.mg_none_of X G z_ValueError
      v_ValueError := v_ValueError
      z_OverflowError := PySem.W.mg_none_of X G z_OverflowError
      v_OverflowError := v_OverflowError
      z_LookupError := PySem.W.mg_none_of X G z_LookupError
      v_LookupError := v_LookupError
      z_list := PySem.W.mg_none_of X G z_list
      z_int := PySem.W.mg_none_of X G z_int
      z_len := PySem.W.mg_none_of X G z_len
      z_isinstance := PySem.W.mg_none_of X G z_isinstance
      z_KeyError := PySem.W.mg_none_of X G z_KeyError
      z_IndexError := PySem.W.mg_none_of X G z_IndexError
      z_enumerate := PySem.W.mg_none_of X G z_enumerate
      z_repr := PySem.W.mg_none_of X G z_repr
      z_range := PySem.W.mg_none_of X G z_range
      z_min := PySem.W.mg_none_of X G z_min }
  exact ok_law T
end My
open PySem PySem.W PyProof.Rows
set_option maxRecDepth 100000 in
set_option maxHeartbeats 0 in
theorem PySem.Challenge.cw_pedalrounds_k01_errors_holds : PySem.Challenge.rw_pedalrounds_k01_errors.Holds := by
  w_on; o_law; k_head; (case hw => w_witness2)
  k_fill
  refine L2.my_walk (l := PySem.Challenge.rw_pedalrounds_k01_errors) (k := 5) (sp := My.sp_law) rfl rfl ⟨rfl, by decide, by decide⟩ (fun w h Y => PySem.W.kIn_of Y) ?F (fun K H a ns hl hS => ⟨a, ns, rfl, hS, hl, fun _ => rfl⟩)
  case F =>
    intro w mg fa h KX G hmg
    refine' My.all_mk KX G hmg ?a0 ?l0 ?c0 ?k0 ?a1 ?l1 ?c1 ?k1 ?a2 ?l2 ?c2 ?k2 ?a3 ?l3 ?c3 ?k3 ?a4 ?l4 ?c4 ?k4 ?a5 ?l5 ?c5 ?k5 ?a6 ?l6 ?c6 ?k6 ?aC_BadLoops ?xL_BadLoops ?sa_BadLoops ?ga_BadLoops ?gg_BadLoops ?nb_BadLoops ?ai_BadLoops ?ti_BadLoops ?kC_BadLoops ?eC_BadLoops ?tC_BadLoops ?hC_BadLoops ?iC_BadLoops ?sC_BadLoops ?ki_BadLoops ?li_BadLoops ?ci_BadLoops ?aC_BadLengths ?xL_BadLengths ?sa_BadLengths ?ga_BadLengths ?gg_BadLengths ?nb_BadLengths ?ai_BadLengths ?ti_BadLengths ?kC_BadLengths ?eC_BadLengths ?tC_BadLengths ?hC_BadLengths ?iC_BadLengths ?sC_BadLengths ?ki_BadLengths ?li_BadLengths ?ci_BadLengths ?aC_BadPedal ?xL_BadPedal ?sa_BadPedal ?ga_BadPedal ?gg_BadPedal ?nb_BadPedal ?ai_BadPedal ?ti_BadPedal ?kC_BadPedal ?eC_BadPedal ?tC_BadPedal ?hC_BadPedal ?iC_BadPedal ?sC_BadPedal ?ki_BadPedal ?li_BadPedal ?ci_BadPedal ?aC_BadRow ?xL_BadRow ?sa_BadRow ?ga_BadRow ?gg_BadRow ?nb_BadRow ?ai_BadRow ?ti_BadRow ?kC_BadRow ?eC_BadRow ?tC_BadRow ?hC_BadRow ?iC_BadRow ?sC_BadRow ?ki_BadRow ?li_BadRow ?ci_BadRow ?aC_BadPaper ?xL_BadPaper ?sa_BadPaper ?ga_BadPaper ?gg_BadPaper ?nb_BadPaper ?ai_BadPaper ?ti_BadPaper ?kC_BadPaper ?eC_BadPaper ?tC_BadPaper ?hC_BadPaper ?iC_BadPaper ?sC_BadPaper ?ki_BadPaper ?li_BadPaper ?ci_BadPaper ?aC_BadText ?xL_BadText ?sa_BadText ?ga_BadText ?gg_BadText ?nb_BadText ?ai_BadText ?ti_BadText ?kC_BadText ?eC_BadText ?tC_BadText ?hC_BadText ?iC_BadText ?sC_BadText ?ki_BadText ?nw_BadText ?li_BadText ?ci_BadText ?aC_OutOfPlace ?xL_OutOfPlace ?sa_OutOfPlace ?ga_OutOfPlace ?gg_OutOfPlace ?nb_OutOfPlace ?ai_OutOfPlace ?ti_OutOfPlace ?kC_OutOfPlace ?eC_OutOfPlace ?tC_OutOfPlace ?hC_OutOfPlace ?iC_OutOfPlace ?sC_OutOfPlace ?ki_OutOfPlace ?li_OutOfPlace ?ci_OutOfPlace ?aC_TooGreat ?xL_TooGreat ?sa_TooGreat ?ga_TooGreat ?gg_TooGreat ?nb_TooGreat ?ai_TooGreat ?ti_TooGreat ?kC_TooGreat ?eC_TooGreat ?tC_TooGreat ?hC_TooGreat ?iC_TooGreat ?sC_TooGreat ?ki_TooGreat ?li_TooGreat ?ci_TooGreat ?aC_Nothing ?xL_Nothing ?sa_Nothing ?ga_Nothing ?gg_Nothing ?nb_Nothing ?ai_Nothing ?ti_Nothing ?kC_Nothing ?eC_Nothing ?tC_Nothing ?hC_Nothing ?iC_Nothing ?sC_Nothing ?ki_Nothing ?li_Nothing ?ci_Nothing ?cl_BadLoops ?mo_BadLoops ?sy_BadLoops_BadLengths ?sy_BadLoops_BadPedal ?sy_BadLoops_BadRow ?sy_BadLoops_BadPaper ?sy_BadLoops_BadText ?sy_BadLoops_OutOfPlace ?sy_BadLoops_TooGreat ?sy_BadLoops_Nothing ?cl_BadLengths ?mo_BadLengths ?sy_BadLengths_BadLoops ?sy_BadLengths_BadPedal ?sy_BadLengths_BadRow ?sy_BadLengths_BadPaper ?sy_BadLengths_BadText ?sy_BadLengths_OutOfPlace ?sy_BadLengths_TooGreat ?sy_BadLengths_Nothing ?cl_BadPedal ?mo_BadPedal ?sy_BadPedal_BadLoops ?sy_BadPedal_BadLengths ?sy_BadPedal_BadRow ?sy_BadPedal_BadPaper ?sy_BadPedal_BadText ?sy_BadPedal_OutOfPlace ?sy_BadPedal_TooGreat ?sy_BadPedal_Nothing ?cl_BadRow ?mo_BadRow ?sy_BadRow_BadLoops ?sy_BadRow_BadLengths ?sy_BadRow_BadPedal ?sy_BadRow_BadPaper ?sy_BadRow_BadText ?sy_BadRow_OutOfPlace ?sy_BadRow_TooGreat ?sy_BadRow_Nothing ?cl_BadPaper ?mo_BadPaper ?sy_BadPaper_BadLoops ?sy_BadPaper_BadLengths ?sy_BadPaper_BadPedal ?sy_BadPaper_BadRow ?sy_BadPaper_BadText ?sy_BadPaper_OutOfPlace ?sy_BadPaper_TooGreat ?sy_BadPaper_Nothing ?cl_BadText ?mo_BadText ?sy_BadText_BadLoops ?sy_BadText_BadLengths ?sy_BadText_BadPedal ?sy_BadText_BadRow ?sy_BadText_BadPaper ?sy_BadText_OutOfPlace ?sy_BadText_TooGreat ?sy_BadText_Nothing ?cl_OutOfPlace ?mo_OutOfPlace ?sy_OutOfPlace_BadLoops ?sy_OutOfPlace_BadLengths ?sy_OutOfPlace_BadPedal ?sy_OutOfPlace_BadRow ?sy_OutOfPlace_BadPaper ?sy_OutOfPlace_BadText ?sy_OutOfPlace_TooGreat ?sy_OutOfPlace_Nothing ?cl_TooGreat ?mo_TooGreat ?sy_TooGreat_BadLoops ?sy_TooGreat_BadLengths ?sy_TooGreat_BadPedal ?sy_TooGreat_BadRow ?sy_TooGreat_BadPaper ?sy_TooGreat_BadText ?sy_TooGreat_OutOfPlace ?sy_TooGreat_Nothing ?cl_Nothing ?mo_Nothing ?sy_Nothing_BadLoops ?sy_Nothing_BadLengths ?sy_Nothing_BadPedal ?sy_Nothing_BadRow ?sy_Nothing_BadPaper ?sy_Nothing_BadText ?sy_Nothing_OutOfPlace ?sy_Nothing_TooGreat ?z_ValueError ?v_ValueError ?z_OverflowError ?v_OverflowError ?z_LookupError ?v_LookupError ?z_list ?z_int ?z_len ?z_isinstance ?z_KeyError ?z_IndexError ?z_enumerate ?z_repr ?z_range ?z_min
    (case a0 => k_is)
    (case l0 => k_is)
    (case c0 => k_is)
    (case k0 => k_is)
    (case a1 => k_is)
    (case l1 => k_is)
    (case c1 => k_is)
    (case k1 => k_is)
    (case a2 => k_is)
    (case l2 => k_is)
    (case c2 => k_is)
    (case k2 => k_is)
    (case a3 => k_is)
    (case l3 => k_is)
    (case c3 => k_is)
    (case k3 => k_is)
    (case a4 => k_is)
    (case l4 => k_is)
    (case c4 => k_is)
    (case k4 => k_is)
    (case a5 => k_is)
    (case l5 => k_is)
    (case c5 => k_is)
    (case k5 => k_is)
    (case a6 => k_is)
    (case l6 => k_is)
    (case c6 => k_is)
    (case k6 => k_is)
    (case aC_BadLoops => k_is)
    (case xL_BadLoops => k_is)
    (case sa_BadLoops => k_is)
    (case ga_BadLoops => k_is)
    (case gg_BadLoops => k_is)
    (case nb_BadLoops => k_is)
    (case ai_BadLoops => k_is)
    (case ti_BadLoops => k_is)
    (case kC_BadLoops => k_is)
    (case eC_BadLoops => k_is)
    (case tC_BadLoops => k_is)
    (case hC_BadLoops => k_is)
    (case iC_BadLoops => k_is)
    (case sC_BadLoops => first | rfl | k_is)
    (case ki_BadLoops => k_is)
    (case li_BadLoops => k_is)
    (case ci_BadLoops => k_is)
    (case aC_BadLengths => k_is)
    (case xL_BadLengths => k_is)
    (case sa_BadLengths => k_is)
    (case ga_BadLengths => k_is)
    (case gg_BadLengths => k_is)
    (case nb_BadLengths => k_is)
    (case ai_BadLengths => k_is)
    (case ti_BadLengths => k_is)
    (case kC_BadLengths => k_is)
    (case eC_BadLengths => k_is)
    (case tC_BadLengths => k_is)
    (case hC_BadLengths => k_is)
    (case iC_BadLengths => k_is)
    (case sC_BadLengths => first | rfl | k_is)
    (case ki_BadLengths => k_is)
    (case li_BadLengths => k_is)
    (case ci_BadLengths => k_is)
    (case aC_BadPedal => k_is)
    (case xL_BadPedal => k_is)
    (case sa_BadPedal => k_is)
    (case ga_BadPedal => k_is)
    (case gg_BadPedal => k_is)
    (case nb_BadPedal => k_is)
    (case ai_BadPedal => k_is)
    (case ti_BadPedal => k_is)
    (case kC_BadPedal => k_is)
    (case eC_BadPedal => k_is)
    (case tC_BadPedal => k_is)
    (case hC_BadPedal => k_is)
    (case iC_BadPedal => k_is)
    (case sC_BadPedal => first | rfl | k_is)
    (case ki_BadPedal => k_is)
    (case li_BadPedal => k_is)
    (case ci_BadPedal => k_is)
    (case aC_BadRow => k_is)
    (case xL_BadRow => k_is)
    (case sa_BadRow => k_is)
    (case ga_BadRow => k_is)
    (case gg_BadRow => k_is)
    (case nb_BadRow => k_is)
    (case ai_BadRow => k_is)
    (case ti_BadRow => k_is)
    (case kC_BadRow => k_is)
    (case eC_BadRow => k_is)
    (case tC_BadRow => k_is)
    (case hC_BadRow => k_is)
    (case iC_BadRow => k_is)
    (case sC_BadRow => first | rfl | k_is)
    (case ki_BadRow => k_is)
    (case li_BadRow => k_is)
    (case ci_BadRow => k_is)
    (case aC_BadPaper => k_is)
    (case xL_BadPaper => k_is)
    (case sa_BadPaper => k_is)
    (case ga_BadPaper => k_is)
    (case gg_BadPaper => k_is)
    (case nb_BadPaper => k_is)
    (case ai_BadPaper => k_is)
    (case ti_BadPaper => k_is)
    (case kC_BadPaper => k_is)
    (case eC_BadPaper => k_is)
    (case tC_BadPaper => k_is)
    (case hC_BadPaper => k_is)
    (case iC_BadPaper => k_is)
    (case sC_BadPaper => first | rfl | k_is)
    (case ki_BadPaper => k_is)
    (case li_BadPaper => k_is)
    (case ci_BadPaper => k_is)
    (case aC_BadText => k_is)
    (case xL_BadText => k_is)
    (case sa_BadText => k_is)
    (case ga_BadText => k_is)
    (case gg_BadText => k_is)
    (case nb_BadText => k_is)
    (case ai_BadText => k_is)
    (case ti_BadText => k_is)
    (case kC_BadText => k_is)
    (case eC_BadText => k_is)
    (case tC_BadText => k_is)
    (case hC_BadText => k_is)
    (case iC_BadText => k_is)
    (case sC_BadText => first | rfl | k_is)
    (case ki_BadText => k_is)
    (case nw_BadText => k_is)
    (case li_BadText => k_is)
    (case ci_BadText => k_is)
    (case aC_OutOfPlace => k_is)
    (case xL_OutOfPlace => k_is)
    (case sa_OutOfPlace => k_is)
    (case ga_OutOfPlace => k_is)
    (case gg_OutOfPlace => k_is)
    (case nb_OutOfPlace => k_is)
    (case ai_OutOfPlace => k_is)
    (case ti_OutOfPlace => k_is)
    (case kC_OutOfPlace => k_is)
    (case eC_OutOfPlace => k_is)
    (case tC_OutOfPlace => k_is)
    (case hC_OutOfPlace => k_is)
    (case iC_OutOfPlace => k_is)
    (case sC_OutOfPlace => first | rfl | k_is)
    (case ki_OutOfPlace => k_is)
    (case li_OutOfPlace => k_is)
    (case ci_OutOfPlace => k_is)
    (case aC_TooGreat => k_is)
    (case xL_TooGreat => k_is)
    (case sa_TooGreat => k_is)
    (case ga_TooGreat => k_is)
    (case gg_TooGreat => k_is)
    (case nb_TooGreat => k_is)
    (case ai_TooGreat => k_is)
    (case ti_TooGreat => k_is)
    (case kC_TooGreat => k_is)
    (case eC_TooGreat => k_is)
    (case tC_TooGreat => k_is)
    (case hC_TooGreat => k_is)
    (case iC_TooGreat => k_is)
    (case sC_TooGreat => first | rfl | k_is)
    (case ki_TooGreat => k_is)
    (case li_TooGreat => k_is)
    (case ci_TooGreat => k_is)
    (case aC_Nothing => k_is)
    (case xL_Nothing => k_is)
    (case sa_Nothing => k_is)
    (case ga_Nothing => k_is)
    (case gg_Nothing => k_is)
    (case nb_Nothing => k_is)
    (case ai_Nothing => k_is)
    (case ti_Nothing => k_is)
    (case kC_Nothing => k_is)
    (case eC_Nothing => k_is)
    (case tC_Nothing => k_is)
    (case hC_Nothing => k_is)
    (case iC_Nothing => k_is)
    (case sC_Nothing => first | rfl | k_is)
    (case ki_Nothing => k_is)
    (case li_Nothing => k_is)
    (case ci_Nothing => k_is)
    (case cl_BadLoops => first | rfl | k_is)
    (case mo_BadLoops => first | rfl | k_is)
    (case sy_BadLoops_BadLengths => k_is)
    (case sy_BadLoops_BadPedal => k_is)
    (case sy_BadLoops_BadRow => k_is)
    (case sy_BadLoops_BadPaper => k_is)
    (case sy_BadLoops_BadText => k_is)
    (case sy_BadLoops_OutOfPlace => k_is)
    (case sy_BadLoops_TooGreat => k_is)
    (case sy_BadLoops_Nothing => k_is)
    (case cl_BadLengths => first | rfl | k_is)
    (case mo_BadLengths => first | rfl | k_is)
    (case sy_BadLengths_BadLoops => k_is)
    (case sy_BadLengths_BadPedal => k_is)
    (case sy_BadLengths_BadRow => k_is)
    (case sy_BadLengths_BadPaper => k_is)
    (case sy_BadLengths_BadText => k_is)
    (case sy_BadLengths_OutOfPlace => k_is)
    (case sy_BadLengths_TooGreat => k_is)
    (case sy_BadLengths_Nothing => k_is)
    (case cl_BadPedal => first | rfl | k_is)
    (case mo_BadPedal => first | rfl | k_is)
    (case sy_BadPedal_BadLoops => k_is)
    (case sy_BadPedal_BadLengths => k_is)
    (case sy_BadPedal_BadRow => k_is)
    (case sy_BadPedal_BadPaper => k_is)
    (case sy_BadPedal_BadText => k_is)
    (case sy_BadPedal_OutOfPlace => k_is)
    (case sy_BadPedal_TooGreat => k_is)
    (case sy_BadPedal_Nothing => k_is)
    (case cl_BadRow => first | rfl | k_is)
    (case mo_BadRow => first | rfl | k_is)
    (case sy_BadRow_BadLoops => k_is)
    (case sy_BadRow_BadLengths => k_is)
    (case sy_BadRow_BadPedal => k_is)
    (case sy_BadRow_BadPaper => k_is)
    (case sy_BadRow_BadText => k_is)
    (case sy_BadRow_OutOfPlace => k_is)
    (case sy_BadRow_TooGreat => k_is)
    (case sy_BadRow_Nothing => k_is)
    (case cl_BadPaper => first | rfl | k_is)
    (case mo_BadPaper => first | rfl | k_is)
    (case sy_BadPaper_BadLoops => k_is)
    (case sy_BadPaper_BadLengths => k_is)
    (case sy_BadPaper_BadPedal => k_is)
    (case sy_BadPaper_BadRow => k_is)
    (case sy_BadPaper_BadText => k_is)
    (case sy_BadPaper_OutOfPlace => k_is)
    (case sy_BadPaper_TooGreat => k_is)
    (case sy_BadPaper_Nothing => k_is)
    (case cl_BadText => first | rfl | k_is)
    (case mo_BadText => first | rfl | k_is)
    (case sy_BadText_BadLoops => k_is)
    (case sy_BadText_BadLengths => k_is)
    (case sy_BadText_BadPedal => k_is)
    (case sy_BadText_BadRow => k_is)
    (case sy_BadText_BadPaper => k_is)
    (case sy_BadText_OutOfPlace => k_is)
    (case sy_BadText_TooGreat => k_is)
    (case sy_BadText_Nothing => k_is)
    (case cl_OutOfPlace => first | rfl | k_is)
    (case mo_OutOfPlace => first | rfl | k_is)
    (case sy_OutOfPlace_BadLoops => k_is)
    (case sy_OutOfPlace_BadLengths => k_is)
    (case sy_OutOfPlace_BadPedal => k_is)
    (case sy_OutOfPlace_BadRow => k_is)
    (case sy_OutOfPlace_BadPaper => k_is)
    (case sy_OutOfPlace_BadText => k_is)
    (case sy_OutOfPlace_TooGreat => k_is)
    (case sy_OutOfPlace_Nothing => k_is)
    (case cl_TooGreat => first | rfl | k_is)
    (case mo_TooGreat => first | rfl | k_is)
    (case sy_TooGreat_BadLoops => k_is)
    (case sy_TooGreat_BadLengths => k_is)
    (case sy_TooGreat_BadPedal => k_is)
    (case sy_TooGreat_BadRow => k_is)
    (case sy_TooGreat_BadPaper => k_is)
    (case sy_TooGreat_BadText => k_is)
    (case sy_TooGreat_OutOfPlace => k_is)
    (case sy_TooGreat_Nothing => k_is)
    (case cl_Nothing => first | rfl | k_is)
    (case mo_Nothing => first | rfl | k_is)
    (case sy_Nothing_BadLoops => k_is)
    (case sy_Nothing_BadLengths => k_is)
    (case sy_Nothing_BadPedal => k_is)
    (case sy_Nothing_BadRow => k_is)
    (case sy_Nothing_BadPaper => k_is)
    (case sy_Nothing_BadText => k_is)
    (case sy_Nothing_OutOfPlace => k_is)
    (case sy_Nothing_TooGreat => k_is)
    (case z_ValueError => k_is)
    (case v_ValueError => k_is)
    (case z_OverflowError => k_is)
    (case v_OverflowError => k_is)
    (case z_LookupError => k_is)
    (case v_LookupError => k_is)
    (case z_list => k_is)
    (case z_int => k_is)
    (case z_len => k_is)
    (case z_isinstance => k_is)
    (case z_KeyError => k_is)
    (case z_IndexError => k_is)
    (case z_enumerate => k_is)
    (case z_repr => k_is)
    (case z_range => k_is)
    (case z_min => k_is)

