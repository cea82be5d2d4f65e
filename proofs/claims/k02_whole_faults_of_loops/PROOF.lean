import PyProof.Rows.All
import Wide.All
import OpenK.AllK
import Wide.FinOn
import HandS.ForMost
import HandS.Walk
import HandS.WideBits
import HandS.IsInst
import HandS.RaiseMore
import KE.GoesEnum
import HandS.TupAny
import HandS.Evl
import HandS.TupMul
import HandS.ExcInit
import HandS.ExcField
import HandS.ExcOwn
import HandS.TryOnly
import HandS.ForExc
import PySem.Challenge.RW_pedalrounds_k02_whole_faults_of_loops
set_option Elab.async false
set_option linter.all false
set_option maxRecDepth 100000
set_option maxHeartbeats 4000000
/-! Rules of my own for the laws of Pedalrounds: repr of data, enumerate of a tuple, great powers. -/
namespace PySem
section
open PySem.Spec PyProof.Rows Builtin
/-- enumerate(t), t a tuple: the two new cells -/
abbrev myIt (t : Addr) : Obj := { cls := .type "tuple_iterator", data := .fields #[.ref t, .int 0 0] }
abbrev myEn (i : Addr) : Obj := { cls := .type "enumerate", data := .fields #[.none, .bool false, .ref i, rawInt 0, .none, .none] }
theorem my_enum_meets (t : Addr) (items : Array Value) :
    Meets (Builtin.«enumerate.__new__» ⟨[.type "enumerate", .ref t], []⟩)
      (fun _ R s => s.heap.IsTuple t items ∧ R (.ok (.ret (.ref (s.heap.push (myIt t)).objs.size))) { s with heap := (s.heap.push (myIt t)).push (myEn s.heap.objs.size) }) :=
  .of_wp fun prog w A R s hh => by
    obtain ⟨hp, g, dd, tk, os⟩ := s
    obtain ⟨hT, hR⟩ := hh
    have hsub := sub_enumerate
    have go : ∀ {A' : Around} {E Q : Value → Shared → Prop},
        Q (.ref hp.objs.size) ⟨hp.push (myIt t), g, dd, tk, os⟩ → wpAny (model prog w) A' (pyIter (.ref t)) Q E ⟨hp, g, dd, tk, os⟩ :=
      fun q => (begins_tuple t items).iter prog w _ _ ⟨hp, g, dd, tk, os⟩ _ hT q
    wp_walk using go
    refine wpAny_stack_any fun st => wpAny_pure ?_
    split
    · rename_i cc _ _ _ _ _
      cases (cc == Value.type "enumerate") <;> (wp_walk using go; exact ⟨_, rfl, hR⟩)
    · wp_walk using go
      exact ⟨_, rfl, hR⟩
variable {prog : Program} {w : World} {A : Around} {E : Value → Shared → Prop} {s : Shared}
theorem my_call_enum {t : Addr} {items : Array Value} {Q : Value → Shared → Prop} (hT : s.heap.IsTuple t items)
    (k : ∀ h', IsEnum h' (s.heap.objs.size + 1) s.heap.objs.size 0 .none → h'.IsTupleIter s.heap.objs.size t 0 →
      (∀ b o, s.heap.get? b = some o → h'.get? b = some o) → Q (.ref (s.heap.objs.size + 1)) { s with heap := h' }) :
    wpAny (model prog w) A (call (.type "enumerate") [.ref t]) Q E s := by
  refine callType_new F.called_enumerate (by decide) (F.typeCall_enumerate_1 _) (F.newCall_enumerate_1 _)
    (fun obj => F.args_object_init_2 obj _) F.entry_enumerate_new (my_enum_meets t items) ⟨hT, ?_⟩
  have hz : (s.heap.push (myIt t)).objs.size = s.heap.objs.size + 1 := Heap.size_push ..
  show _ ∧ _
  rw [hz]
  have he : IsEnum ((s.heap.push (myIt t)).push (myEn s.heap.objs.size)) (s.heap.objs.size + 1) s.heap.objs.size 0 .none := by
    have q := Heap.get?_push_size (s.heap.push (myIt t)) (o := myEn s.heap.objs.size) rfl
    rw [hz] at q
    exact q
  have hi : ((s.heap.push (myIt t)).push (myEn s.heap.objs.size)).IsTupleIter s.heap.objs.size t 0 := by
    refine ⟨myIt t, ?_, rfl, rfl⟩
    exact Heap.get?_push_of_some _ (Heap.get?_push_size _ rfl)
  refine ⟨⟨_, he, rfl⟩, k _ he hi ?_⟩
  intro b o x
  exact Heap.get?_push_of_some _ (Heap.get?_push_of_some _ x)
end
end PySem
namespace L2
open PySem PySem.Spec PyProof.Rows
/-! ### repr of data -/
theorem my_repr {X : Cx} (hu : X.A.units + 64 < cLine) (hg : X.A.guards = some []) :
    CallR X (.builtin "repr") (fun xs H Q => ∃ x d, xs = [x] ∧ Dp X.K H x d ∧ (isDisplay d = true ∧ d.showable = true ∧ d.hasDict = false ∧ d.depth ≤ 8 ∧ d.shown.length ≤ sizeLine) ∧ Q (.str d.shown) H) := by
  intro pins s σ H xs us Q I r h
  obtain ⟨x, d, rfl, hd, ⟨h1, h2, h3, h4, h5⟩, q⟩ := h
  obtain ⟨u, rfl, ru⟩ := vals1 r
  obtain ⟨as, rd⟩ := Dp.reads I d x u hd ru
  obtain ⟨a, rfl⟩ := isRef_of_reads rd h1
  refine repr_of_reads' rd h2 (PyData.noDict_hsm h3) hg (by omega) (fun _ _ e => e) (fun h' v tk hk => ?_) h5
  exact ⟨.str _, H, I.kept hk, ⟨_, rfl⟩, q⟩
/-! ### great powers -/
def CPowX (i j : Int) : Prop := 0 ≤ j ∧ (Builtin.Int.intBits i : Int) * j ≤ 2 ^ 27
theorem op_powX {X : Cx} : OpR X (binaryOp .Pow) (rI CPowX fun i j => .int (i ^ j.toNat)) :=
  opI fun _ _ _ _ _ _ _ hc q => pow_int hc.1 hc.2 q
/-! ### the built-in names -/
theorem bt_range : bootBuiltins "range" = some (.type "range") := by decide +kernel
theorem bt_int : bootBuiltins "int" = some (.type "int") := by decide +kernel
theorem bt_list : bootBuiltins "list" = some (.type "list") := by decide +kernel
theorem bt_tuple : bootBuiltins "tuple" = some (.type "tuple") := by decide +kernel
theorem bt_bool : bootBuiltins "bool" = some (.type "bool") := by decide +kernel
theorem bt_enumerate : bootBuiltins "enumerate" = some (.type "enumerate") := by decide +kernel
theorem bt_zip : bootBuiltins "zip" = some (.type "zip") := by decide +kernel
theorem bt_str : bootBuiltins "str" = some (.type "str") := by decide +kernel
theorem bt_dict : bootBuiltins "dict" = some (.type "dict") := by decide +kernel
theorem bt_set : bootBuiltins "set" = some (.type "set") := by decide +kernel
theorem bt_len : bootBuiltins "len" = some (.builtin "len") := by decide +kernel
theorem bt_min : bootBuiltins "min" = some (.builtin "min") := by decide +kernel
theorem bt_max : bootBuiltins "max" = some (.builtin "max") := by decide +kernel
theorem bt_repr : bootBuiltins "repr" = some (.builtin "repr") := by decide +kernel
theorem bt_sum : bootBuiltins "sum" = some (.builtin "sum") := by decide +kernel
theorem bt_isinstance : bootBuiltins "isinstance" = some (.builtin "isinstance") := by decide +kernel
theorem bt_any : bootBuiltins "any" = some (.builtin "any") := by decide +kernel
theorem bt_all : bootBuiltins "all" = some (.builtin "all") := by decide +kernel
theorem bt_sorted : bootBuiltins "sorted" = some (.builtin "sorted") := by decide +kernel
theorem bt_abs : bootBuiltins "abs" = some (.builtin "abs") := by decide +kernel
end L2

namespace L2
open PySem PySem.Spec PyProof.Rows
/-! ### enumerate of a tuple, walked -/
def ItE (K : PySem.W.Frag) (a : Addr) : It where
  go := fun i H => ∃ (xs : List V) (x : V), SqT K H a xs ∧ xs[i]? = some x
  yld := fun i H v H' => ∃ T x, v = .ref T ∧ H T = none ∧ H' = upd H T (.tup [.int (i : Nat), x]) ∧
    ∀ xs, SqT K H a xs → xs[i]? = some x
  stop := fun i H => ∃ xs : List V, SqT K H a xs ∧ xs.length = i
def tnE (a e it : Addr) (i : Nat) (h : Heap) : Prop :=
  (∃ old, IsEnum h e it ((i : Nat) : Int) old) ∧ h.IsTupleIter it a i ∧ e ≠ it ∧ a ≠ it ∧ a ≠ e
theorem turn_enumT {P : Program} {w : World} {K : PySem.W.Frag} {elts : List Expr} {kk : Nat} {tpos : Pos} (a e it : Addr) :
    Turn P w K (.Tuple elts kk tpos) (ItE K a) [e, it] e (tnE a e it) where
  mem := by simp
  obj := fun i h st b hb => by
    obtain ⟨⟨old, he⟩, ⟨o, ho, _, hd⟩, _⟩ := st
    rcases (by simpa using hb : b = e ∨ b = it) with z | z <;> subst z
    · exact ⟨_, he, fun v q => nomatch q⟩
    · refine ⟨o, ho, fun v q => ?_⟩
      rw [hd] at q
      cases q
  keep := fun i h h' st k => by
    obtain ⟨⟨old, he⟩, hi, r⟩ := st
    exact ⟨⟨old, k e (by simp) _ he⟩, hi.at (fun o q => k it (by simp) o q), r⟩
  item := by
    intro X hP hw hK hc i pins s σ H E I hf st hg
    subst hP hw hK
    obtain ⟨⟨old, he⟩, hit, hne, hai, hae⟩ := st
    obtain ⟨xs, x, hq, hx⟩ := hg
    obtain ⟨its, rv, p, hz⟩ := I.tuple hq
    obtain ⟨u, hu, ru⟩ := rv.get hx
    have hTu : s.heap.IsTuple a its.toArray := p
    have hel : e < s.heap.objs.size := Heap.lt_size he
    have hil : it < s.heap.objs.size := by
      obtain ⟨_, q, _⟩ := hit
      exact Heap.lt_size q
    have hlt : i < its.toArray.size := by
      have := (List.getElem?_eq_some_iff.mp hu).1
      simpa using this
    have D := Draws.tuple (prog := X.prog) (w := X.w) (A := X.A.in1) (I.ok.hd hc) it a hai its.toArray
    refine wpAny_pyNext_enum_itemD D he ⟨hit, hTu⟩ hlt hne (by simp; exact ⟨hne, Ne.symm hae⟩) fun y h' tk hy ho st' hT hsz hk => ?_
    have ey : y = u := by
      have q : its.toArray[i]? = some u := by simpa using hu
      exact Option.some.inj (hy.symm.trans q)
    subst ey
    refine ⟨_, rfl, wpAny_letOwnedTupleGo_enum (s := { s with heap := h', toks := tk + 1 }) ho fun g he' sb => ?_⟩
    have hT2 : g.get? s.heap.objs.size = some { cls := .type "tuple", data := .seq #[.int i tk, y] } :=
      (sb.2 _ (Nat.ne_of_gt hel)).trans hT
    have new : ObjOk X.prog X.w (upd H s.heap.objs.size (.tup [.int (i : Nat), x])) g s.heap.objs.size (.tup [.int (i : Nat), x]) :=
      ⟨by show 2 ≤ sizeLine; decide, [.int i tk, y], .cons ⟨_, rfl⟩ (.cons ru .nil), ⟨_, hT2, rfl, _, rfl⟩⟩
    have kk : ∀ b ob, b ∉ [e, it] → s.heap.get? b = some ob → g.get? b = some ob := fun b ob hb q => by
      have b1 : b ≠ e := fun z => hb (by simp [z])
      have b2 : b ≠ it := fun z => hb (by simp [z])
      exact (sb.2 b b1).trans (hk b ob b1 b2 q)
    have I1 := I.turnedNew (t' := tk + 1) kk hf (Nat.le_refl _) new
    refine ⟨.ref s.heap.objs.size, _, I1, rfl, ⟨_, x, rfl, I.hok.fresh (Nat.le_refl _), rfl, fun ys hy => ?_⟩, ?_, fun b hb => ?_⟩
    · rw [I.tuple_inj hy hq]
      exact hx
    · refine ⟨⟨y, ?_⟩, st'.1.at (fun o q => (sb.2 it (Ne.symm hne)).trans q), hne, hai, hae⟩
      have e1 : ((i + 1 : Nat) : Int) = (i : Int) + 1 := by omega
      rw [e1]
      exact he'
    · have hb' : b < s.heap.objs.size := by
        rcases (by simpa using hb : b = e ∨ b = it) with z | z <;> (rw [z]; assumption)
      rw [upd_ne (Nat.ne_of_lt hb')]
      exact (hf b hb).1
  done := by
    intro X hP hw hK hc i pins s σ H E I hf st hg
    subst hP hw hK
    obtain ⟨⟨old, he⟩, hit, hne, hai, hae⟩ := st
    obtain ⟨xs, hq, hx⟩ := hg
    obtain ⟨its, rv, p, hz⟩ := I.tuple hq
    obtain ⟨f0, f1, f2, f3, f4, f5⟩ := hf it (by simp)
    have hTu : s.heap.IsTuple a its.toArray := p
    have hn : i = its.toArray.size := by
      have hl := rv.length
      simp
      omega
    have D := Draws.tuple (prog := X.prog) (w := X.w) (A := X.A.in1) (I.ok.hd hc) it a hai its.toArray
    refine wpAny_pyNext_enum_endD D he ⟨hn ▸ hit, hTu⟩ fun h' eb => ?_
    exact ⟨rfl, I.turned (t' := s.toks) (fun b o hb q => eb b o hb q) f0 f1 f3 f4 f5⟩
  self := fun A i s Q E st h => by
    obtain ⟨⟨old, he⟩, _⟩ := st
    exact wpAny_pyIter_enum he h
/-- enumerate(t) is walked -/
def iEnumT (K : PySem.W.Frag) (ta : TA) : TI := fun σ H R => ta σ H fun vs H1 => ∃ a xs, vs = [.ref a] ∧ SqT K H1 a xs ∧ R (ItE K a) H1
theorem pi_enumT {X : Cx} {e : Expr} {ta : TA} {p pos tpos : Pos} {elts : List Expr} {kk : Nat} (hg : Gl X "enumerate")
    (hm : X.mg "enumerate" = none) (ha : PA X [e] ta) (hs : starEach [e] X.env = [(false, eval e X.env)] := by rfl) :
    PI X (.Tuple elts kk tpos) (.Call (.Name "enumerate" p) [e] [] pos) (iEnumT X.K ta) := by
  refine ⟨fun pins s σ H R I h => ?_⟩
  have body : ∀ us s1, AP X pins σ (fun vs H1 => ∃ a xs, vs = [.ref a] ∧ SqT X.K H1 a xs ∧ R (ItE X.K a) H1) us s1 →
      wpAny (model X.prog X.w) X.A (call (.type "enumerate") us) (fun v s2 => wpAny (model X.prog X.w) X.A (pyIter v) (PIE X pins σ (.Tuple elts kk tpos) R) X.xe s2) X.xe s1 := by
    rintro us s1 ⟨vs, H1, I1, r1, a, xs, rfl, hq, q⟩
    obtain ⟨u, rfl, ru⟩ := vals1 r1
    cases ru
    obtain ⟨its, rv, p', hz⟩ := I1.tuple hq
    have hTu : s1.heap.IsTuple a its.toArray := p'
    obtain ⟨oa, hoa, _⟩ := id hTu
    have hal : a < s1.heap.objs.size := Heap.lt_size hoa
    refine my_call_enum hTu fun h' he hit hk => wpAny_pyIter_enum he ?_
    have I2 : Inv X pins σ H1 { s1 with heap := h' } := I1.kept (t' := s1.toks) hk
    refine ⟨s1.heap.objs.size + 1, [s1.heap.objs.size + 1, s1.heap.objs.size], _, _, H1, rfl, I2, turn_enumT a (s1.heap.objs.size + 1) s1.heap.objs.size, ?_, fun b hb => ?_, q⟩
    · exact ⟨⟨.none, he⟩, hit, Nat.succ_ne_self _, Nat.ne_of_lt hal, Nat.ne_of_lt (Nat.lt_succ_of_lt hal)⟩
    · have hle : s1.heap.objs.size ≤ b := by
        rcases (by simpa using hb : b = s1.heap.objs.size + 1 ∨ b = s1.heap.objs.size) with z | z <;> rw [z]
        · exact Nat.le_add_right _ _
        · exact Nat.le_refl _
      exact I1.fpOk hle (I1.hok.fresh hle)
  exact Call_ (ld_blt I hg hm boot_enumerate (PyProof.Rows.callWith_type1 (thn (ha.run pos pins s σ H _ I h) fun us s1 q => body us s1 q) hs rfl))
theorem walk_enumT {K : PySem.W.Frag} {a : Addr} {xs : List V} :
    Walk (ItE K a) xs.length (fun H => SqT K H a xs) (YPair (fun i => some (.int (i : Nat))) (fun i => xs[i]?)) where
  goes := fun i _ hi q => ⟨xs, xs[i], q, by simp [hi]⟩
  stops := fun _ q => ⟨xs, q, rfl⟩
  yields := by
    rintro i H v H' _ q ⟨T, x, h1, h2, h3, h4⟩
    exact ⟨T, .int (i : Nat), x, h1, h2, h3, rfl, h4 xs q⟩
end L2

namespace L2
open PySem PySem.Spec PyProof.Rows
/-! ### data that stand in a heap, and what keeps them -/
/-- tuples stay -/
def TK (K : PySem.W.Frag) (H H' : Hp) : Prop := ∀ a xs, SqT K H a xs → SqT K H' a xs
theorem TK.refl {K : PySem.W.Frag} {H : Hp} : TK K H H := fun _ _ h => h
theorem TK.trans {K : PySem.W.Frag} {H H1 H2 : Hp} (a : TK K H H1) (b : TK K H1 H2) : TK K H H2 := fun c xs h => b c xs (a c xs h)
theorem Same.tk {K : PySem.W.Frag} {H H' : Hp} (e : Same H H') : TK K H H' := fun a xs h => by
  rcases h with (h | ⟨o, h⟩) | h
  · exact .inl (.inl (e _ _ h))
  · exact .inl (.inr ⟨o, e _ _ h⟩)
  · exact .inr h
theorem same_upd {H : Hp} {p : Addr} (h : H p = none) (o : HO) : Same H (upd H p o) := fun b u q => by
  rw [upd_ne (ne_of_none q h)]
  exact q
theorem same_step {H H1 : Hp} {p : Addr} (e : Same H H1) (h : H1 p = none) (o : HO) : Same H (upd H1 p o) := e.trans (same_upd h o)
/-- only tuples, no lists -/
def tupOnly : PyData → Bool
  | .list _ => false
  | .dict _ => false
  | .tuple xs => go xs
  | _ => true
where go : List PyData → Bool
  | [] => true
  | x :: r => tupOnly x && go r
mutual
theorem Dp.keepT {K : PySem.W.Frag} {H H' : Hp} (k : TK K H H') : ∀ (d : PyData) (v : V), tupOnly d = true → Dp K H v d → Dp K H' v d
  | .none, _, _, h => by cases h; exact .non
  | .bool b, _, _, h => by cases h; exact .bl b
  | .int i, _, _, h => by cases h; exact .int i
  | .str x, _, _, h => by cases h; exact .str x
  | .list _, _, t, _ => by cases t
  | .dict _, _, t, _ => by cases t
  | .tuple ds, _, t, h => by
    cases h with
    | tup hs ha => exact .tup (k _ _ hs) (DpAll.keepT k ds _ t ha)
theorem DpAll.keepT {K : PySem.W.Frag} {H H' : Hp} (k : TK K H H') : ∀ (ds : List PyData) (vs : List V), tupOnly.go ds = true → DpAll K H vs ds → DpAll K H' vs ds
  | [], _, _, h => by cases h; exact .nil
  | d :: r, _, t, h => by
    cases h with
    | cons h1 h2 =>
      have t' := Bool.and_eq_true_iff.mp t
      exact .cons (Dp.keepT k d _ t'.1 h1) (DpAll.keepT k r _ t'.2 h2)
end
mutual
theorem Dp.same {K : PySem.W.Frag} {H H' : Hp} (e : Same H H') : ∀ (d : PyData) (v : V), Dp K H v d → Dp K H' v d
  | .none, _, h => by cases h; exact .non
  | .bool b, _, h => by cases h; exact .bl b
  | .int i, _, h => by cases h; exact .int i
  | .str x, _, h => by cases h; exact .str x
  | .dict _, _, h => by cases h
  | .list ds, _, h => by
    cases h with
    | lst hs ha => exact .lst (e.seq hs) (DpAll.same e ds _ ha)
  | .tuple ds, _, h => by
    cases h with
    | tup hs ha => exact .tup (Same.tk e _ _ hs) (DpAll.same e ds _ ha)
theorem DpAll.same {K : PySem.W.Frag} {H H' : Hp} (e : Same H H') : ∀ (ds : List PyData) (vs : List V), DpAll K H vs ds → DpAll K H' vs ds
  | [], _, h => by cases h; exact .nil
  | d :: r, _, h => by
    cases h with
    | cons h1 h2 => exact .cons (Dp.same e d _ h1) (DpAll.same e r _ h2)
end
theorem DpAll.len {K : PySem.W.Frag} {H : Hp} : ∀ {vs : List V} {ds : List PyData}, DpAll K H vs ds → vs.length = ds.length
  | _, _, .nil => rfl
  | _, _, .cons _ h => by simp [DpAll.len h]
theorem DpAll.get {K : PySem.W.Frag} {H : Hp} : ∀ {vs : List V} {ds : List PyData} {i : Nat} {v : V}, DpAll K H vs ds → vs[i]? = some v → ∃ d, ds[i]? = some d ∧ Dp K H v d
  | _, _, _, _, .nil, h => by cases h
  | _, _, 0, _, .cons h1 _, h => by
    cases h
    exact ⟨_, rfl, h1⟩
  | _, _, i + 1, _, .cons _ h2, h => DpAll.get (i := i) h2 h
theorem DpAll.app {K : PySem.W.Frag} {H : Hp} : ∀ {vs us : List V} {ds es : List PyData}, DpAll K H vs ds → DpAll K H us es → DpAll K H (vs ++ us) (ds ++ es)
  | _, _, _, _, .nil, h => h
  | _, _, _, _, .cons h1 h2, h => .cons h1 (DpAll.app h2 h)
theorem DpAll.ints {K : PySem.W.Frag} {H : Hp} : ∀ (ns : List Int), DpAll K H (ns.map V.int) (ns.map PyData.int)
  | [] => .nil
  | n :: r => .cons (.int n) (DpAll.ints r)
theorem DpAll.ints_inv {K : PySem.W.Frag} {H : Hp} : ∀ {ns : List Int} {vs : List V}, DpAll K H vs (ns.map PyData.int) → vs = ns.map V.int
  | [], _, h => by cases h; rfl
  | n :: r, _, h => by
    cases h with
    | cons h1 h2 =>
      cases h1
      rw [DpAll.ints_inv h2]
      rfl
/-- a tuple of ints -/
abbrev dInts (ns : List Int) : PyData := .tuple (ns.map PyData.int)
/-- loops -/
abbrev dLoops (ls : List (List Int)) : PyData := .tuple (ls.map dInts)
theorem Dp.ints {K : PySem.W.Frag} {H : Hp} {v : V} {ns : List Int} (h : Dp K H v (dInts ns)) : ∃ a, v = .ref a ∧ SqT K H a (ns.map V.int) := by
  cases h with
  | tup hs ha =>
    rw [DpAll.ints_inv ha] at hs
    exact ⟨_, rfl, hs⟩
theorem Dp.ofInts {K : PySem.W.Frag} {H : Hp} {a : Addr} {ns : List Int} (h : SqT K H a (ns.map V.int)) : Dp K H (.ref a) (dInts ns) := .tup h (DpAll.ints ns)
theorem Dp.tuple {K : PySem.W.Frag} {H : Hp} {v : V} {ds : List PyData} (h : Dp K H v (.tuple ds)) : ∃ a xs, v = .ref a ∧ SqT K H a xs ∧ DpAll K H xs ds := by
  cases h with
  | tup hs ha => exact ⟨_, _, rfl, hs, ha⟩
theorem to_ints : ∀ ns : List Int, tupOnly.go (ns.map PyData.int) = true
  | [] => rfl
  | n :: r => by
    show (true && tupOnly.go (r.map PyData.int)) = true
    rw [to_ints r]
    rfl
theorem to_loops : ∀ ls : List (List Int), tupOnly.go (ls.map dInts) = true
  | [] => rfl
  | l :: r => by
    show (tupOnly.go (l.map PyData.int) && tupOnly.go (r.map dInts)) = true
    rw [to_loops r, to_ints l]
    rfl
theorem SqT.ty {K : PySem.W.Frag} {H : Hp} {a : Addr} {xs : List V} (h : SqT K H a xs) : TyX K H (.ref a) (.type "tuple") := by
  rcases h with (h | ⟨o, h⟩) | ⟨o, its, n, h1, h2, _⟩
  · exact .base (.tup h)
  · exact .fTuple h
  · exact .kTuple h1 h2
/-! ### the rules with the written part named -/
section
variable {X : Cx} {K : PySem.W.Frag}
theorem k_len (e : X.K = K := by rfl) : CallR X (.builtin "len") (Evl.rLenS K) := by
  subst e
  exact call_len_seq
def rTupS (K : PySem.W.Frag) : List V → Hp → VK → Prop := fun xs H Q => ∃ p ys, xs = [.ref p] ∧ ((SqL K H p ys ∧ ∀ l, H l = none → Q (.ref l) (upd H l (.tup ys))) ∨ (SqT K H p ys ∧ Q (.ref p) H))
theorem k_tuple (e : X.K = K := by rfl) : CallR X (.type "tuple") (rTupS K) := by
  subst e
  exact call_tuple_of
theorem k_list (e : X.K = K := by rfl) : CallR X (.type "list") (Evl.rListS K) := by
  subst e
  exact call_list_of
theorem k_sum (hc : X.calm = true) (e : X.K = K := by rfl) : CallR X (.builtin "sum") (rSum K) := by
  subst e
  exact cr_sum hc
theorem k_isi (e : X.K = K := by rfl) : CallR X (.builtin "isinstance") (rIsi K) := by
  subst e
  exact call_isi
theorem k_slL (e : X.K = K := by rfl) : SlR X (rSlL K) := by
  subst e
  exact sl_list
theorem k_slT (e : X.K = K := by rfl) : SlR X (rSlA K) := by
  subst e
  exact sl_tupA
theorem k_ixL (e : X.K = K := by rfl) : IxR X (rIxL K) := by
  subst e
  exact ix_list
theorem k_ixT (e : X.K = K := by rfl) : IxR X (rIxT K) := by
  subst e
  exact ix_tup
theorem k_eqD (hu : X.A.units + 64 < cLine) (e : X.K = K := by rfl) : OpR X (compareOp .Eq) (rEqD K) := by
  subst e
  exact op_eqD hu
theorem k_neD (hu : X.A.units + 64 < cLine) (e : X.K = K := by rfl) : OpR X (compareOp .NotEq) (rNeD K) := by
  subst e
  exact op_neD hu
theorem k_catT (e : X.K = K := by rfl) : OpR X (binaryOp .Add) (rCatA K) := by
  subst e
  exact op_catA
def rReprD (K : PySem.W.Frag) : List V → Hp → VK → Prop := fun xs H Q => ∃ x d, xs = [x] ∧ Dp K H x d ∧ (isDisplay d = true ∧ d.showable = true ∧ d.hasDict = false ∧ d.depth ≤ 8 ∧ d.shown.length ≤ sizeLine) ∧ Q (.str d.shown) H
theorem k_repr (hu : X.A.units + 64 < cLine) (hg : X.A.guards = some []) (e : X.K = K := by rfl) : CallR X (.builtin "repr") (rReprD K) := by
  subst e
  exact my_repr hu hg
theorem k_piL {tg l : Expr} {tl : TE} (hl : PE X l tl) (e : X.K = K := by rfl) : PI X tg l (iList K tl) := by
  subst e
  exact pi_list hl
theorem k_piT {tg l : Expr} {tl : TE} (hl : PE X l tl) (e : X.K = K := by rfl) : PI X tg l (iTup K tl) := by
  subst e
  exact pi_tup hl
theorem k_piET {e : Expr} {ta : TA} {p pos tpos : Pos} {elts : List Expr} {kk : Nat} (hg : Gl X "enumerate")
    (hm : X.mg "enumerate" = none) (ha : PA X [e] ta) (hs : starEach [e] X.env = [(false, eval e X.env)] := by rfl) (ek : X.K = K := by rfl) :
    PI X (.Tuple elts kk tpos) (.Call (.Name "enumerate" p) [e] [] pos) (iEnumT K ta) := by
  subst ek
  exact pi_enumT hg hm ha hs
theorem k_piEL {e : Expr} {ta : TA} {p pos tpos : Pos} {elts : List Expr} {kk : Nat} (hg : Gl X "enumerate")
    (hm : X.mg "enumerate" = none) (ha : PA X [e] ta) (hs : starEach [e] X.env = [(false, eval e X.env)] := by rfl) (ek : X.K = K := by rfl) :
    PI X (.Tuple elts kk tpos) (.Call (.Name "enumerate" p) [e] [] pos) (iEnum K ta) := by
  subst ek
  exact pi_enum hg hm ha hs
end
end L2
namespace My
open PySem PySem.Spec PyProof.Rows L2
/-! ### the state of the draws -/

abbrev kCells : Key := .inr "cells"
abbrev kLeft : Key := .inr "left"
abbrev kAt : Key := .inr "at"
def mKvs (c l : Addr) (n : Nat) : List (Key × V) := [(kCells, .ref c), (kLeft, .ref l), (kAt, .int (n : Int))]
structure MAt (H : Hp) (m c l : Addr) (n : Nat) : Prop where
  dk : H m = some (.dK (mKvs c l n))
  cs : ∃ cs : List Int, H c = some (.lst (cs.map V.int)) ∧ cs.length ≤ 63
  ls : ∃ ls : List Int, H l = some (.lst (ls.map V.int)) ∧ ls.length ≤ 63 ∧ ∀ z ∈ ls, 0 ≤ z
  cl : c ≠ l
/-- b is a part of the state: the list of the cells, or that of what is left -/
def Lf (H : Hp) (m b : Addr) : Prop := ∃ kvs k, H m = some (.dK kvs) ∧ valV kvs k = some (.ref b)
/-- the state of the draws stands at m, n mixed numbers drawn -/
def MS (H : Hp) (m : Addr) (n : Nat) : Prop := ∃ c l, MAt H m c l n
theorem e12 : ¬ (Str.ofString "cells" = Str.ofString "left") := by decide +kernel
theorem e13 : ¬ (Str.ofString "cells" = Str.ofString "at") := by decide +kernel
theorem e23 : ¬ (Str.ofString "left" = Str.ofString "at") := by decide +kernel
theorem e21 : ¬ (Str.ofString "left" = Str.ofString "cells") := by decide +kernel
theorem e31 : ¬ (Str.ofString "at" = Str.ofString "cells") := by decide +kernel
theorem e32 : ¬ (Str.ofString "at" = Str.ofString "left") := by decide +kernel
theorem k12 : ¬ kCells = kLeft := by decide +kernel
theorem k13 : ¬ kCells = kAt := by decide +kernel
theorem k23 : ¬ kLeft = kAt := by decide +kernel
theorem k21 : ¬ kLeft = kCells := by decide +kernel
theorem k31 : ¬ kAt = kCells := by decide +kernel
theorem k32 : ¬ kAt = kLeft := by decide +kernel
theorem mKvs_cells (c l : Addr) (n : Nat) : valV (mKvs c l n) kCells = some (.ref c) := by
  unfold mKvs
  rw [valV_pos rfl]
theorem mKvs_left (c l : Addr) (n : Nat) : valV (mKvs c l n) kLeft = some (.ref l) := by
  unfold mKvs
  rw [valV_neg k12, valV_pos rfl]
theorem mKvs_at (c l : Addr) (n : Nat) : valV (mKvs c l n) kAt = some (.int (n : Int)) := by
  unfold mKvs
  rw [valV_neg k13, valV_neg k23, valV_pos rfl]
theorem put3_2 {x y z w : V} : putK [(kCells, x), (kLeft, y), (kAt, z)] kLeft w = [(kCells, x), (kLeft, w), (kAt, z)] := by
  simp [putK, e12, e21, e23, e32]
theorem put3_3 {x y z w : V} : putK [(kCells, x), (kLeft, y), (kAt, z)] kAt w = [(kCells, x), (kLeft, y), (kAt, w)] := by
  simp [putK, e13, e31, e23, e32]
theorem merge3 {x y z : V} : mergeK [] [(kCells, x), (kLeft, y), (kAt, z)] = [(kCells, x), (kLeft, y), (kAt, z)] := by
  simp [mergeK, putK, e12, e21, e13, e31, e23, e32]
theorem mKvs_ref {c l b : Addr} {n : Nat} {k : Key} (h : valV (mKvs c l n) k = some (.ref b)) : b = c ∨ b = l := by
  unfold mKvs at h
  by_cases h1 : kCells = k
  · rw [valV_pos h1] at h
    cases h
    exact .inl rfl
  · rw [valV_neg h1] at h
    by_cases h2 : kLeft = k
    · rw [valV_pos h2] at h
      cases h
      exact .inr rfl
    · rw [valV_neg h2] at h
      by_cases h3 : kAt = k
      · rw [valV_pos h3] at h
        cases h
      · rw [valV_neg h3] at h
        cases h
theorem MAt.lf {H : Hp} {m c l : Addr} {n : Nat} (M : MAt H m c l n) {b : Addr} (h : Lf H m b) : b = c ∨ b = l := by
  obtain ⟨kvs, k, h1, h2⟩ := h
  rw [M.dk] at h1
  cases h1
  exact mKvs_ref h2
theorem MAt.ownC {H : Hp} {m c l : Addr} {n : Nat} (M : MAt H m c l n) : Lf H m c := ⟨_, kCells, M.dk, mKvs_cells c l n⟩
theorem MAt.ownL {H : Hp} {m c l : Addr} {n : Nat} (M : MAt H m c l n) : Lf H m l := ⟨_, kLeft, M.dk, mKvs_left c l n⟩
/-- what a draw may change: the state itself and what is left -/
structure Ef (m : Addr) (H H' : Hp) : Prop where
  keep : ∀ b o, H b = some o → b ≠ m → ¬ Lf H m b → H' b = some o
  new : ∀ b, Lf H' m b → Lf H m b ∨ H b = none
  st : ∀ o, H m = some o → ∃ o', H' m = some o'
theorem Ef.trans {m : Addr} {H H1 H2 : Hp} (a : Ef m H H1) (b : Ef m H1 H2) : Ef m H H2 where
  keep := fun c o h h1 h2 => b.keep c o (a.keep c o h h1 h2) h1 fun z => by
    rcases a.new c z with q | q
    · exact h2 q
    · rw [h] at q
      cases q
  new := fun c z => by
    rcases b.new c z with q | q
    · exact a.new c q
    · cases e : H c with
      | none => exact .inr rfl
      | some o =>
        refine .inl (Classical.byContradiction fun w => ?_)
        by_cases cm : c = m
        · subst cm
          obtain ⟨o', e'⟩ := a.st o e
          rw [q] at e'
          cases e'
        · rw [a.keep c o e cm w] at q
          cases q
  st := fun o h => by
    obtain ⟨o1, h1⟩ := a.st o h
    exact b.st o1 h1
theorem Ef.refl {m : Addr} {H : Hp} : Ef m H H := ⟨fun _ _ h _ _ => h, fun _ h => .inl h, fun o h => ⟨o, h⟩⟩
theorem Ef.ofSame {m : Addr} {H H' : Hp} {n : Nat} (M : MS H m n) (e : Same H H') : Ef m H H' where
  keep := fun b o h _ _ => e b o h
  new := fun b z => by
    obtain ⟨c, l, M⟩ := M
    obtain ⟨kvs, k, h1, h2⟩ := z
    rw [e _ _ M.dk] at h1
    cases h1
    exact .inl ⟨_, k, M.dk, h2⟩
  st := fun o h => ⟨o, e _ _ h⟩
theorem MS.same {m : Addr} {H H' : Hp} {n : Nat} (M : MS H m n) (e : Same H H') : MS H' m n := by
  obtain ⟨c, l, dk, ⟨cs, h1, h2⟩, ⟨ls, h3, h4, h5⟩, cl⟩ := M
  exact ⟨c, l, e _ _ dk, ⟨cs, e _ _ h1, h2⟩, ⟨ls, e _ _ h3, h4, h5⟩, cl⟩
theorem Ef.tk {K : PySem.W.Frag} {m : Addr} {H H' : Hp} {n : Nat} (e : Ef m H H') (M : MS H m n) : TK K H H' := fun a xs h => by
  obtain ⟨c, l, M⟩ := M
  obtain ⟨ls, hl, _⟩ := M.ls
  obtain ⟨cs, hc, _⟩ := M.cs
  have go : ∀ u : HO, H a = some u → (∀ kvs, u ≠ .dK kvs) → (∀ ys, u ≠ .lst ys) → H' a = some u := fun u hu h1 h2 => by
    refine e.keep a u hu (fun z => ?_) (fun z => ?_)
    · subst z
      rw [M.dk] at hu
      exact h1 _ (Option.some.inj hu).symm
    · rcases M.lf z with q | q
      · rw [q, hc] at hu
        exact h2 _ (Option.some.inj hu).symm
      · rw [q, hl] at hu
        exact h2 _ (Option.some.inj hu).symm
  rcases h with (h | ⟨o, h⟩) | h
  · exact .inl (.inl (go _ h (by intro _ z; cases z) (by intro _ z; cases z)))
  · exact .inl (.inr ⟨o, go _ h (by intro _ z; cases z) (by intro _ z; cases z)⟩)
  · exact .inr h
theorem Ef.lst {m : Addr} {H H' : Hp} {p : Addr} {xs : List V} {n : Nat} (e : Ef m H H') (M : MS H m n) (h : H p = some (.lst xs)) (nl : ¬ Lf H m p) : H' p = some (.lst xs) ∧ ¬ Lf H' m p := by
  have pm : p ≠ m := fun z => by
    obtain ⟨c, l, M⟩ := M
    rw [z, M.dk] at h
    cases h
  refine ⟨e.keep _ _ h pm nl, fun z => ?_⟩
  rcases e.new _ z with q | q
  · exact nl q
  · rw [h] at q
    cases q
theorem MS.notLf {m : Addr} {H : Hp} {n : Nat} (M : MS H m n) {p : Addr} (h : H p = none) : ¬ Lf H m p := fun z => by
  obtain ⟨c, l, M⟩ := M
  obtain ⟨ls, hl, _⟩ := M.ls
  obtain ⟨cs, hc, _⟩ := M.cs
  rcases M.lf z with q | q
  · rw [q, hc] at h
    cases h
  · rw [q, hl] at h
    cases h
theorem map_int_get {ns : List Int} {i : Nat} {x : V} (h : (ns.map V.int)[i]? = some x) : ∃ z, ns[i]? = some z ∧ x = V.int z := by
  rw [List.getElem?_map] at h
  cases e : ns[i]? with
  | none =>
    rw [e] at h
    cases h
  | some z =>
    rw [e] at h
    exact ⟨z, rfl, (Option.some.inj h).symm⟩
theorem MAt.left {H : Hp} {m c l : Addr} {n : Nat} (M : MAt H m c l n) : DGet H m (.str "left") (some (.ref l)) := by
  have h := DGet.k (k := kLeft) M.dk
  rw [mKvs_left] at h
  exact h
theorem MAt.cells {H : Hp} {m c l : Addr} {n : Nat} (M : MAt H m c l n) : DGet H m (.str "cells") (some (.ref c)) := by
  have h := DGet.k (k := kCells) M.dk
  rw [mKvs_cells] at h
  exact h
theorem MAt.at {H : Hp} {m c l : Addr} {n : Nat} (M : MAt H m c l n) : DGet H m (.str "at") (some (.int (n : Int))) := by
  have h := DGet.k (k := kAt) M.dk
  rw [mKvs_at] at h
  exact h
theorem eqv_nil : ∀ ls : List Int, PyData.eqv (.list (ls.map PyData.int)) (.list []) = ls.isEmpty
  | [] => rfl
  | _ :: _ => rfl
/-- xs != [] -/
theorem rd_ne_nil {K : PySem.W.Frag} {H : Hp} {l : Addr} {ls : List Int} {σ : L2.St} {Q : VK} (hl : H l = some (.lst (ls.map V.int)))
    (k : ∀ p, H p = none → Q (.bl (!ls.isEmpty)) (upd H p (.lst []))) : tLst tNil σ H fun y H2 => rNeD K (.ref l) y H2 Q := by
  refine ⟨(by show 0 ≤ sizeLine; decide), fun p hp => ?_⟩
  have lp : l ≠ p := ne_of_none hl hp
  refine ⟨.list (ls.map PyData.int), .list [], .lst (SqL.of (by rw [upd_ne lp]; exact hl)) (DpAll.ints ls), .lst (SqL.of upd_same) .nil, PySem.W.shaped_ints ls, by decide +kernel, ?_⟩
  rw [eqv_nil]
  exact k p hp
theorem cut_tail (z : Int) (r : List Int) : cutV ((z :: r).map V.int) (some 1) none = r.map V.int := by
  simp only [cutV, HT.sIx, List.map_cons, List.length_cons, List.length_map]
  rw [if_neg (by omega)]
  have e : min (1 : Int).toNat (r.length + 1) = 1 := by
    show min 1 (r.length + 1) = 1
    omega
  rw [e]
  show ((r.map V.int).take (r.length + 1 - 1)) = _
  rw [List.take_of_length_le (by rw [List.length_map]; omega)]
theorem map_int_inj : ∀ {xs ys : List Int}, xs.map V.int = ys.map V.int → xs = ys
  | [], [], _ => rfl
  | [], _ :: _, h => by simp at h
  | _ :: _, [], h => by simp at h
  | x :: xs, y :: ys, h => by
    simp only [List.map_cons, List.cons.injEq, V.int.injEq] at h
    rw [h.1, map_int_inj h.2]
theorem at_zero {x : V} {r : List V} : atI (x :: r) 0 = some x := at_of (j := 0) rfl rfl
/-- what is known of a value and its heap, for all that follows -/
theorem te_cut {te : TE} {σ : L2.St} {H : Hp} {Q : VK} (R : V → Hp → Prop) (h : ∀ Q', (∀ v H', R v H' → Q' v H') → te σ H Q') (k : ∀ v H', R v H' → Q v H') : te σ H Q := h Q k
theorem tt_cut {tt : TT} {σ : L2.St} {H : Hp} {Q : Bool → Hp → Prop} (R : Bool → Hp → Prop) (h : ∀ Q', (∀ b H', R b H' → Q' b H') → tt σ H Q') (k : ∀ b H', R b H' → Q b H') : tt σ H Q := h Q k
theorem MAt.same {m c l : Addr} {H H' : Hp} {n : Nat} (M : MAt H m c l n) (e : Same H H') : MAt H' m c l n := by
  obtain ⟨dk, ⟨cs, h1, h2⟩, ⟨ls, h3, h4, h5⟩, cl⟩ := M
  exact ⟨e _ _ dk, ⟨cs, e _ _ h1, h2⟩, ⟨ls, e _ _ h3, h4, h5⟩, cl⟩
theorem at_mod (k : Int) {xs : List Int} (h : (0 : Int) < ((xs.map V.int).length : Int)) : ∃ v : Int, atI (xs.map V.int) (k.fmod ((xs.map V.int).length : Int)) = some (.int v) := by
  have h1 := Int.fmod_nonneg_of_pos k h
  have h2 := Int.fmod_lt_of_pos k h
  rw [List.length_map] at h h1 h2 ⊢
  have hk : (k.fmod (xs.length : Int)).toNat < xs.length := by omega
  refine ⟨xs[(k.fmod (xs.length : Int)).toNat], at_of (j := (k.fmod (xs.length : Int)).toNat) (by omega) ?_⟩
  rw [List.getElem?_map, List.getElem?_eq_getElem hk]
  all_goals rfl
theorem seq_asg {te : TE} {g : TG} {u : TS} {D : Ends} {σ : L2.St} {H : Hp} (h : te σ H fun x H1 => g x σ H1 (u D)) : tSeq (tAsg te g) u D σ H := h
/-- name = e, what is known of the value told once -/
theorem seq_cut {te : TE} {g : TG} {u : TS} {D : Ends} {σ : L2.St} {H : Hp} (R : V → Hp → Prop) (h : ∀ Q', (∀ v H', R v H' → Q' v H') → te σ H Q')
    (k : ∀ v H', R v H' → g v σ H' (u D)) : tSeq (tAsg te g) u D σ H := h _ k
theorem ret_cut {te : TE} {D : Ends} {σ : L2.St} {H : Hp} (R : V → Hp → Prop) (h : ∀ Q', (∀ v H', R v H' → Q' v H') → te σ H Q') (k : ∀ v H', R v H' → D.rt v H') : tRet te D σ H := h _ k
/-- another list than those of the state is written -/
theorem MS.upd {m : Addr} {H : Hp} {n : Nat} {D : Addr} {xs : List V} {o : HO} (M : MS H m n) (h : H D = some (.lst xs)) (nl : ¬ Lf H m D) : MS (upd H D o) m n := by
  obtain ⟨c, l, M⟩ := M
  have Dm : m ≠ D := fun z => by
    rw [← z, M.dk] at h
    cases h
  have Dc : c ≠ D := fun z => nl (z ▸ M.ownC)
  have Dl : l ≠ D := fun z => nl (z ▸ M.ownL)
  obtain ⟨dk, ⟨cs, h1, h2⟩, ⟨ls, h3, h4, h5⟩, cl⟩ := M
  exact ⟨c, l, by rw [upd_ne Dm]; exact dk, ⟨cs, by rw [upd_ne Dc]; exact h1, h2⟩, ⟨ls, by rw [upd_ne Dl]; exact h3, h4, h5⟩, cl⟩
theorem Lf.upd {m : Addr} {H : Hp} {D b : Addr} {o : HO} (Dm : m ≠ D) (h : Lf (upd H D o) m b) : Lf H m b := by
  obtain ⟨kvs, k, h1, h2⟩ := h
  rw [upd_ne Dm] at h1
  exact ⟨kvs, k, h1, h2⟩
/-- a list that was new at H0 is written -/
theorem Ef.upd {m : Addr} {H0 H : Hp} {D : Addr} {o : HO} (e : Ef m H0 H) (h0 : H0 D = none) (Dm : m ≠ D) : Ef m H0 (upd H D o) where
  keep := fun b u h h1 h2 => by
    rw [upd_ne (ne_of_none h h0)]
    exact e.keep b u h h1 h2
  new := fun b z => e.new b (z.upd Dm)
  st := fun u h => by
    rw [upd_ne Dm]
    exact e.st u h
theorem log_ok {many : Int} (h0 : 0 < many) (h : many ≤ 10 ^ 31) : many.natAbs.log2 < 9000 := by
  have e : many.natAbs < 2 ^ 104 := by
    have : (10 : Int) ^ 31 < 2 ^ 104 := by decide
    omega
  have := (Nat.log2_lt (by omega)).mpr e
  omega
theorem MS.mne {m : Addr} {H : Hp} {n : Nat} (M : MS H m n) {D : Addr} (h : H D = none) : m ≠ D := fun z => by
  obtain ⟨c, l, M⟩ := M
  rw [← z, M.dk] at h
  cases h
theorem MS.mneL {m : Addr} {H : Hp} {n : Nat} (M : MS H m n) {D : Addr} {xs : List V} (h : H D = some (.lst xs)) : m ≠ D := fun z => by
  obtain ⟨c, l, M⟩ := M
  rw [← z, M.dk] at h
  cases h
/-- a list is written: tuples stay -/
theorem tk_upd {K : PySem.W.Frag} {H : Hp} {D : Addr} {xs : List V} {o : HO} (h : H D = some (.lst xs)) : TK K H (upd H D o) := fun a ys q => by
  rcases q with (q | ⟨u, q⟩) | q
  · exact .inl (.inl (by rw [upd_ne (ne_of q h (by intro w; cases w))]; exact q))
  · exact .inl (.inr ⟨u, by rw [upd_ne (ne_of q h (by intro w; cases w))]; exact q⟩)
  · exact .inr q
theorem take_more {α : Type} {l : List α} {i : Nat} {x : α} (h : l[i]? = some x) : l.take (i + 1) = l.take i ++ [x] := by
  rw [List.take_add_one, h]
  rfl
end My

/-! Which data repr tells, and how long its text may be. -/
namespace L2
open PySem PySem.Spec PyProof.Rows
/-- ints of at most k digits, no dict -/
def fits (k : Nat) : PyData → Bool
  | .int i => decide (i.natAbs < 10 ^ k)
  | .none => true
  | .bool _ => true
  | .str x => decide ((reprText x).length ≤ 1000)
  | .list xs => go xs
  | .tuple xs => go xs
  | .dict _ => false
where go : List PyData → Bool
  | [] => true
  | x :: r => fits k x && go r
/-- a bound of the text's length -/
def room (k : Nat) : PyData → Nat
  | .int _ => k + 1
  | .none => 10
  | .bool _ => 10
  | .str _ => 1000
  | .list xs => go xs + 4
  | .tuple xs => go xs + 4
  | .dict _ => 0
where go : List PyData → Nat
  | [] => 0
  | x :: r => room k x + 2 + go r
theorem list_text_le (ts : List Str) : (listText ts).length ≤ piled ts + 4 := by
  cases ts with
  | nil => decide +kernel
  | cons t r =>
    have h := textFrom_length_pos r 1 (("[" : Str) ++ (if (0 : Nat) > 0 then ", " else "" : String) ++ t) (Nat.succ_pos 0)
    have e : (("[" : Str) ++ (if (0 : Nat) > 0 then ", " else "" : String) ++ t).length = 1 + t.length := by
      rw [strLen_append, strLen_append]
      rfl
    have f : (listText (t :: r)).length = (textFrom 1 (("[" : Str) ++ (if (0 : Nat) > 0 then ", " else "" : String) ++ t) r).length + 1 := by
      show (textFrom 0 "[" (t :: r) ++ "]").length = _
      rw [strLen_append]
      rfl
    rw [f, h, e, piled_cons]
    omega
theorem tuple_text_le (ts : List Str) : (tupleText ts).length ≤ piled ts + 4 := by
  have e : (tupleText ts).length ≤ (Str.join ", " ts).length + 3 := by
    unfold tupleText
    rw [strLen_append, strLen_append]
    have e1 : (("(" : String) : Str).length = 1 := by decide +kernel
    have e2 : ((if (ts.length == 1) = true then ",)" else ")" : String) : Str).length ≤ 2 := by
      split
      · decide +kernel
      · decide +kernel
    omega
  cases ts with
  | nil => exact Nat.le_trans e (by decide +kernel)
  | cons t r =>
    have q := join_length_add (t :: r) (by simp)
    omega
mutual
theorem room_ok {k : Nat} (hk : 0 < k) : ∀ d : PyData, fits k d = true → d.shown.length ≤ room k d
  | .none, _ => (by decide +kernel : PyData.none.shown.length ≤ 10)
  | .bool true, _ => (by decide +kernel : (PyData.bool true).shown.length ≤ 10)
  | .bool false, _ => (by decide +kernel : (PyData.bool false).shown.length ≤ 10)
  | .int i, h => by
    have q := int_text_length_le10 hk (of_decide_eq_true h)
    show (Str.ofString (toString i)).length ≤ k + 1
    rw [PySem.ofString_length]
    exact q
  | .str x, h => of_decide_eq_true h
  | .list xs, h => by
    have q := rooms_ok hk xs h
    exact Nat.le_trans (list_text_le _) (Nat.add_le_add_right q 4)
  | .tuple xs, h => by
    have q := rooms_ok hk xs h
    exact Nat.le_trans (tuple_text_le _) (Nat.add_le_add_right q 4)
  | .dict _, h => by cases h
theorem rooms_ok {k : Nat} (hk : 0 < k) : ∀ ds : List PyData, fits.go k ds = true → piled (PyData.shownAll ds) ≤ room.go k ds
  | [], _ => Nat.le_refl _
  | d :: r, h => by
    have h' := Bool.and_eq_true_iff.mp h
    have q1 := room_ok hk d h'.1
    have q2 := rooms_ok hk r h'.2
    show piled (d.shown :: PyData.shownAll r) ≤ room k d + 2 + room.go k r
    rw [piled_cons]
    omega
end
mutual
theorem fits_show {k : Nat} (hk : k ≤ 500) : ∀ d : PyData, fits k d = true → d.showable = true ∧ d.hasDict = false
  | .none, _ => ⟨rfl, rfl⟩
  | .bool _, _ => ⟨rfl, rfl⟩
  | .int i, h => by
    refine ⟨decide_eq_true ?_, rfl⟩
    have h1 : i.natAbs < 10 ^ k := of_decide_eq_true h
    have h2 : (10 : Nat) ^ k ≤ 10 ^ 500 := Nat.pow_le_pow_right (by decide) hk
    have h3 : (10 : Nat) ^ 500 < 2 ^ 1900 := by decide +kernel
    by_cases z : i.natAbs = 0
    · rw [z]
      decide
    · have := (Nat.log2_lt z).mpr (Nat.lt_trans (Nat.lt_of_lt_of_le h1 h2) h3)
      omega
  | .str _, _ => ⟨rfl, rfl⟩
  | .list xs, h => fits_shows hk xs h
  | .tuple xs, h => fits_shows hk xs h
  | .dict _, h => by cases h
theorem fits_shows {k : Nat} (hk : k ≤ 500) : ∀ ds : List PyData, fits.go k ds = true → PyData.showableAll ds = true ∧ PyData.hasDictAll ds = false
  | [], _ => ⟨rfl, rfl⟩
  | d :: r, h => by
    have h' := Bool.and_eq_true_iff.mp h
    obtain ⟨a, b⟩ := fits_show hk d h'.1
    obtain ⟨a', b'⟩ := fits_shows hk r h'.2
    refine ⟨?_, ?_⟩
    · show (d.showable && PyData.showableAll r) = true
      rw [a, a']
      rfl
    · show (d.hasDict || PyData.hasDictAll r) = false
      rw [b, b']
      rfl
end
/-- what repr asks -/
abbrev Tells (d : PyData) : Prop := isDisplay d = true ∧ d.showable = true ∧ d.hasDict = false ∧ d.depth ≤ 8 ∧ d.shown.length ≤ sizeLine
theorem tells (k : Nat) {d : PyData} (h0 : 0 < k) (h1 : k ≤ 500) (hd : isDisplay d = true) (hf : fits k d = true) (hp : d.depth ≤ 8) (hr : room k d ≤ 16000000) :
    Tells d := by
  obtain ⟨a, b⟩ := fits_show h1 d hf
  refine ⟨hd, a, b, hp, Nat.le_trans (room_ok h0 d hf) (Nat.le_trans hr ?_)⟩
  rw [sizeLine_eq]
  decide
/-! ### ints and loops -/
theorem fits_ints {k : Nat} : ∀ {ns : List Int}, (∀ z ∈ ns, z.natAbs < 10 ^ k) → fits.go k (ns.map PyData.int) = true
  | [], _ => rfl
  | n :: r, h => by
    have q := fits_ints (k := k) (ns := r) fun z hz => h z (List.mem_cons_of_mem _ hz)
    show (decide (n.natAbs < 10 ^ k) && fits.go k (r.map PyData.int)) = true
    rw [q, decide_eq_true (h n List.mem_cons_self)]
    rfl
theorem room_ints (k : Nat) : ∀ ns : List Int, room.go k (ns.map PyData.int) = (k + 3) * ns.length
  | [] => rfl
  | n :: r => by
    have q := room_ints k r
    show (k + 1) + 2 + room.go k (r.map PyData.int) = (k + 3) * (r.length + 1)
    rw [q, Nat.mul_add]
    omega
theorem depth_ints : ∀ ns : List Int, PyData.depthAll (ns.map PyData.int) = 0
  | [] => rfl
  | n :: r => by
    show max 0 (PyData.depthAll (r.map PyData.int)) = 0
    rw [depth_ints r]
    rfl
theorem tells_ints (k : Nat) {ns : List Int} (h0 : 0 < k) (h1 : k ≤ 500) (hz : ∀ z ∈ ns, z.natAbs < 10 ^ k) (hl : (k + 3) * ns.length + 4 ≤ 16000000) :
    Tells (dInts ns) := by
  refine tells k h0 h1 rfl (fits_ints hz) ?_ ?_
  · show PyData.depthAll (ns.map PyData.int) + 1 ≤ 8
    rw [depth_ints]
    decide
  · show room.go k (ns.map PyData.int) + 4 ≤ _
    rw [room_ints]
    exact hl
abbrev dList (ns : List Int) : PyData := .list (ns.map PyData.int)
theorem tells_list (k : Nat) {ns : List Int} (h0 : 0 < k) (h1 : k ≤ 500) (hz : ∀ z ∈ ns, z.natAbs < 10 ^ k) (hl : (k + 3) * ns.length + 4 ≤ 16000000) :
    Tells (dList ns) := by
  refine tells k h0 h1 rfl (fits_ints hz) ?_ ?_
  · show PyData.depthAll (ns.map PyData.int) + 1 ≤ 8
    rw [depth_ints]
    decide
  · show room.go k (ns.map PyData.int) + 4 ≤ _
    rw [room_ints]
    exact hl
theorem fits_loops {k : Nat} : ∀ {ls : List (List Int)}, (∀ l ∈ ls, ∀ z ∈ l, z.natAbs < 10 ^ k) → fits.go k (ls.map dInts) = true
  | [], _ => rfl
  | l :: r, h => by
    have q := fits_loops (k := k) (ls := r) fun z hz => h z (List.mem_cons_of_mem _ hz)
    show (fits.go k (l.map PyData.int) && fits.go k (r.map dInts)) = true
    rw [q, fits_ints (h l List.mem_cons_self)]
    rfl
theorem room_loops (k b : Nat) : ∀ ls : List (List Int), (∀ l ∈ ls, l.length ≤ b) → room.go k (ls.map dInts) ≤ ((k + 3) * b + 6) * ls.length
  | [], _ => Nat.le_refl _
  | l :: r, h => by
    have q := room_loops k b r fun z hz => h z (List.mem_cons_of_mem _ hz)
    have e := Nat.mul_le_mul_left (k + 3) (h l List.mem_cons_self)
    show room.go k (l.map PyData.int) + 4 + 2 + room.go k (r.map dInts) ≤ ((k + 3) * b + 6) * (r.length + 1)
    rw [room_ints, Nat.mul_add]
    omega
theorem depth_loops : ∀ ls : List (List Int), PyData.depthAll (ls.map dInts) ≤ 1
  | [] => by decide
  | l :: r => by
    have q := depth_loops r
    show max (PyData.depthAll (l.map PyData.int) + 1) (PyData.depthAll (r.map dInts)) ≤ 1
    rw [depth_ints]
    omega
theorem tells_loops (k b : Nat) {ls : List (List Int)} (h0 : 0 < k) (h1 : k ≤ 500) (hz : ∀ l ∈ ls, ∀ z ∈ l, z.natAbs < 10 ^ k) (hb : ∀ l ∈ ls, l.length ≤ b) (hl : ((k + 3) * b + 6) * ls.length + 4 ≤ 16000000) :
    Tells (dLoops ls) := by
  refine tells k h0 h1 rfl (fits_loops hz) ?_ ?_
  · have q := depth_loops ls
    show PyData.depthAll (ls.map dInts) + 1 ≤ 8
    omega
  · have q := room_loops k b ls hb
    show room.go k (ls.map dInts) + 4 ≤ _
    omega
end L2

/-! Defs that ask repr of a container: they are called where no repr is under way. -/
namespace L2
open PySem PySem.Spec PyProof.Rows
/-- as FnOk, where no guard stands -/
structure FnG (P : Program) (w : World) (K : PySem.W.Frag) (mg : Str → Option Value) (base : Heap) (k : Nat) (f : Addr) (fd : FuncData)
    (ps : List Str) (sp : Sp) : Prop where
  len : ∀ vs H Q E, sp vs H Q E → vs.length = ps.length
  go : ∀ (A : Around) (outer : List Env) (s : Shared) (H : Hp) (args : Args) (us : List Value) (vs : List V) (Q : VK) (E : XK),
    Room k A → A.guards = some [] → Env0 P w K mg base A outer s H → BindsTo s fd args (ps.zip us) → Vals vs us → sp vs H Q E →
    codeAny (model P w) A (.call (.ref f) args) (CR CX0 outer P w H s Q E) s
section
variable {P : Program} {w : World} {K : PySem.W.Frag} {mg : Str → Option Value} {base : Heap}
/-- a def whose body asks for no guard -/
theorem _root_.L2.Fun.okG {x qual : Str} {st : Stmt} {f : Addr} {fd : FuncData} {N ps : List Str} {k : Nat} {sp : Sp} (F : Fun K x qual st f fd)
    (S : FnScope N ps (defScope st)) (len : ∀ vs H Q E, sp vs H Q E → vs.length = ps.length)
    (body : ∀ (cdv : Value) (A : Around) (outer : List Env) (s : Shared) (H : Hp) (vs : List V) (Q : VK) (E : XK),
      Room k (A.deeper (envOfC qual (defScope st) s.heap.objs.size f cdv)) → A.guards = some [] → sp vs H Q E →
      ∃ t, PSs (cxOf CX0 P w K mg base N qual (defScope st) f cdv A outer s H E).nox (defBody st) t ∧
        t { nx := fun _ H' => Q .non H', rt := Q } (start N vs) H) : FnG P w K mg base (k + 1) f fd ps sp := by
  obtain ⟨oc, od, kV, doc, pm, an, cdv, ct, osl, rfl, lk, hcd⟩ := F.ex
  constructor
  · exact len
  intro A outer s H args us vs Q E room hg env binds rel ask
  have room' := room.deeper (envOfC qual (defScope st) s.heap.objs.size f cdv)
  obtain ⟨t, walk, want⟩ := body cdv A outer s H vs Q E room' hg ask
  have kin : K.In s.heap := env.mod.kin.keeps fun b o e => (env.bs b o e).1
  have kinds : ∀ y ∈ ps.zip us, (defScope st).names.lookup y.1 = some .local ∨
      ((defScope st).names.lookup y.1 = some .cell ∧ ((cellsFrom (s.heap.objs.size + 1) (defScope st).names []).lookup y.1).isSome = true) := by
    rintro ⟨n, v⟩ hy
    have hn := S.par n (List.of_mem_zip hy).1
    rcases hn with q | q
    · exact Or.inl q
    · exact Or.inr ⟨q, PySem.W.cellsFrom_some _ _ _ (Or.inl q)⟩
  refine codeAny_call_function room.depth (kin _ _ lk) rfl S.co S.gen rfl (PySem.W.codeRec_of kin hcd) (binds _ _ _ _ ?_)
  refine wpAny_newFunctionEnv_cells S.kind kinds fun e he s1 begun => ?_
  subst he
  have lim : s.heap.NoLimit := env.mod.nolimit.keeps fun b o e => (env.bs b o e).1
  refine And.intro (lim.keeps begun.toInCall.keep) (codeAny_func ?_)
  have inv := inv_start (CX := CX0) (E := E) S room.hd env (len _ _ _ _ ask) rel begun
  have over : ∀ {σ' : St} {H' : Hp} {v : V} {u : Value} {s' : Shared},
      Inv (cxOf CX0 P w K mg base N qual (defScope st) f cdv A outer s H E) [] σ' H' s' → RelV v u → Q v H' → CE outer P w H s Q u s' :=
    fun J r q => ⟨_, _, J.os, J.bare, J.base, J.hok, r, q⟩
  refine wpAny_mono (walk.nox.run [] s1 (start N vs) H _ inv want) ?_ (fun _ _ z => z)
  intro fl s' ends
  cases fl with
  | next =>
    obtain ⟨_, _, J, q⟩ := ends
    exact over (v := V.non) (u := Value.none) J rfl q
  | ret u =>
    obtain ⟨_, _, _, J, r, q⟩ := ends
    exact over J r q
  | brk =>
    obtain ⟨_, _, _, q⟩ := ends
    cases q
  | cont =>
    obtain ⟨_, _, _, q⟩ := ends
    cases q
/-- a def that keeps a promise everywhere keeps it where no guard stands -/
theorem FnOk.toG {k : Nat} {f : Addr} {fd : FuncData} {ps : List Str} {sp : Sp} (F : FnOk P w K mg base CX0 k f fd ps sp) : FnG P w K mg base k f fd ps sp :=
  ⟨F.len, fun A outer s H args us vs Q E r _ => F.run A outer s H args us vs Q E r⟩
end
section
variable {X : Cx} {k : Nat} {f : Addr} {fd : FuncData} {ps : List Str} {sp : Sp} {dvs : List V} {ds : List Value} {E : XK} {x : Str}
/-- f(e, ..), f such a def -/
theorem pe_callG {p pos : Pos} {e : Expr} {es : List Expr} {t : TA} (F : FnG X.prog X.w X.K X.mg X.base k f fd ps sp) (hr : Room k X.A) (hG : X.A.guards = some [])
    (hg : Gl X x) (hm : X.mg x = some (.ref f)) (hk : PySem.W.keepIn X.K (.ref f) = true) (hb : Binds X.K fd ps ds) (hd : Vals dvs ds) (hx : Passes CX0 X E)
    (ha : PA X (e :: es) t) (hdb : (x == ("__debug__" : Str)) = false := by decide)
    (he : starEach (e :: es) X.env = (false, eval e X.env) :: starEach es X.env := by rfl) (hpl : (backTo pos (starEach es X.env)).any (·.1) = false := by rfl) :
    PE X (.Call (.Name x p) (e :: es) [] pos) (tCall sp dvs E t) := by
  constructor
  intro pins s σ H Q I h
  have run : ∀ us s1, AP X pins σ (fun vs H1 => sp (vs ++ dvs) H1 Q E) us s1 →
      X.K.In s1.heap ∧ wpAny (model X.prog X.w) X.A (call (.ref f) us) (EP X pins σ Q) X.xe s1 := by
    rintro us s1 ⟨vs, H1, I1, r, q⟩
    have r2 := r.append hd
    have hl : (us ++ ds).length = ps.length := by
      rw [← r2.length]
      exact F.len _ _ _ _ q
    refine ⟨I1.kIn, wpAny_call (codeAny_mono (F.go X.A X.stack s1 H1 ⟨us, []⟩ (us ++ ds) (vs ++ dvs) Q E hr hG I1.env0 (hb s1 us I1.kIn hl) r2 q) ?_)⟩
    intro res s2 z
    cases res with
    | error er => exact hx pins σ H1 s1 er s2 I1 z
    | ok fl =>
      cases fl with
      | ret u => exact I1.after z
      | next => cases z
      | brk => cases z
      | cont => cases z
  exact wpAny_Call_Name_kw (ld_glob I hg hm (PySem.W.callWith_K (h₀ := X.base) I.ok.mod.kin hk
    (thn (ha.run pos pins s σ H _ I h) fun us s1 q => run us s1 q) he hpl) hdb)
end
end L2

/-! A law's end where its def asks repr of a container. -/
namespace L2
open PySem PySem.Spec PyProof.Rows
section
variable {P : Program} {w : World} {K : PySem.W.Frag} {mg mb : Str → Option Value} {k : Nat} {fa a : Addr} {fd : FuncData} {x : Str} {sp : Sp}
  {z : Shared} {vs : List Value} {ns : List Int}
def endsTrue (z : Shared) (r : Result) (s' : Shared) : Prop :=
  r = .ok (.ret (.bool true)) ∧ OldK z.heap s'.heap ∧ s'.os = z.os ∧ AllBare s'.gens
/-- from an abstract heap that tracks the script at most -/
theorem my_core (kin : K.In z.heap) (hns : z.heap.Ns mainGlobals mg) (hb : z.heap.Ns builtinsNs mb) (hbb : ∀ x : Str, x ≠ "__name__" → mb x = bootBuiltins x)
    (hlim : z.heap.NoLimit) (hg : z.gens = #[]) (ha : z.heap.get? a = some { cls := .type "list", data := .seq vs.toArray }) (hr : Room k callerA)
    (F : ∀ base : Heap, K.In base → base.Ns mainGlobals mg → FnG P w K mg base k fa fd [x] sp) (bind : ∀ (s : Shared) (u : Value), BindsTo s fd ⟨[u], []⟩ [(x, u)])
    (H : Hp) (ask : sp [.ref a] H (fun v _ => v = .bl true) fun _ _ _ => False) (ok : HOk P w H z.heap) (only : Only H) (atA : ∀ b, H b ≠ none → b = a)
    (notK : H a ≠ none → K.lookup a = none) : codeAny (model P w) callerA (.call (.ref fa) ⟨[.ref a], []⟩) (endsTrue z) z := by
  have stays : ∀ {b : Addr} {o : Obj}, z.heap.get? b = some o → (b ≠ a ∨ H a = none) → (hidT z.heap H).get? b = some o := by
    intro b o e h
    refine hidT_get e ?_
    cases q : H b with
    | none => rfl
    | some u =>
      have eb := atA b (by rw [q]; exact Option.some_ne_none u)
      rcases h with h | h
      · exact absurd eb h
      · rw [eb, h] at q
        cases q
  have names : ∀ {b : Addr} {m : Str → Option Value}, z.heap.Ns b m → (hidT z.heap H).Ns b m := by
    rintro b m ⟨o, es, ep, e, d, r⟩
    refine ⟨o, es, ep, stays e (.inl fun eb => ?_), d, r⟩
    rw [eb, ha] at e
    cases e
    cases d
  have kinB : K.In (hidT z.heap H) := by
    intro b o e
    refine stays (kin b o e) ?_
    by_cases eb : b = a
    · refine .inr ?_
      cases q : H a with
      | none => rfl
      | some u =>
        rw [eb, notK (by rw [q]; exact Option.some_ne_none u)] at e
        cases e
    · exact .inl eb
  obtain ⟨mc, l1, l2⟩ := hlim
  have M : Mod K mg (hidT z.heap H) := ⟨kinB, names hns, ⟨mb, names hb, hbb⟩, ⟨mc, names l1, l2⟩⟩
  have env : Env0 P w K mg (hidT z.heap H) callerA [] z H := by
    refine ⟨rfl, M, fun b o e => of_hidT e, Nat.le_of_eq (hidT_size _ _), trivial, ?_, ok, .of_eq hg⟩
    intro b hm
    cases hm
  refine codeAny_mono ((F _ kinB (names hns)).go callerA [] z H ⟨[.ref a], []⟩ [.ref a] [.ref a] _ _ hr rfl env (bind z (.ref a)) (.cons rfl .nil) ask) ?_
  intro r s' res
  cases r with
  | error e => cases res
  | ok fl =>
    cases fl with
    | ret u =>
      obtain ⟨v, H', os, bare, un, ok', rel, ev⟩ := res
      have ev' : v = .bl true := ev
      subst ev'
      have eu : u = Value.bool true := rel
      subst eu
      refine ⟨rfl, OldK.of_keep fun b o e => ?_, os, bare⟩
      rcases only b with q | ⟨ob, xs, q⟩
      · exact un.keep b o e q (fun m => by cases m) (fun m => by cases m)
      · obtain ⟨e1, _⟩ := ok b _ q
        obtain ⟨e2, _⟩ := ok' b _ (un.frzs b ob _ q)
        rw [e] at e1
        cases e1
        exact e2
    | next => cases res
    | brk => cases res
    | cont => cases res
theorem my_law_call (kin : K.In z.heap) (hns : z.heap.Ns mainGlobals mg) (hb : z.heap.Ns builtinsNs mb) (hbb : ∀ x : Str, x ≠ "__name__" → mb x = bootBuiltins x)
    (hlim : z.heap.NoLimit) (hg : z.gens = #[]) (ha : z.heap.get? a = some { cls := .type "list", data := .seq vs.toArray }) (hi : IntsAre vs ns) (hl : ns.length ≤ sizeLine)
    (hr : Room k callerA) (F : ∀ base : Heap, K.In base → base.Ns mainGlobals mg → FnG P w K mg base k fa fd [x] sp)
    (bind : ∀ (s : Shared) (u : Value), BindsTo s fd ⟨[u], []⟩ [(x, u)])
    (ask : ∀ H : Hp, Only H → SqL K H a (ns.map V.int) → sp [.ref a] H (fun v _ => v = .bl true) fun _ _ _ => False) :
    codeAny (model P w) callerA (.call (.ref fa) ⟨[.ref a], []⟩) (endsTrue z) z := by
  have rv := vals_ints hi
  have lv := hi.length
  cases hk : K.lookup a with
  | none =>
    let H0 : Hp := fun b => if b = a then some (.frz { cls := .type "list", data := .seq vs.toArray } (.lst (ns.map V.int))) else none
    have at0 : H0 a = some (.frz { cls := .type "list", data := .seq vs.toArray } (.lst (ns.map V.int))) := if_pos rfl
    have else0 : ∀ b, b ≠ a → H0 b = none := fun b h => if_neg h
    have only : Only H0 := fun b => by
      by_cases h : b = a
      · rw [h]
        exact .inr ⟨_, _, at0⟩
      · exact .inl (else0 b h)
    refine my_core kin hns hb hbb hlim hg ha hr F bind H0 (ask H0 only (.inl (.inr ⟨_, at0⟩))) ?_ only ?_ (fun _ => hk)
    · intro b u h
      by_cases hba : b = a
      · subst hba
        rw [at0] at h
        cases h
        exact ⟨ha, by rw [List.length_map]; exact hl, vs, _, rv, ha⟩
      · rw [else0 b hba] at h
        cases h
    · intro b h
      exact Classical.byContradiction fun n => h (else0 b n)
  | some o =>
    have e := kin a o hk
    rw [ha] at e
    cases e
    have only : Only fun _ => none := fun _ => .inl rfl
    refine my_core kin hns hb hbb hlim hg ha hr F bind (fun _ => none) (ask _ only ?_) ?_ only ?_ ?_
    · exact .inr ⟨_, vs.toArray, _, hk, rfl, rfl, rfl, by rw [List.size_toArray, lv]; exact hl, by simpa using rv⟩
    · intro b u h
      cases h
    · intro b h
      exact absurd rfl h
    · intro h
      exact absurd rfl h
end
theorem my_walk {l : PySem.W.OpenLaw} {k : Nat} {q : Program} {loose : List Str} {XP : (Str → Option Value) → Heap → Prop} {YP : World → Heap → Prop} {d : DefRec}
    {K : Params → PySem.W.Frag} {sp : PySem.W.Frag → Sp} (hn : l.most = some 63) (hdf : d.params.defaults = []) (hr : Room k callerA)
    (hY : ∀ (w : World) (h : Heap), YP w h → (K w.params).In h)
    (F : ∀ (w : World) (mg : Str → Option Value) (fa : Addr) (h : Heap), (K w.params).In h → h.Ns mainGlobals mg → mg d.name = some (.ref fa) →
      ∃ fd : FuncData, (∀ (s : Shared) (u : Value), BindsTo s fd ⟨[u], []⟩ [("script", u)]) ∧
        ∀ base : Heap, (K w.params).In base → base.Ns mainGlobals mg → FnG l.prog w (K w.params) mg base k fa fd ["script"] (sp (K w.params)))
    (ask : ∀ (K : PySem.W.Frag) (H : Hp) (a : Addr) (ns : List Int), ns.length ≤ 63 → SqL K H a (ns.map V.int) → sp K [.ref a] H (fun v _ => v = .bl true) fun _ _ _ => False) :
    PySem.W.WalkO q loose XP YP l.row.toRowW d [] (fun f vs => PySem.call f vs) := by
  refine Att.attach_call hn hdf fun w s0 z mg mb fa o pm cd doc a vs ns G Y ho hd hcd hmg hobj hints hlen hg => ?_
  have kin := hY w _ Y
  obtain ⟨fd, bind, hF⟩ := F w mg fa _ kin G.T.g hmg
  exact my_law_call kin G.T.g G.T.b G.T.builtins G.T.nolimit hg hobj hints (Nat.le_trans hlen (by decide)) hr hF bind
    fun H only hS => ask (K w.params) H a ns hlen hS
end L2

/-! Data compared, cut, and told. -/
namespace L2
open PySem PySem.Spec PyProof.Rows
theorem eqv_ints : ∀ xs ys : List Int, PyData.eqvAll (xs.map PyData.int) (ys.map PyData.int) = decide (xs = ys)
  | [], [] => rfl
  | [], _ :: _ => rfl
  | _ :: _, [] => rfl
  | x :: xs, y :: ys => by
    have q := eqv_ints xs ys
    show ((x == y) && PyData.eqvAll (xs.map PyData.int) (ys.map PyData.int)) = decide (x :: xs = y :: ys)
    rw [q]
    by_cases h : x = y
    · subst h
      by_cases h2 : xs = ys
      · subst h2
        simp
      · simp [h2]
    · simp [h]
theorem eqv_dInts (xs ys : List Int) : PyData.eqv (dInts xs) (dInts ys) = decide (xs = ys) := eqv_ints xs ys
theorem shaped_dInts (ns : List Int) : SeqAt.shaped (dInts ns) = true := by
  have e : SeqAt.shaped (dInts ns) = SeqAt.shaped (.list (ns.map PyData.int)) := rfl
  rw [e]
  exact PySem.W.shaped_ints ns
/-- a list of ints that stands -/
theorem Dp.ofList {K : PySem.W.Frag} {H : Hp} {a : Addr} {ns : List Int} (h : H a = some (.lst (ns.map V.int))) : Dp K H (.ref a) (dList ns) :=
  .lst (SqL.of h) (DpAll.ints ns)
def cutD (ds : List PyData) (lo hi : Option Int) : List PyData := (ds.drop (HT.sIx ds.length 0 lo)).take (HT.sIx ds.length ds.length hi - HT.sIx ds.length 0 lo)
theorem DpAll.drop {K : PySem.W.Frag} {H : Hp} : ∀ {vs : List V} {ds : List PyData} (n : Nat), DpAll K H vs ds → DpAll K H (vs.drop n) (ds.drop n)
  | _, _, 0, h => h
  | _, _, _ + 1, .nil => .nil
  | _, _, n + 1, .cons _ h => DpAll.drop n h
theorem DpAll.take {K : PySem.W.Frag} {H : Hp} : ∀ {vs : List V} {ds : List PyData} (n : Nat), DpAll K H vs ds → DpAll K H (vs.take n) (ds.take n)
  | _, _, 0, _ => .nil
  | _, _, _ + 1, .nil => .nil
  | _, _, n + 1, .cons h1 h => .cons h1 (DpAll.take n h)
/-- t[lo:hi] of a tuple of data -/
theorem rd_cut {K : PySem.W.Frag} {H : Hp} {v : V} {ds : List PyData} {lo hi : Option Int} {Q : VK} (h : Dp K H v (.tuple ds))
    (k : ∀ w H', Same H H' → Dp K H' w (.tuple (cutD ds lo hi)) → Q w H') : rSlA K v lo hi H Q := by
  obtain ⟨a, xs, rfl, hT, hX⟩ := h.tuple
  have hl := hX.len
  have hc : DpAll K H (cutV xs lo hi) (cutD ds lo hi) := by
    unfold cutV cutD
    rw [← hl]
    exact (hX.drop _).take _
  refine ⟨a, xs, rfl, hT, fun w => ?_, fun _ p hp => ?_⟩
  · refine k _ H (Same.refl H) (.tup hT ?_)
    have e : cutV xs lo hi = xs := by
      unfold cutV
      rw [w.1, w.2, List.drop_zero, Nat.sub_zero, List.take_length]
    rw [e] at hc
    exact hc
  · exact k _ _ (same_upd hp _) (.tup (SqT.of upd_same) (DpAll.same (same_upd hp _) _ _ hc))
theorem cutD_map {α : Type} (f : α → PyData) (xs : List α) (n : Nat) : cutD (xs.map f) none (some (n : Int)) = (xs.take n).map f := by
  unfold cutD
  rw [HT.sIx_none, HT.sIx_nat, List.drop_zero, Nat.sub_zero, List.length_map, ← List.map_take]
  congr 1
  by_cases h : n ≤ xs.length
  · rw [Nat.min_eq_left h]
  · rw [Nat.min_eq_right (by omega), List.take_length, List.take_of_length_le (by omega)]
end L2

/-! The promises of the defs that several laws share, and what is known of them. -/
namespace My
open PySem PySem.Spec PyProof.Rows L2
def sp__law_begun (K : PySem.W.Frag) : Sp := fun vs H Q _ => ∃ (a : Addr) (ns : List Int), vs = [.ref a] ∧ SqL K H a (ns.map V.int) ∧ ns.length ≤ 63 ∧
  ∀ m H', Same H H' → MS H' m 0 → Q (.ref m) H'
def sp__law_next (K : PySem.W.Frag) : Sp := fun vs H Q _ => ∃ (m : Addr) (many : Int) (n : Nat), vs = [.ref m, .int many] ∧ MS H m n ∧ 0 < many ∧ many ≤ 10 ^ 31 ∧ n < 2 ^ 40 ∧
  ∀ (r : Int) (n' : Nat) H', 0 ≤ r → r < many → n' ≤ n + 1 → MS H' m n' → Ef m H H' → Q (.int r) H'
def NB (r : Int) : Prop := -(10 ^ 30) ≤ r ∧ r ≤ 10 ^ 30
def sp__law_number (K : PySem.W.Frag) : Sp := fun vs H Q _ => ∃ (m : Addr) (n : Nat), vs = [.ref m] ∧ MS H m n ∧ n + 2 ≤ 2 ^ 40 ∧
  ∀ (r : Int) (n' : Nat) H', NB r → n' ≤ n + 2 → MS H' m n' → Ef m H H' → Q (.int r) H'
def sp__law_lengths (K : PySem.W.Frag) : Sp := fun vs H Q _ => ∃ (m : Addr) (many most : Int) (n : Nat), vs = [.ref m, .int many, .int most] ∧ MS H m n ∧ 0 ≤ many ∧ many ≤ 100 ∧ 1 ≤ most ∧ most ≤ 1000 ∧ n + 200 ≤ 2 ^ 40 ∧
  ∀ (v : V) (ls : List Int) (n' : Nat) H', Dp K H' v (dInts ls) → (ls.length : Int) ≤ many → (∀ z ∈ ls, 1 ≤ z ∧ z ≤ most) → n' ≤ n + 200 → MS H' m n' → Ef m H H' → Q v H'
def sp__law_loops_of (K : PySem.W.Frag) : Sp := fun vs H Q _ => ∃ (m : Addr) (v : V) (lens : List Int) (n : Nat), vs = [.ref m, v] ∧ Dp K H v (dInts lens) ∧ lens.length ≤ 100 ∧ (∀ z ∈ lens, 0 ≤ z ∧ z ≤ 1000) ∧ MS H m n ∧ n + 300000 ≤ 2 ^ 40 ∧
  ∀ (v : V) (ls : List (List Int)) (n' : Nat) H', Dp K H' v (dLoops ls) → ls.map (fun l => (l.length : Int)) = lens → (∀ l ∈ ls, ∀ z ∈ l, NB z) → n' ≤ n + 200000 → MS H' m n' → Ef m H H' → Q v H'
def sp_is_whole (K : PySem.W.Frag) : Sp := fun vs H Q _ => ∃ (x : V) (t : Value) (b1 b2 : Bool), vs = [x] ∧ TyX K H x t ∧ PySem.W.kitOne K t (.type "int") = some b1 ∧ PySem.W.kitOne K t (.type "bool") = some b2 ∧ Q (.bl (b1 && !b2)) H
def sp_need_tick (K : PySem.W.Frag) : Sp := fun vs H Q _ => ∃ (i : Int), vs = [.int i] ∧ 0 ≤ i ∧ i ≤ 10 ^ 30 ∧ Q .non H
def sp_need_many (K : PySem.W.Frag) : Sp := fun vs H Q _ => ∃ (i : Int), vs = [.int i] ∧ 0 ≤ i ∧ i ≤ 1000 ∧ Q .non H
def OkL (ls : List (List Int)) : Prop := ls.length ≤ 6 ∧ ∀ l ∈ ls, 1 ≤ l.length ∧ l.length ≤ 64
def sp_need_loops (K : PySem.W.Frag) : Sp := fun vs H Q _ => ∃ (v : V) (ls : List (List Int)), vs = [v] ∧ Dp K H v (dLoops ls) ∧ OkL ls ∧ ∀ H', Same H H' → Q v H'
def hAt (l : List Int) (t : Int) : Int := l.getD (t.fmod (l.length : Int)).toNat 0
def hd (ls : List (List Int)) (t : Int) : Int := (ls.map fun l => hAt l t).sum
def hrow (ls : List (List Int)) (t : Int) (n : Nat) : List Int := (List.range n).map fun i => hd ls (t + (i : Nat))
def sp_sum_at (K : PySem.W.Frag) : Sp := fun vs H Q _ => ∃ (v : V) (ls : List (List Int)) (t : Int), vs = [v, .int t] ∧ Dp K H v (dLoops ls) ∧ OkL ls ∧ ∀ H', Same H H' → Q (.int (hd ls t)) H'
def sp__law_heard (K : PySem.W.Frag) : Sp := fun vs H Q _ => ∃ (v : V) (ls : List (List Int)) (t : Int), vs = [v, .int t] ∧ Dp K H v (dLoops ls) ∧ OkL ls ∧ ∀ H', Same H H' → Q (.int (hd ls t)) H'
def sp_heard (K : PySem.W.Frag) : Sp := fun vs H Q _ => ∃ (v : V) (ls : List (List Int)) (t : Int), vs = [v, .int t] ∧ Dp K H v (dLoops ls) ∧ OkL ls ∧ 0 ≤ t ∧ t ≤ 10 ^ 30 ∧ ∀ H', Same H H' → Q (.int (hd ls t)) H'
def sp_heard_row (K : PySem.W.Frag) : Sp := fun vs H Q _ => ∃ (v : V) (ls : List (List Int)) (t n : Int), vs = [v, .int t, .int n] ∧ Dp K H v (dLoops ls) ∧ OkL ls ∧ 0 ≤ t ∧ t ≤ 10 ^ 30 ∧ 0 ≤ n ∧ n ≤ 1000 ∧
  ∀ w H', Same H H' → Dp K H' w (dInts (hrow ls t n.toNat)) → Q w H'
def sp__law_heard_row (K : PySem.W.Frag) : Sp := fun vs H Q _ => ∃ (v : V) (ls : List (List Int)) (t n : Int), vs = [v, .int t, .int n] ∧ Dp K H v (dLoops ls) ∧ OkL ls ∧ 0 ≤ n ∧ n ≤ 1000 ∧
  ∀ w H', Same H H' → Dp K H' w (dInts (hrow ls t n.toNat)) → Q w H'
theorem loops_get {K : PySem.W.Frag} {H : Hp} {xs : List V} {ls : List (List Int)} {i : Nat} {x : V} (h : DpAll K H xs (ls.map dInts)) (hx : xs[i]? = some x) :
    ∃ l a, ls[i]? = some l ∧ x = .ref a ∧ SqT K H a (l.map V.int) := by
  obtain ⟨d, hd, hD⟩ := h.get hx
  rw [List.getElem?_map] at hd
  cases e : ls[i]? with
  | none =>
    rw [e] at hd
    cases hd
  | some l =>
    rw [e] at hd
    cases hd
    obtain ⟨a, rfl, hT⟩ := hD.ints
    exact ⟨l, a, rfl, rfl, hT⟩
theorem iteP {p A B : Prop} [Decidable p] (h : p) (a : A) : if decide p = true then A else B := by
  rw [decide_eq_true h]
  exact iteT a
theorem iteN {p A B : Prop} [Decidable p] (h : ¬ p) (b : B) : if decide p = true then A else B := by
  rw [decide_eq_false h]
  exact iteF b
theorem kit_ii {K : PySem.W.Frag} : PySem.W.kitOne K (.type "int") (.type "int") = some true := kit_ty (by decide +kernel)
theorem kit_ib {K : PySem.W.Frag} : PySem.W.kitOne K (.type "int") (.type "bool") = some false := kit_ty (by decide +kernel)
theorem kit_tt {K : PySem.W.Frag} : PySem.W.kitOne K (.type "tuple") (.type "tuple") = some true := kit_ty (by decide +kernel)
theorem _root_.L2.Dp.same_at {K : PySem.W.Frag} {H H' : Hp} {v : V} {d : PyData} (h : Dp K H v d) (e : Same H H') : Dp K H' v d := Dp.same e d v h
theorem hAt_ix {l : List Int} (t : Int) (h : 1 ≤ l.length) : atI (l.map V.int) (t.fmod ((l.map V.int).length : Int)) = some (.int (hAt l t)) := by
  rw [List.length_map]
  have hp : (0 : Int) < (l.length : Int) := by omega
  have h1 := Int.fmod_nonneg_of_pos t hp
  have h2 := Int.fmod_lt_of_pos t hp
  have hk : (t.fmod (l.length : Int)).toNat < l.length := by omega
  refine at_of (j := (t.fmod (l.length : Int)).toNat) (by omega) ?_
  rw [List.getElem?_map, List.getElem?_eq_getElem hk]
  unfold hAt
  rw [List.getD_eq_getElem?_getD, List.getElem?_eq_getElem hk]
  rfl
theorem hrow_len (ls : List (List Int)) (t : Int) (n : Nat) : (hrow ls t n).length = n := by
  unfold hrow
  rw [List.length_map, List.length_range]
theorem hrow_more (ls : List (List Int)) (t : Int) (n : Nat) : hrow ls t (n + 1) = hrow ls t n ++ [hd ls (t + (0 + (n : Int)))] := by
  unfold hrow
  rw [List.range_succ, List.map_append, Int.zero_add]
  rfl
def sp_law (K : PySem.W.Frag) : Sp := fun vs H Q _ => ∃ (a : Addr) (ns : List Int), vs = [.ref a] ∧ SqL K H a (ns.map V.int) ∧ ns.length ≤ 63 ∧ ∀ H', Q (.bl true) H'
def NBL (ls : List (List Int)) : Prop := ∀ l ∈ ls, ∀ z ∈ l, NB z
theorem hAt_nb {l : List Int} (t : Int) (h : ∀ z ∈ l, NB z) : NB (hAt l t) := by
  unfold hAt
  rw [List.getD_eq_getElem?_getD]
  cases e : l[(t.fmod (l.length : Int)).toNat]? with
  | none => exact ⟨by decide, by decide⟩
  | some z => exact h z (List.mem_of_getElem? e)
theorem hd_nb : ∀ {ls : List (List Int)} (t : Int), NBL ls → -(10 ^ 30) * (ls.length : Int) ≤ hd ls t ∧ hd ls t ≤ 10 ^ 30 * (ls.length : Int)
  | [], _, _ => ⟨(by decide : -(10 ^ 30) * ((0 : Nat) : Int) ≤ 0), (by decide : (0 : Int) ≤ 10 ^ 30 * ((0 : Nat) : Int))⟩
  | l :: r, t, h => by
    have q := hd_nb (ls := r) t fun x hx => h x (List.mem_cons_of_mem _ hx)
    have e : hd (l :: r) t = hAt l t + hd r t := by
      unfold hd
      rw [List.map_cons, List.sum_cons]
    obtain ⟨a, b⟩ := hAt_nb t (h l List.mem_cons_self)
    rw [e, List.length_cons]
    obtain ⟨c, d⟩ := q
    constructor <;> omega
theorem hd_small {ls : List (List Int)} (t : Int) (h : NBL ls) (hl : ls.length ≤ 6) : (hd ls t).natAbs < 10 ^ 40 := by
  obtain ⟨a, b⟩ := hd_nb t h
  have c : ((ls.length : Nat) : Int) ≤ 6 := by omega
  have e : (10 : Int) ^ 30 * (ls.length : Int) ≤ 10 ^ 31 := by omega
  have f : -(10 ^ 31) ≤ -(10 : Int) ^ 30 * (ls.length : Int) := by omega
  have g : (10 : Nat) ^ 40 = 10000000000000000000000000000000000000000 := by decide
  omega
theorem hrow_small {ls : List (List Int)} (t : Int) (n : Nat) (h : NBL ls) (hl : ls.length ≤ 6) : ∀ z ∈ hrow ls t n, z.natAbs < 10 ^ 40 := by
  intro z hz
  unfold hrow at hz
  obtain ⟨i, _, rfl⟩ := List.mem_map.mp hz
  exact hd_small _ h hl
theorem nb_small {z : Int} (h : NB z) : z.natAbs < 10 ^ 40 := by
  obtain ⟨a, b⟩ := h
  have g : (10 : Nat) ^ 40 = 10000000000000000000000000000000000000000 := by decide
  omega
theorem tells_row {ls : List (List Int)} (t : Int) (n : Nat) (h : NBL ls) (hl : ls.length ≤ 6) (hn : n ≤ 1000) : Tells (dInts (hrow ls t n)) :=
  tells_ints (ns := hrow ls t n) 40 (by decide) (by decide) (hrow_small t n h hl) (by rw [hrow_len]; omega)
theorem tells_two {x : Int} (h : x.natAbs < 10 ^ 40) : Tells (dList [x, x]) := tells_list (ns := [x, x]) 40 (by decide) (by decide)
  (by intro z hz; simp at hz; rw [hz]; exact h) (by show (40 + 3) * 2 + 4 ≤ 16000000; decide)
theorem tells_ok {ls : List (List Int)} (h : NBL ls) (ok : OkL ls) : Tells (dLoops ls) := tells_loops (ls := ls) 40 64 (by decide) (by decide)
  (fun l hl z hz => nb_small (h l hl z hz)) (fun l hl => (ok.2 l hl).2) (by have := ok.1; omega)
/-- one of two -/
theorem pick2 {x y : Int} {r : Int} (h0 : 0 ≤ r) (h1 : r < 2) : ∃ b : Int, atI ([x, y].map V.int) r = some (.int b) ∧ (b = x ∨ b = y) := by
  rcases (by omega : r = 0 ∨ r = 1) with e | e
  · rw [e]
    exact ⟨x, at_of (j := 0) rfl rfl, .inl rfl⟩
  · rw [e]
    exact ⟨y, at_of (j := 1) rfl rfl, .inr rfl⟩
theorem pick3 {x y w : Int} {r : Int} (h0 : 0 ≤ r) (h1 : r < 3) : ∃ b : Int, atI ([x, y, w].map V.int) r = some (.int b) ∧ (b = x ∨ b = y ∨ b = w) := by
  rcases (by omega : r = 0 ∨ r = 1 ∨ r = 2) with e | e | e
  · rw [e]
    exact ⟨x, at_of (j := 0) rfl rfl, .inl rfl⟩
  · rw [e]
    exact ⟨y, at_of (j := 1) rfl rfl, .inr (.inl rfl)⟩
  · rw [e]
    exact ⟨w, at_of (j := 2) rfl rfl, .inr (.inr rfl)⟩
theorem min4 (z : Int) (h : 0 ≤ z) : 0 ≤ (if (4 : Int) < z then 4 else z) ∧ (if (4 : Int) < z then 4 else z) ≤ 4 := by
  split <;> omega
abbrev farL : List (List Int) := [[(10 ^ 62) ^ 16, 1 - (10 ^ 62) ^ 16], [5]]
theorem far_row : hrow farL (10 ^ 30) 2 = [(10 ^ 62) ^ 16 + 5, 6 - (10 ^ 62) ^ 16] := by decide +kernel
theorem iteB {b : Bool} {A B : Prop} (h : b = true) (k : B) : if (!b) = true then A else B := by
  rw [h]
  exact iteF k
theorem far_eq : PyData.eqv (dInts (hrow farL (10 ^ 30) 2)) (dInts [(10 ^ 62) ^ 16 + 5, 6 - (10 ^ 62) ^ 16]) = true := by
  rw [eqv_dInts, far_row]
  exact decide_eq_true rfl
theorem far_ok : OkL farL := by
  refine ⟨by decide, fun l hl => ?_⟩
  simp at hl
  rcases hl with h | h <;> (rw [h]; decide)
theorem OkL.take {ls : List (List Int)} (h : OkL ls) (n : Nat) : OkL (ls.take n) :=
  ⟨by rw [List.length_take]; have := h.1; omega, fun l hl => h.2 l (List.mem_of_mem_take hl)⟩
theorem NBL.take {ls : List (List Int)} (h : NBL ls) (n : Nat) : NBL (ls.take n) := fun l hl => h l (List.mem_of_mem_take hl)
/-! ### loops turned -/
def turnL (l : List Int) (k : Nat) : List Int := l.drop k ++ l.take k
def lat (ls : List (List Int)) (t : Int) : List (List Int) := ls.map fun l => turnL l (t.fmod (l.length : Int)).toNat
def lensI (ls : List (List Int)) : List Int := ls.map fun l => (l.length : Int)
def sp_lengths_of (K : PySem.W.Frag) : Sp := fun vs H Q _ => ∃ (v : V) (ls : List (List Int)), vs = [v] ∧ Dp K H v (dLoops ls) ∧ OkL ls ∧ ∀ w H', Same H H' → Dp K H' w (dInts (lensI ls)) → Q w H'
def sp_begun_at (K : PySem.W.Frag) : Sp := fun vs H Q _ => ∃ (v : V) (l : List Int) (i : Int), vs = [v, .int i] ∧ Dp K H v (dInts l) ∧ 0 ≤ i ∧ i < (l.length : Int) ∧ l.length ≤ 64 ∧ ∀ w H', Same H H' → Dp K H' w (dInts (turnL l i.toNat)) → Q w H'
def sp__law_turned (K : PySem.W.Frag) : Sp := fun vs H Q _ => ∃ (v : V) (l : List Int) (t : Int), vs = [v, .int t] ∧ Dp K H v (dInts l) ∧ 1 ≤ l.length ∧ l.length ≤ 64 ∧ ∀ w H', Same H H' → Dp K H' w (dInts (turnL l (t.fmod (l.length : Int)).toNat)) → Q w H'
def sp_later (K : PySem.W.Frag) : Sp := fun vs H Q _ => ∃ (v : V) (ls : List (List Int)) (t : Int), vs = [v, .int t] ∧ Dp K H v (dLoops ls) ∧ OkL ls ∧ 0 ≤ t ∧ t ≤ 10 ^ 30 ∧ ∀ w H', Same H H' → Dp K H' w (dLoops (lat ls t)) → Q w H'
theorem fm {t : Int} {n : Nat} (h : 1 ≤ n) : t.fmod (n : Int) = t % (n : Int) := Int.fmod_eq_emod_of_nonneg t (by omega)
theorem fm_lt {t : Int} {n : Nat} (h : 1 ≤ n) : (t.fmod (n : Int)).toNat < n := by
  have a := Int.fmod_nonneg_of_pos t (show (0 : Int) < (n : Int) by omega)
  have b := Int.fmod_lt_of_pos t (show (0 : Int) < (n : Int) by omega)
  omega
theorem turn_len (l : List Int) (k : Nat) : (turnL l k).length = l.length := by
  unfold turnL
  rw [List.length_append, List.length_drop, List.length_take]
  omega
theorem turn_get {l : List Int} {k i : Nat} (hk : k < l.length) (hi : i < l.length) : (turnL l k)[i]? = l[(k + i) % l.length]? := by
  unfold turnL
  by_cases h : i < l.length - k
  · rw [List.getElem?_append_left (by rw [List.length_drop]; exact h), List.getElem?_drop, Nat.mod_eq_of_lt (by omega)]
  · rw [List.getElem?_append_right (by rw [List.length_drop]; omega), List.length_drop, List.getElem?_take_of_lt (by omega)]
    congr 1
    rw [Nat.mod_eq_sub_mod (by omega), Nat.mod_eq_of_lt (by omega)]
    omega
theorem turn_turn {l : List Int} {a b : Nat} (ha : a < l.length) (hb : b < l.length) : turnL (turnL l a) b = turnL l ((a + b) % l.length) := by
  refine List.ext_getElem? fun i => ?_
  by_cases hi : i < l.length
  · rw [turn_get (by rw [turn_len]; exact hb) (by rw [turn_len]; exact hi), turn_len, turn_get ha (Nat.mod_lt _ (by omega)), turn_get (Nat.mod_lt _ (by omega)) hi]
    congr 1
    rw [Nat.add_mod_mod, Nat.mod_add_mod, Nat.add_assoc]
  · rw [List.getElem?_eq_none (by rw [turn_len, turn_len]; omega), List.getElem?_eq_none (by rw [turn_len]; omega)]
theorem fm_add {a b : Int} {n : Nat} (h : 1 ≤ n) : ((a.fmod (n : Int)).toNat + (b.fmod (n : Int)).toNat) % n = ((a + b).fmod (n : Int)).toNat := by
  rw [fm h, fm h, fm h]
  have a0 := Int.emod_nonneg a (show (n : Int) ≠ 0 by omega)
  have b0 := Int.emod_nonneg b (show (n : Int) ≠ 0 by omega)
  have c0 := Int.emod_nonneg (a + b) (show (n : Int) ≠ 0 by omega)
  have e : ((((a % (n : Int)).toNat + (b % (n : Int)).toNat) % n : Nat) : Int) = (a + b) % (n : Int) := by
    rw [Int.natCast_emod, Int.natCast_add, Int.toNat_of_nonneg a0, Int.toNat_of_nonneg b0, ← Int.add_emod]
  omega
theorem hAt_turn {l : List Int} (a t : Int) (h : 1 ≤ l.length) : hAt (turnL l (a.fmod (l.length : Int)).toNat) t = hAt l (a + t) := by
  unfold hAt
  rw [turn_len, List.getD_eq_getElem?_getD, List.getD_eq_getElem?_getD, turn_get (fm_lt h) (fm_lt h), fm_add h]
theorem hd_lat {ls : List (List Int)} (a t : Int) (h : ∀ l ∈ ls, 1 ≤ l.length) : hd (lat ls a) t = hd ls (a + t) := by
  unfold hd lat
  rw [List.map_map]
  congr 1
  exact List.map_congr_left fun l hl => hAt_turn a t (h l hl)
theorem lat_lat {ls : List (List Int)} (a b : Int) (h : ∀ l ∈ ls, 1 ≤ l.length) : lat (lat ls a) b = lat ls (a + b) := by
  unfold lat
  rw [List.map_map]
  refine List.map_congr_left fun l hl => ?_
  show turnL (turnL l (a.fmod (l.length : Int)).toNat) (b.fmod ((turnL l (a.fmod (l.length : Int)).toNat).length : Int)).toNat = _
  rw [turn_len, turn_turn (fm_lt (h l hl)) (fm_lt (h l hl)), fm_add (h l hl)]
theorem lat_id {ls : List (List Int)} (a : Int) (h : ∀ l ∈ ls, 1 ≤ l.length ∧ a % (l.length : Int) = 0) : lat ls a = ls := by
  unfold lat
  have e : ls.map (fun l => turnL l (a.fmod (l.length : Int)).toNat) = ls.map fun l => l := by
    refine List.map_congr_left fun l hl => ?_
    rw [fm (h l hl).1, (h l hl).2]
    show l.drop 0 ++ l.take 0 = l
    rw [List.drop_zero, List.take_zero, List.append_nil]
  rw [e, List.map_id']
theorem lat_ok {ls : List (List Int)} (a : Int) (h : OkL ls) : OkL (lat ls a) := by
  refine ⟨by unfold lat; rw [List.length_map]; exact h.1, fun l hl => ?_⟩
  obtain ⟨l', hl', rfl⟩ := List.mem_map.mp hl
  rw [turn_len]
  exact h.2 l' hl'
theorem lat_nb {ls : List (List Int)} (a : Int) (h : NBL ls) : NBL (lat ls a) := fun l hl z hz => by
  obtain ⟨l', hl', rfl⟩ := List.mem_map.mp hl
  unfold turnL at hz
  rcases List.mem_append.mp hz with q | q
  · exact h l' hl' z (List.mem_of_mem_drop q)
  · exact h l' hl' z (List.mem_of_mem_take q)
theorem lens_lat (ls : List (List Int)) (a : Int) : lensI (lat ls a) = lensI ls := by
  unfold lensI lat
  rw [List.map_map]
  exact List.map_congr_left fun l _ => by rw [Function.comp, turn_len]
theorem hrow_lat {ls : List (List Int)} (a t : Int) (n : Nat) (h : ∀ l ∈ ls, 1 ≤ l.length) : hrow (lat ls a) t n = hrow ls (a + t) n := by
  unfold hrow
  refine List.map_congr_left fun i _ => ?_
  rw [hd_lat a _ h, Int.add_assoc]
/-- two tuples of data, one behind the other -/
theorem rd_cat {K : PySem.W.Frag} {H : Hp} {v u : V} {ds es : List PyData} {Q : VK} (h1 : Dp K H v (.tuple ds)) (h2 : Dp K H u (.tuple es)) (hz : ds.length + es.length ≤ sizeLine)
    (k : ∀ w H', Same H H' → Dp K H' w (.tuple (ds ++ es)) → Q w H') : rCatA K v u H Q := by
  obtain ⟨a, xs, rfl, hT, hX⟩ := h1.tuple
  obtain ⟨b, ys, rfl, hU, hY⟩ := h2.tuple
  have l1 := hX.len
  have l2 := hY.len
  refine ⟨a, b, xs, ys, rfl, rfl, hT, hU, by rw [l1, l2]; exact hz, fun e => ?_, fun _ e => ?_, fun _ _ p hp => ?_⟩
  · subst e
    cases hX
    exact k _ H (Same.refl H) (.tup hU hY)
  · subst e
    cases hY
    rw [List.append_nil] at k
    exact k _ H (Same.refl H) (.tup hT hX)
  · exact k _ _ (same_upd hp _) (.tup (SqT.of upd_same) (DpAll.same (same_upd hp _) _ _ (hX.app hY)))
theorem cutD_from {α : Type} (f : α → PyData) (xs : List α) {i : Int} (h : 0 ≤ i) (h2 : i ≤ (xs.length : Int)) : cutD (xs.map f) (some i) none = (xs.drop i.toNat).map f := by
  have e : i = ((i.toNat : Nat) : Int) := by omega
  rw [e]
  unfold L2.cutD
  rw [HT.sIx_none, HT.sIx_nat, List.length_map, Int.toNat_natCast, Nat.min_eq_left (by omega), ← List.map_drop]
  rw [List.take_of_length_le (by rw [List.length_map, List.length_drop]; omega)]
theorem cutD_to {α : Type} (f : α → PyData) (xs : List α) {i : Int} (h : 0 ≤ i) : cutD (xs.map f) none (some i) = (xs.take i.toNat).map f := by
  have e : i = ((i.toNat : Nat) : Int) := by omega
  rw [e, cutD_map, Int.toNat_natCast]
end My

/-! A tuple times any int; a tuple compared with the empty one. -/
namespace L2
open PySem PySem.Spec PyProof.Rows
section
theorem my_mul_same (l : Addr) (items : Array Value) (n : Nat) (dd : Option Addr) (sl : Array (Option Value)) (x : Int) (u : Tok)
    (c0 : (decide (x < -(2 ^ 63)) || decide (x ≥ 2 ^ 63)) = false) (c1 : (items.isEmpty || x == 1) = true) :
    Meets (Builtin.«tuple.__mul__» ⟨[.ref l, .int x u], []⟩) (fun _ R s =>
      s.heap.get? l = some { cls := .type "tuple", dict := dd, data := .seq items n, slots := sl } ∧ R (.ok (.ret (Value.ref l))) s) :=
  .of_wp fun prog w A R s h => by
    obtain ⟨hp, g, d, tk, os⟩ := s
    obtain ⟨hl, h⟩ := h
    have f1 := AutoSeq1.idx_int
    have c1' := c1
    wp_walk using wpAny_loadPart' hl
    refine wpAny_ite_false (decide_eq_false (by rw [c0]; exact Bool.false_ne_true)) ?_
    wp_walk using wpAny_loadPart' hl
    exact ⟨_, rfl, h⟩
theorem my_mul_none (l : Addr) (items : Array Value) (n : Nat) (dd : Option Addr) (sl : Array (Option Value)) (x : Int) (u : Tok)
    (c0 : (decide (x < -(2 ^ 63)) || decide (x ≥ 2 ^ 63)) = false) (c1 : (items.isEmpty || x == 1) = false) (c2 : (decide (x ≤ 0) || items.isEmpty) = true) :
    Meets (Builtin.«tuple.__mul__» ⟨[.ref l, .int x u], []⟩) (fun _ R s =>
      s.heap.get? l = some { cls := .type "tuple", dict := dd, data := .seq items n, slots := sl } ∧
      R (.ok (.ret (Value.ref s.heap.objs.size))) { s with heap := s.heap.push { cls := Value.type "tuple", data := Data.seq #[] } }) :=
  .of_wp fun prog w A R s h => by
    obtain ⟨hp, g, d, tk, os⟩ := s
    obtain ⟨hl, h⟩ := h
    have f1 := AutoSeq1.idx_int
    wp_walk using wpAny_loadPart' hl
    repeat (first
      | exact ⟨_, rfl, h⟩
      | (refine wpAny_ite_false (decide_eq_false (by rw [c0]; decide)) ?_; wp_walk using wpAny_loadPart' hl)
      | (refine wpAny_ite_false (decide_eq_false (by rw [c1]; decide)) ?_; wp_walk using wpAny_loadPart' hl)
      | (refine wpAny_ite_true (decide_eq_true c2) ?_; wp_walk using wpAny_loadPart' hl))
end
/-- t * k, any t, any k -/
def rRepA (K : PySem.W.Frag) : R2 := fun x y H Q => ∃ l k xs, x = .ref l ∧ y = .int k ∧ SqT K H l xs ∧ -1000 ≤ k ∧ k ≤ 1000 ∧ xs.length ≤ 1000 ∧
  ((xs = [] ∨ k = 1) → Q (.ref l) H) ∧ (¬ (xs = [] ∨ k = 1) → ∀ p, H p = none → Q (.ref p) (upd H p (.tup (List.replicate k.toNat xs).flatten)))
theorem op_repA {X : Cx} {K : PySem.W.Frag} (e : X.K = K := by rfl) : OpR X (binaryOp .Mult) (rRepA K) := by
  subst e
  intro pins s σ H x y v u Q I rx ry h
  obtain ⟨l, k, xs, rfl, rfl, hT, h1, h2, hz, q0, q1⟩ := h
  by_cases same : xs = [] ∨ k = 1
  · have q := q0 same
    cases rx
    obtain ⟨t, rfl⟩ := ry
    obtain ⟨its, r, ⟨⟨cls, dd, data, sl⟩, ho, hc, n, hd⟩, hs⟩ := I.tuple hT
    simp only at hc hd
    subst hc hd
    have c0 : (decide (k < -(2 ^ 63)) || decide (k ≥ 2 ^ 63)) = false := by
      rw [decide_eq_false (by omega), decide_eq_false (by omega)]
      rfl
    have c1 : (its.toArray.isEmpty || k == 1) = true := by
      rcases same with e | e
      · subst e
        cases r
        rfl
      · subst e
        simp
    refine wpAny_binaryOp_repeat_ref (T := "tuple") (U := "int") (by decide) ⟨_, ho, rfl⟩ (fun s' => typeIs_int s' k t) noFill_tuple_mul F.fills_int_mul F.slot_int_rmul repeat_tuple F.slot_int_index.lookup
      (call_meets F.slot_int_rmul (typeIs_int s k t) F.entry_int_rmul (F.args_int_rmul_2 _ _) (int_rmul_tuple k t l its.toArray n dd sl) ⟨ho, rfl, ⟨_, ho, rfl⟩, ?_⟩)
    exact call_meets F.slot_tuple_mul ⟨_, ho, rfl⟩ F.entry_tuple_mul (F.args_tuple_mul_2 _ _) (my_mul_same l its.toArray n dd sl k t c0 c1) ⟨ho, .ref l, H, I, rfl, q⟩
  · have q := q1 same
    have hne : xs ≠ [] := fun z => same (.inl z)
    by_cases h3 : 2 ≤ k
    · exact op_repT pins s σ H (.ref l) (.int k) v u Q I rx ry ⟨l, k, xs, rfl, rfl, hT, hne, h3, h2, hz, q⟩
    · cases rx
      obtain ⟨t, rfl⟩ := ry
      obtain ⟨its, r, ⟨⟨cls, dd, data, sl⟩, ho, hc, n, hd⟩, hs⟩ := I.tuple hT
      simp only at hc hd
      subst hc hd
      have k0 : k ≤ 0 := by
        have : k ≠ 1 := fun z => same (.inr z)
        omega
      have c0 : (decide (k < -(2 ^ 63)) || decide (k ≥ 2 ^ 63)) = false := by
        rw [decide_eq_false (by omega), decide_eq_false (by omega)]
        rfl
      have c1 : (its.toArray.isEmpty || k == 1) = false := by
        have e1 : its.toArray.isEmpty = false := by
          cases r with
          | nil => exact absurd rfl hne
          | cons _ _ => rfl
        rw [e1, Bool.false_or]
        exact beq_eq_false_iff_ne.mpr (by omega)
      have c2 : (decide (k ≤ 0) || its.toArray.isEmpty) = true := by
        rw [decide_eq_true k0]
        rfl
      have ek : k.toNat = 0 := by omega
      rw [ek] at q
      refine wpAny_binaryOp_repeat_ref (T := "tuple") (U := "int") (by decide) ⟨_, ho, rfl⟩ (fun s' => typeIs_int s' k t) noFill_tuple_mul F.fills_int_mul F.slot_int_rmul repeat_tuple F.slot_int_index.lookup
        (call_meets F.slot_int_rmul (typeIs_int s k t) F.entry_int_rmul (F.args_int_rmul_2 _ _) (int_rmul_tuple k t l its.toArray n dd sl) ⟨ho, rfl, ⟨_, ho, rfl⟩, ?_⟩)
      refine call_meets F.slot_tuple_mul ⟨_, ho, rfl⟩ F.entry_tuple_mul (F.args_tuple_mul_2 _ _) (my_mul_none l its.toArray n dd sl k t c0 c1 c2) ⟨ho, ?_⟩
      have J : Inv X pins σ (upd H s.heap.objs.size (.tup [])) { s with heap := s.heap.push { cls := .type "tuple", data := .seq #[] } } :=
        I.laid (t' := s.toks) (fun b ob z => Heap.get?_push_of_some _ z) (Nat.le_refl _) ⟨Nat.zero_le _, [], .nil, IsTup.new _ _⟩
      exact ⟨.ref s.heap.objs.size, _, J, rfl, q _ (I.hok.fresh (Nat.le_refl _))⟩
end L2

/-! Own errors with one field; things of many kinds. -/
namespace L2
open PySem PySem.Spec PyProof.Rows
/-! ### t == () -/
def rEqT0 (K : PySem.W.Frag) : R2 := fun x y H Q => ∃ a b xs, x = .ref a ∧ y = .ref b ∧ SqT K H a xs ∧ SqT K H b [] ∧ Q (.bl xs.isEmpty) H
theorem op_eqT0 {X : Cx} {K : PySem.W.Frag} (hu : X.A.units + 64 < cLine) (ek : X.K = K := by rfl) : OpR X (compareOp .Eq) (rEqT0 K) := by
  subst ek
  intro pins s σ H x y v u Q I rx ry h
  obtain ⟨a, b, xs, rfl, rfl, ha, hb, q⟩ := h
  cases rx
  cases ry
  obtain ⟨us, r1, p1, z1⟩ := I.tuple ha
  obtain ⟨ws, r2, p2, z2⟩ := I.tuple hb
  have t1 : s.heap.IsTuple a us.toArray := p1
  have t2 : s.heap.IsTuple b ws.toArray := p2
  have l1 := r1.length
  cases r2
  have go := SeqAt.RcAt.tuples (A := X.A) (e := fun _ => true) t1 t2 (by omega) (fun j _ h2 => absurd h2 (by simp))
  refine go X.prog X.w _ _ ⟨.bl _, H, I, ?_, q⟩
  show Value.bool _ = Value.bool _
  cases xs with
  | nil =>
    cases r1
    rfl
  | cons x r =>
    cases r1
    rfl
/-! ### (a, b) = t, the written part named -/
theorem k_pgt {X : Cx} {K : PySem.W.Frag} {es : List Expr} {k : Nat} {t : TGs} {n : Nat} {pos : Pos} (hc : X.calm = true) (h : PGs X es t)
    (hn : (assignEach es X.env).length = n := by rfl) (hst : (assignEach es X.env).findIdx? (·.1) = none := by rfl)
    (e : X.K = K := by rfl) : PG X (.Tuple es k pos) (gTup K n t) := by
  subst e
  exact pg_tup hc h hn hst
/-! ### repr of data, of None and ints too -/
def TellsA (d : PyData) : Prop := Tells d ∨ d = .none ∨ ∃ i : Int, d = .int i ∧ i.natAbs.log2 < 1920
def rReprA (K : PySem.W.Frag) : List V → Hp → VK → Prop := fun xs H Q => ∃ x d, xs = [x] ∧ Dp K H x d ∧ TellsA d ∧ Q (.str d.shown) H
theorem k_reprA {X : Cx} {K : PySem.W.Frag} (hu : X.A.units + 64 < cLine) (hg : X.A.guards = some []) (e : X.K = K := by rfl) : CallR X (.builtin "repr") (rReprA K) := by
  intro pins s σ H xs us Q I r h
  obtain ⟨x, d, rfl, hd, ht, q⟩ := h
  rcases ht with ht | rfl | ⟨i, rfl, hi⟩
  · exact k_repr hu hg e pins s σ H [x] us Q I r ⟨x, d, rfl, hd, ht, q⟩
  · obtain ⟨u, rfl, ru⟩ := vals1 r
    cases hd
    cases ru
    exact PySem.P.repr_of_none ⟨.str _, H, I.tok _, ⟨_, rfl⟩, q⟩
  · obtain ⟨u, rfl, ru⟩ := vals1 r
    cases hd
    obtain ⟨t, rfl⟩ := ru
    exact PySem.P.repr_of_int hi ⟨.str _, H, I.tok _, ⟨_, rfl⟩, q⟩
end L2
namespace My
open PySem PySem.Spec PyProof.Rows L2
/-! ### an own error whose __init__ keeps its one argument -/
def sp_exc (C : Addr) (fld : Str) : Sp := fun vs H Q _ => ∃ (a : Addr) (w : V), vs = [.ref a, w] ∧ H a = some (exo a C none) ∧
  ∀ dx, H dx = none → dx ≠ a → Q .non (upd (upd H dx (exd dx [(fld, w)])) a (exo a C (some dx)))
structure ExcT (K : PySem.W.Frag) (mg : Str → Option Value) (name qual fld : Str) (st : Stmt) where
  C : Addr
  f : Addr
  d : FuncData
  m : mg name = some (.ref C)
  ox : OexC K C
  iC : PySem.W.findIn K (.ref C) "__init__" = some (some (.ref f))
  tI : PySem.W.typeIn K (.ref f) = some (.type "function")
  F : Fun K "__init__" qual st f d
  b : Binds K d ["self", fld] []
  nf : PySem.W.findIn K (.ref C) fld = some none
  xf : XfC K C
  te : PySem.W.exmOne K (.ref C) (.ref C) = some true
theorem exm_me {K : PySem.W.Frag} {C : Addr} (h1 : PySem.W.subIn K (.ref C) (.type "BaseException") = some true) (h2 : PySem.W.isClsIn K C = true)
    (h3 : PySem.W.typeIn K (.ref C) = some (.type "type")) (h4 : PySem.W.subIn K (.ref C) (.ref C) = some true) : PySem.W.exmOne K (.ref C) (.ref C) = some true := by
  have h2' : (PySem.W.clsIn K C).isSome = true := h2
  simp [PySem.W.exmOne, PySem.W.kitCls, h1, h2', h3, h4]
/-- what the top has written of such a class -/
def exc_mk {K : PySem.W.Frag} {h : Heap} {mg : Str → Option Value} {name qual fld : Str} {st : Stmt} (X : K.In h) (G : h.Ns mainGlobals mg) {C f : Addr} {d : FuncData} {nm q : Str} {N : Addr} {bs : List Value} {sn : List Str} {sub : List Value}
    {ab : Bool} {col : Option Bool} {dd : Option Addr} {m0 m1 m2 m3 m5 : Option Value} (F : Fun K "__init__" qual st f d) (b : Binds K d ["self", fld] [])
    (aC : PySem.W.nsIn K mainGlobals name = some (some (.ref C)))
    (xL : K.lookup C = some (excClassObj nm q C N bs [.type "ValueError", .type "Exception", .type "BaseException", .type "object"] true sn sub ab col dd m0 m1 m2 m3 m5 "ValueError.__new__"))
    (sa : PySem.W.findIn K (.ref C) "__setattr__" = some (some (.builtin "object.__setattr__")))
    (ga : PySem.W.findIn K (.ref C) "__getattribute__" = some (some (.builtin "BaseException.__getattribute__")))
    (gg : PySem.W.findIn K (.ref C) "__getattr__" = some none) (nb : PySem.W.findIn K (.ref C) fld = some none)
    (a1 : PySem.W.findIn K (.ref C) "__init__" = some (some (.ref f))) (t1 : PySem.W.typeIn K (.ref f) = some (.type "function"))
    (kC : PySem.W.keepIn K (.ref C) = true) (eC : PySem.W.subIn K (.ref C) (.type "BaseException") = some true) (tC : PySem.W.typeIn K (.ref C) = some (.type "type"))
    (hC : PySem.W.hasDictIn K C = true) (iC : PySem.W.isClsIn K C = true) (sC : PySem.W.subIn K (.ref C) (.ref C) = some true) : ExcT K mg name qual fld st where
  C := C
  f := f
  d := d
  m := PySem.W.mg_of X G aC
  ox := ⟨⟨nm, q, N, bs, _, sn, sub, ab, col, dd, m0, m1, m2, m3, m5, xL, by decide +kernel⟩, sa, eC, tC, kC⟩
  iC := a1
  tI := t1
  F := F
  b := b
  nf := nb
  xf := ⟨ga, gg, eC, hC⟩
  te := exm_me eC iC tC sC
/-- such an error made: what its maker wants -/
theorem exc_made {C : Addr} {fld : Str} {w : V} {H : Hp} {Q : XK} (k : ∀ d H', Same H H' → H' d = some (.xd [(fld, w)]) → Q (.ref C) (some d) H') :
    ∀ a, H a = none → sp_exc C fld (.ref a :: ([w] ++ [])) (upd H a (exo a C none)) (fun v H2 => v = .non ∧ ∃ (d : Addr) (fs : List (Str × V)),
      H2 a = some (exo a C (some d)) ∧ H2 d = some (exd d fs) ∧ H d = none ∧ Q (.ref C) (some d) (upd (del H2 a) d (.xd fs))) (fun _ _ _ => False) := by
  intro a ha
  refine ⟨a, w, rfl, upd_same, fun dx hdx hne => ⟨rfl, dx, [(fld, w)], upd_same, by rw [upd_ne hne, upd_same], ?_, ?_⟩⟩
  · rw [upd_ne hne] at hdx
    exact hdx
  · rw [upd_ne hne] at hdx
    refine k dx _ (fun b o q => ?_) upd_same
    have b1 := ne_of_none q ha
    have b2 := ne_of_none q hdx
    rw [upd_ne b2, del_ne b1, upd_ne b1, upd_ne b2, upd_ne b1]
    exact q
/-! ### things of many kinds -/
inductive Dt where
  | int (i : Int)
  | oth (n : String)
  | tup (ds : List Dt)
def tyOf : Dt → String
  | .int _ => "int"
  | .oth n => n
  | .tup _ => "tuple"
mutual
/-- v is a thing d; lists and dicts in it lie at allowed places -/
inductive Rp (K : PySem.W.Frag) (H : Hp) (ok : Addr → Prop) : V → Dt → Prop
  | int (i : Int) (h : i.natAbs < 10 ^ 40) : Rp K H ok (.int i) (.int i)
  | bl (b : Bool) : Rp K H ok (.bl b) (.oth "bool")
  | non : Rp K H ok .non (.oth "NoneType")
  | str (x : Str) : Rp K H ok (.str x) (.oth "str")
  | lst {a : Addr} {xs : List V} (h : H a = some (.lst xs)) (ho : ok a) : Rp K H ok (.ref a) (.oth "list")
  | dct {a : Addr} {kvs : List (Key × V)} (h : H a = some (.dK kvs)) (ho : ok a) : Rp K H ok (.ref a) (.oth "dict")
  | tup {a : Addr} {xs : List V} {ds : List Dt} (h : SqT K H a xs) (hx : RpAll K H ok xs ds) : Rp K H ok (.ref a) (.tup ds)
inductive RpAll (K : PySem.W.Frag) (H : Hp) (ok : Addr → Prop) : List V → List Dt → Prop
  | nil : RpAll K H ok [] []
  | cons {v : V} {vs : List V} {d : Dt} {ds : List Dt} (h : Rp K H ok v d) (r : RpAll K H ok vs ds) : RpAll K H ok (v :: vs) (d :: ds)
end
variable {K : PySem.W.Frag} {H H' : Hp} {ok ok' : Addr → Prop}
mutual
theorem Rp.keep (tk : TK K H H') (kp : ∀ a o, ok a → H a = some o → H' a = some o) (oo : ∀ a o, H a = some o → ok a → ok' a) : ∀ (d : Dt) (v : V), Rp K H ok v d → Rp K H' ok' v d
  | .int i, _, h => by
    cases h with
    | int _ h => exact .int i h
  | .oth _, _, h => by
    cases h with
    | bl b => exact .bl b
    | non => exact .non
    | str x => exact .str x
    | lst h ho => exact .lst (kp _ _ ho h) (oo _ _ h ho)
    | dct h ho => exact .dct (kp _ _ ho h) (oo _ _ h ho)
  | .tup ds, _, h => by
    cases h with
    | tup h hx => exact .tup (tk _ _ h) (RpAll.keep tk kp oo ds _ hx)
theorem RpAll.keep (tk : TK K H H') (kp : ∀ a o, ok a → H a = some o → H' a = some o) (oo : ∀ a o, H a = some o → ok a → ok' a) : ∀ (ds : List Dt) (vs : List V), RpAll K H ok vs ds → RpAll K H' ok' vs ds
  | [], _, h => by
    cases h
    exact .nil
  | d :: r, _, h => by
    cases h with
    | cons h1 h2 => exact .cons (Rp.keep tk kp oo d _ h1) (RpAll.keep tk kp oo r _ h2)
end
theorem Rp.same {v : V} {d : Dt} (h : Rp K H ok v d) (e : Same H H') : Rp K H' ok v d := Rp.keep (Same.tk e) (fun a o _ q => e a o q) (fun _ _ _ q => q) d v h
theorem RpAll.same {vs : List V} {ds : List Dt} (h : RpAll K H ok vs ds) (e : Same H H') : RpAll K H' ok vs ds := RpAll.keep (Same.tk e) (fun a o _ q => e a o q) (fun _ _ _ q => q) ds vs h
theorem Rp.any {v : V} {d : Dt} (h : Rp K H ok v d) : Rp K H (fun _ => True) v d := Rp.keep TK.refl (fun _ _ _ q => q) (fun _ _ _ _ => trivial) d v h
theorem RpAll.len : ∀ {vs : List V} {ds : List Dt}, RpAll K H ok vs ds → vs.length = ds.length
  | _, _, .nil => rfl
  | _, _, .cons _ h => by simp [RpAll.len h]
theorem RpAll.get : ∀ {vs : List V} {ds : List Dt} {i : Nat} {v : V}, RpAll K H ok vs ds → vs[i]? = some v → ∃ d, ds[i]? = some d ∧ Rp K H ok v d
  | _, _, _, _, .nil, h => by cases h
  | _, _, 0, _, .cons h1 _, h => by
    cases h
    exact ⟨_, rfl, h1⟩
  | _, _, i + 1, _, .cons _ h2, h => RpAll.get (i := i) h2 h
theorem RpAll.app : ∀ {vs us : List V} {ds es : List Dt}, RpAll K H ok vs ds → RpAll K H ok us es → RpAll K H ok (vs ++ us) (ds ++ es)
  | _, _, _, _, .nil, h => h
  | _, _, _, _, .cons h1 h2, h => .cons h1 (RpAll.app h2 h)
theorem RpAll.take : ∀ {vs : List V} {ds : List Dt} (n : Nat), RpAll K H ok vs ds → RpAll K H ok (vs.take n) (ds.take n)
  | _, _, 0, _ => .nil
  | _, _, _ + 1, .nil => .nil
  | _, _, n + 1, .cons h1 h => .cons h1 (RpAll.take n h)
theorem RpAll.drop : ∀ {vs : List V} {ds : List Dt} (n : Nat), RpAll K H ok vs ds → RpAll K H ok (vs.drop n) (ds.drop n)
  | _, _, 0, h => h
  | _, _, _ + 1, .nil => .nil
  | _, _, n + 1, .cons _ h => RpAll.drop n h
theorem RpAll.rep {vs : List V} {ds : List Dt} (h : RpAll K H ok vs ds) : ∀ k : Nat, RpAll K H ok (List.replicate k vs).flatten (List.replicate k ds).flatten
  | 0 => .nil
  | k + 1 => by
    rw [List.replicate_succ, List.replicate_succ, List.flatten_cons, List.flatten_cons]
    exact h.app (RpAll.rep h k)
theorem Rp.ty {v : V} {d : Dt} (h : Rp K H ok v d) : TyX K H v (.type (tyOf d)) := by
  cases h with
  | int i _ => exact .base (.int i)
  | bl b => exact .base (.bl b)
  | non => exact .base .non
  | str x => exact .base (.str x)
  | lst h _ => exact .base (.lst h)
  | dct h _ => exact .base (.dK h)
  | tup h _ => exact h.ty
def isTup : Dt → Bool
  | .tup _ => true
  | _ => false
def isNum : Dt → Bool
  | .int _ => true
  | _ => false
theorem Rp.kitTup {v : V} {d : Dt} (h : Rp K H ok v d) : PySem.W.kitOne K (.type (tyOf d)) (.type "tuple") = some (isTup d) := by
  cases h
  · exact (kit_ty (a := "int") (b := "tuple") (r := false) (by decide +kernel))
  · exact (kit_ty (a := "bool") (b := "tuple") (r := false) (by decide +kernel))
  · exact (kit_ty (a := "NoneType") (b := "tuple") (r := false) (by decide +kernel))
  · exact (kit_ty (a := "str") (b := "tuple") (r := false) (by decide +kernel))
  · exact (kit_ty (a := "list") (b := "tuple") (r := false) (by decide +kernel))
  · exact (kit_ty (a := "dict") (b := "tuple") (r := false) (by decide +kernel))
  · exact (kit_ty (a := "tuple") (b := "tuple") (r := true) (by decide +kernel))
theorem Rp.kitInt {v : V} {d : Dt} (h : Rp K H ok v d) : ∃ b1 b2, PySem.W.kitOne K (.type (tyOf d)) (.type "int") = some b1 ∧ PySem.W.kitOne K (.type (tyOf d)) (.type "bool") = some b2 ∧ (b1 && !b2) = isNum d := by
  cases h
  · exact ⟨true, false, (kit_ty (a := "int") (b := "int") (by decide +kernel)), (kit_ty (a := "int") (b := "bool") (by decide +kernel)), rfl⟩
  · exact ⟨true, true, (kit_ty (a := "bool") (b := "int") (by decide +kernel)), (kit_ty (a := "bool") (b := "bool") (by decide +kernel)), rfl⟩
  · exact ⟨false, false, (kit_ty (a := "NoneType") (b := "int") (by decide +kernel)), (kit_ty (a := "NoneType") (b := "bool") (by decide +kernel)), rfl⟩
  · exact ⟨false, false, (kit_ty (a := "str") (b := "int") (by decide +kernel)), (kit_ty (a := "str") (b := "bool") (by decide +kernel)), rfl⟩
  · exact ⟨false, false, (kit_ty (a := "list") (b := "int") (by decide +kernel)), (kit_ty (a := "list") (b := "bool") (by decide +kernel)), rfl⟩
  · exact ⟨false, false, (kit_ty (a := "dict") (b := "int") (by decide +kernel)), (kit_ty (a := "dict") (b := "bool") (by decide +kernel)), rfl⟩
  · exact ⟨false, false, (kit_ty (a := "tuple") (b := "int") (by decide +kernel)), (kit_ty (a := "tuple") (b := "bool") (by decide +kernel)), rfl⟩
theorem Rp.tuple {v : V} {ds : List Dt} (h : Rp K H ok v (.tup ds)) : ∃ a xs, v = .ref a ∧ SqT K H a xs ∧ RpAll K H ok xs ds := by
  cases h with
  | tup h hx => exact ⟨_, _, rfl, h, hx⟩
/-! ### what is wrong of things -/
def badLoop : Dt → Bool
  | .tup ds => !(decide (1 ≤ ds.length) && decide (ds.length ≤ 64))
  | _ => true
def badNum (d : Dt) : Bool := !isNum d
def firstBad : Dt → Option Nat
  | .tup xs => xs.findIdx? badNum
  | _ => none
def faultOf : Dt → Option (List Nat)
  | .tup ds => if 6 < ds.length then some [] else match ds.findIdx? badLoop with
    | some k => some [k]
    | none => match ds.findIdx? (fun d => (firstBad d).isSome) with
      | some k => some [k, ((ds[k]?).bind firstBad).getD 0]
      | none => none
  | _ => some []
theorem fi_some {p : Dt → Bool} : ∀ {xs : List Dt} {i : Nat} {x : Dt}, xs[i]? = some x → p x = true → (∀ (j : Nat) (y : Dt), j < i → xs[j]? = some y → p y = false) → xs.findIdx? p = some i
  | [], i, x, h, _, _ => by simp at h
  | a :: r, 0, x, h, hp, _ => by
    simp at h
    subst h
    simp [List.findIdx?_cons, hp]
  | a :: r, i + 1, x, h, hp, hb => by
    have h0 := hb 0 a (Nat.succ_pos i) rfl
    have ih := fi_some (p := p) (xs := r) (i := i) (x := x) h hp fun j y hj hy => hb (j + 1) y (Nat.succ_lt_succ hj) hy
    simp [List.findIdx?_cons, h0, ih]
theorem fi_none {p : Dt → Bool} : ∀ {xs : List Dt}, (∀ (j : Nat) (y : Dt), xs[j]? = some y → p y = false) → xs.findIdx? p = none
  | [], _ => rfl
  | a :: r, hb => by
    have h0 := hb 0 a rfl
    have ih := fi_none (p := p) (xs := r) fun j y hy => hb (j + 1) y hy
    simp [List.findIdx?_cons, h0, ih]
abbrev placeD (p : List Nat) : PyData := dInts (p.map fun n : Nat => (n : Int))
/-! ### things cut and put together -/
def cutT (ds : List Dt) (lo hi : Option Int) : List Dt := (ds.drop (HT.sIx ds.length 0 lo)).take (HT.sIx ds.length ds.length hi - HT.sIx ds.length 0 lo)
theorem rd_cutR {v : V} {ds : List Dt} {lo hi : Option Int} {Q : VK} (h : Rp K H ok v (.tup ds)) (k : ∀ w H', Same H H' → Rp K H' ok w (.tup (cutT ds lo hi)) → Q w H') : rSlA K v lo hi H Q := by
  obtain ⟨a, xs, rfl, hT, hX⟩ := h.tuple
  have hl := hX.len
  have hc : RpAll K H ok (cutV xs lo hi) (cutT ds lo hi) := by
    unfold cutV cutT
    rw [← hl]
    exact (hX.drop _).take _
  refine ⟨a, xs, rfl, hT, fun w => ?_, fun _ p hp => ?_⟩
  · refine k _ H (Same.refl H) (.tup hT ?_)
    have e : cutV xs lo hi = xs := by
      unfold cutV
      rw [w.1, w.2, List.drop_zero, Nat.sub_zero, List.take_length]
    rw [e] at hc
    exact hc
  · exact k _ _ (same_upd hp _) (.tup (SqT.of upd_same) (hc.same (same_upd hp _)))
theorem rd_catR {v u : V} {ds es : List Dt} {Q : VK} (h1 : Rp K H ok v (.tup ds)) (h2 : Rp K H ok u (.tup es)) (hz : ds.length + es.length ≤ sizeLine)
    (k : ∀ w H', Same H H' → Rp K H' ok w (.tup (ds ++ es)) → Q w H') : rCatA K v u H Q := by
  obtain ⟨a, xs, rfl, hT, hX⟩ := h1.tuple
  obtain ⟨b, ys, rfl, hU, hY⟩ := h2.tuple
  have l1 := hX.len
  have l2 := hY.len
  refine ⟨a, b, xs, ys, rfl, rfl, hT, hU, by rw [l1, l2]; exact hz, fun e => ?_, fun _ e => ?_, fun _ _ p hp => ?_⟩
  · subst e
    cases hX
    exact k _ H (Same.refl H) (.tup hU hY)
  · subst e
    cases hY
    rw [List.append_nil] at k
    exact k _ H (Same.refl H) (.tup hT hX)
  · exact k _ _ (same_upd hp _) (.tup (SqT.of upd_same) ((hX.app hY).same (same_upd hp _)))
theorem rd_repR {v : V} {ds : List Dt} {n : Int} {Q : VK} (h : Rp K H ok v (.tup ds)) (hz : ds.length ≤ 1000) (h0 : -1000 ≤ n) (h1 : n ≤ 1000)
    (k : ∀ w H', Same H H' → Rp K H' ok w (.tup (List.replicate n.toNat ds).flatten) → Q w H') : rRepA K v (.int n) H Q := by
  obtain ⟨a, xs, rfl, hT, hX⟩ := h.tuple
  have hl := hX.len
  refine ⟨a, n, xs, rfl, rfl, hT, h0, h1, by omega, fun w => ?_, fun _ p hp => ?_⟩
  · refine k _ H (Same.refl H) (.tup hT ?_)
    rcases w with w | w
    · subst w
      cases hX
      have e : (List.replicate n.toNat ([] : List Dt)).flatten = [] := by simp
      rw [e]
      exact .nil
    · subst w
      have e : (List.replicate (1 : Int).toNat ds).flatten = ds := by
        show (List.replicate 1 ds).flatten = ds
        simp
      rw [e]
      exact hX
  · exact k _ _ (same_upd hp _) (.tup (SqT.of upd_same) ((hX.rep _).same (same_upd hp _)))
theorem cutT_to (xs : List Dt) {i : Int} (h : 0 ≤ i) : cutT xs none (some i) = xs.take i.toNat := by
  have e : i = ((i.toNat : Nat) : Int) := by omega
  rw [e]
  unfold cutT
  rw [HT.sIx_none, HT.sIx_nat, List.drop_zero, Nat.sub_zero, Int.toNat_natCast]
  by_cases h : i.toNat ≤ xs.length
  · rw [Nat.min_eq_left h]
  · rw [Nat.min_eq_right (by omega), List.take_length, List.take_of_length_le (by omega)]
theorem cutT_from (xs : List Dt) {i : Int} (h : 0 ≤ i) (h2 : i ≤ (xs.length : Int)) : cutT xs (some i) none = xs.drop i.toNat := by
  have e : i = ((i.toNat : Nat) : Int) := by omega
  rw [e]
  unfold cutT
  rw [HT.sIx_none, HT.sIx_nat, Int.toNat_natCast, Nat.min_eq_left (by omega), List.take_of_length_le (by rw [List.length_drop]; omega)]
/-- a new tuple of things -/
theorem Rp.new {a : Addr} {xs : List V} {ds : List Dt} (hp : H a = none) (h : RpAll K H ok xs ds) : Rp K (upd H a (.tup xs)) ok (.ref a) (.tup ds) := .tup (SqT.of upd_same) (h.same (same_upd hp _))
/-- loops are things -/
def loopsT (ls : List (List Int)) : List Dt := ls.map fun l => .tup (l.map Dt.int)
theorem ints_rp : ∀ {ns : List Int}, (∀ z ∈ ns, z.natAbs < 10 ^ 40) → RpAll K H ok (ns.map V.int) (ns.map Dt.int)
  | [], _ => .nil
  | n :: r, h => .cons (.int n (h n List.mem_cons_self)) (ints_rp fun z hz => h z (List.mem_cons_of_mem _ hz))
theorem loops_rp : ∀ {ls : List (List Int)} {xs : List V}, DpAll K H xs (ls.map dInts) → (∀ l ∈ ls, ∀ z ∈ l, z.natAbs < 10 ^ 40) → RpAll K H ok xs (loopsT ls)
  | [], _, h, _ => by
    cases h
    exact .nil
  | l :: r, _, h, hz => by
    cases h with
    | cons h1 h2 =>
      obtain ⟨a, rfl, hT⟩ := h1.ints
      exact .cons (.tup hT (ints_rp (hz l List.mem_cons_self))) (loops_rp h2 fun l hl => hz l (List.mem_cons_of_mem _ hl))
/-- things that are only ints are ints -/
theorem nums_of : ∀ {ds : List Dt} {xs : List V}, RpAll K H ok xs ds → ds.findIdx? badNum = none → ∃ ns : List Int, xs = ns.map V.int ∧ (∀ z ∈ ns, z.natAbs < 10 ^ 40) ∧ ns.length = ds.length
  | [], _, h, _ => by
    cases h
    exact ⟨[], rfl, (by intro z hz; cases hz), rfl⟩
  | d :: r, _, h, hf => by
    cases h with
    | cons h1 h2 =>
      rw [List.findIdx?_cons] at hf
      cases eb : badNum d with
      | true =>
        rw [eb] at hf
        simp at hf
      | false =>
        rw [eb] at hf
        have hf' : r.findIdx? badNum = none := by
          cases q : r.findIdx? badNum with
          | none => rfl
          | some j =>
            rw [q] at hf
            simp at hf
        obtain ⟨ns, rfl, hz, hl⟩ := nums_of h2 hf'
        cases h1 with
        | int i hi =>
          refine ⟨i :: ns, rfl, ?_, by simp [hl]⟩
          intro z hz'
          rcases List.mem_cons.mp hz' with q | q
          · rw [q]
            exact hi
          · exact hz z q
        | bl b => cases eb
        | non => cases eb
        | str x => cases eb
        | lst _ _ => cases eb
        | dct _ _ => cases eb
        | tup _ _ => cases eb
/-- an if whose test is known in part -/
theorem if_cut {c : TT} {t u w : TS} {D : Ends} {σ : L2.St} {H : Hp} (R : Bool → Hp → Prop) (h : ∀ Q' : Bool → Hp → Prop, (∀ b H', R b H' → Q' b H') → c σ H Q')
    (k1 : ∀ H', R true H' → t { D with nx := w D } σ H') (k2 : ∀ H', R false H' → u { D with nx := w D } σ H') : tSeq (tIfS c t u) w D σ H := by
  refine h _ fun b H' r => ?_
  cases b with
  | true => exact iteT (k1 H' r)
  | false => exact iteF (k2 H' r)
/-- places that are no part of the draws' state -/
abbrev off (H : Hp) (m : Addr) : Addr → Prop := fun a => a ≠ m ∧ ¬ Lf H m a
theorem Rp.ef {K : PySem.W.Frag} {H H' : Hp} {m : Addr} {n : Nat} (M : MS H m n) (e : Ef m H H') {v : V} {d : Dt} (h : Rp K H (off H m) v d) : Rp K H' (off H' m) v d := by
  refine Rp.keep (e.tk M) (fun a o q z => e.keep a o z q.1 q.2) (fun a o z q => ⟨q.1, fun w => ?_⟩) d v h
  rcases e.new a w with r | r
  · exact q.2 r
  · rw [z] at r
    cases r
theorem noLf_same {B H : Hp} {m a : Addr} {n : Nat} (M : MS B m n) (s : Same B H) (q : ¬ Lf B m a) : ¬ Lf H m a := fun w => q (by
  obtain ⟨c, l, M0⟩ := M
  obtain ⟨kvs, k, h1, h2⟩ := w
  rw [s _ _ M0.dk] at h1
  cases h1
  exact ⟨_, k, M0.dk, h2⟩)
/-- from a base, behind steps that only lay new things, and draws -/
theorem RpAll.out {K : PySem.W.Frag} {B H H' : Hp} {m : Addr} {n n' : Nat} (MB : MS B m n) (s : Same B H) (M : MS H m n') (e : Ef m H H') {vs : List V} {ds : List Dt} (h : RpAll K H (off B m) vs ds) : RpAll K H' (off H' m) vs ds := by
  have noL : ∀ a, ¬ Lf B m a → ¬ Lf H m a := fun a q w => q (by
    obtain ⟨c, l, M0⟩ := MB
    obtain ⟨kvs, k, h1, h2⟩ := w
    rw [s _ _ M0.dk] at h1
    cases h1
    exact ⟨_, k, M0.dk, h2⟩)
  refine RpAll.keep (e.tk M) (fun a o q z => e.keep a o z q.1 (noL a q.2)) (fun a o z q => ⟨q.1, fun w => ?_⟩) ds vs h
  rcases e.new a w with r | r
  · exact noL a q.2 r
  · rw [z] at r
    cases r
theorem off_new {B H : Hp} {m p : Addr} {n : Nat} (M : MS B m n) (s : Same B H) (hp : H p = none) : off B m p := by
  have b := s.free hp
  refine ⟨fun z => ?_, M.notLf b⟩
  obtain ⟨c, l, M0⟩ := M
  rw [z, M0.dk] at b
  cases b
theorem pickR {K : PySem.W.Frag} {H : Hp} {ok : Addr → Prop} {vs : List V} {ds : List Dt} {r : Int} (h : RpAll K H ok vs ds) (h0 : 0 ≤ r) (h1 : r < (ds.length : Int)) :
    ∃ v d, atI vs r = some v ∧ d ∈ ds ∧ Rp K H ok v d ∧ vs[r.toNat]? = some v ∧ ds[r.toNat]? = some d := by
  have hl := h.len
  have hr : r.toNat < vs.length := by omega
  obtain ⟨d, hd, hR⟩ := h.get (List.getElem?_eq_getElem hr)
  exact ⟨_, d, at_of (j := r.toNat) (by omega) (List.getElem?_eq_getElem hr), List.mem_of_getElem? hd, hR, List.getElem?_eq_getElem hr, hd⟩
theorem Rp.ef' {K : PySem.W.Frag} {B H : Hp} {m : Addr} {n : Nat} {v : V} {d : Dt} (h : Rp K H (off B m) v d) (M : MS B m n) (s : Same B H) : Rp K H (off H m) v d :=
  Rp.keep TK.refl (fun _ _ _ q => q) (fun a o _ q => ⟨q.1, noLf_same M s q.2⟩) d v h
theorem Rp.keep2 {K : PySem.W.Frag} {B H H' : Hp} {m : Addr} {n : Nat} {v : V} {d : Dt} (h : Rp K H (off B m) v d) (M : MS B m n) (s : Same B H') (s2 : Same H H' := by assumption) : Rp K H' (off H' m) v d :=
  (h.same s2).ef' M s
end My

namespace My
open PySem PySem.Spec PyProof.Rows L2
def sp__law_is_number (K : PySem.W.Frag) : Sp := fun vs H Q _ => ∃ (x : V) (t : Value) (b1 b2 : Bool), vs = [x] ∧ TyX K H x t ∧ PySem.W.kitOne K t (.type "int") = some b1 ∧ PySem.W.kitOne K t (.type "bool") = some b2 ∧ Q (.bl (b1 && !b2)) H
def sp_need_loopsX (K : PySem.W.Frag) (C : Addr) : Sp := fun vs H Q E => ∃ (v : V) (d : Dt), vs = [v] ∧ Rp K H (fun _ => True) v d ∧ (faultOf d = none → ∀ H', Same H H' → Q v H') ∧
  (∀ p, faultOf d = some p → ∀ dd w H', Same H H' → H' dd = some (.xd [("place", w)]) → Dp K H' w (placeD p) → E (.ref C) (some dd) H')
def outD (d : Dt) : PyData := match faultOf d with
  | none => .none
  | some p => .list [placeD p]
def sp__law_outcome (K : PySem.W.Frag) : Sp := fun vs H Q _ => ∃ (v : V) (d : Dt), vs = [v] ∧ Rp K H (fun _ => True) v d ∧ ∀ w H', Same H H' → Dp K H' w (outD d) → Q w H'
def sp__law_fault (K : PySem.W.Frag) : Sp := fun vs H Q _ => ∃ (v : V) (d : Dt), vs = [v] ∧ Rp K H (fun _ => True) v d ∧ ∀ w H', Same H H' → Dp K H' w (outD d) → Q w H'
def sp__law_put (K : PySem.W.Frag) : Sp := fun vs H Q _ => ∃ (ok : Addr → Prop) (v : V) (ds : List Dt) (i : Int) (w : V) (d : Dt), vs = [v, .int i, w] ∧ Rp K H ok v (.tup ds) ∧ 0 ≤ i ∧ i < (ds.length : Int) ∧ ds.length ≤ 1000 ∧ Rp K H ok w d ∧
  ∀ u H', Same H H' → Rp K H' ok u (.tup (ds.take i.toNat ++ [d] ++ ds.drop (i.toNat + 1))) → Q u H'
def Bd (b : Nat) (ds : List Dt) : Prop := ds.length ≤ b ∧ ∀ e ∈ ds, ∀ fs, e = .tup fs → fs.length ≤ 100
theorem Bd.app {b c : Nat} {xs ys : List Dt} (h : Bd b xs) (g : Bd c ys) : Bd (b + c) (xs ++ ys) :=
  ⟨by rw [List.length_append]; have := h.1; have := g.1; omega, fun e he => by
    rcases List.mem_append.mp he with q | q
    · exact h.2 e q
    · exact g.2 e q⟩
theorem Bd.rep {b : Nat} {xs : List Dt} (h : Bd b xs) (k : Nat) : Bd (k * b) (List.replicate k xs).flatten := by
  refine ⟨?_, fun e he => ?_⟩
  · rw [List.length_flatten, List.map_replicate, List.sum_replicate_nat]
    exact Nat.mul_le_mul_left _ h.1
  · obtain ⟨l, hl, he'⟩ := List.mem_flatten.mp he
    rw [List.eq_of_mem_replicate hl] at he'
    exact h.2 e he'
theorem Bd.mono {b c : Nat} {xs : List Dt} (h : Bd b xs) (g : b ≤ c) : Bd c xs := ⟨Nat.le_trans h.1 g, h.2⟩
theorem Bd.one (fs : List Dt) (h : fs.length ≤ 100) : Bd 1 [.tup fs] := ⟨Nat.le_refl _, fun e he gs eg => by
  rw [List.mem_singleton.mp he] at eg
  cases eg
  exact h⟩
theorem Bd.reps (fs : List Dt) (h : fs.length ≤ 100) (k : Nat) : Bd k (List.replicate k (Dt.tup fs)) := ⟨by rw [List.length_replicate]; exact Nat.le_refl _, fun e he gs eg => by
  rw [List.eq_of_mem_replicate he] at eg
  cases eg
  exact h⟩
theorem Bd.put {b : Nat} {xs : List Dt} {d : Dt} (h : Bd b xs) (i : Nat) (hi : i < xs.length) (hd : ∀ fs, d = .tup fs → fs.length ≤ 100) : Bd b (xs.take i ++ [d] ++ xs.drop (i + 1)) := by
  refine ⟨?_, fun e he => ?_⟩
  · rw [List.length_append, List.length_append, List.length_take, List.length_drop]
    have := h.1
    simp
    omega
  · rcases List.mem_append.mp he with q | q
    · rcases List.mem_append.mp q with q | q
      · exact h.2 e (List.mem_of_mem_take q)
      · rw [List.mem_singleton.mp q]
        exact hd
    · exact h.2 e (List.mem_of_mem_drop q)
def sp__law_spoiled (K : PySem.W.Frag) : Sp := fun vs H Q _ => ∃ (m : Addr) (v : V) (ds : List Dt) (n : Nat), vs = [.ref m, v] ∧ MS H m n ∧ Rp K H (off H m) v (.tup ds) ∧ ds.length ≤ 100 ∧ Bd 100 ds ∧ n + 10 ≤ 2 ^ 40 ∧
  ∀ w d n' H', Rp K H' (off H' m) w d → (∀ es, d = .tup es → Bd (7 * ds.length + 14) es) → n' ≤ n + 4 → MS H' m n' → Ef m H H' → Q w H'
theorem fault_eq (ds : List Dt) : faultOf (.tup ds) = if 6 < ds.length then some [] else match ds.findIdx? badLoop with
    | some k => some [k]
    | none => match ds.findIdx? (fun d => (firstBad d).isSome) with
      | some k => some [k, ((ds[k]?).bind firstBad).getD 0]
      | none => none := rfl
theorem fault0 {ds : List Dt} (h6 : ¬ 6 < ds.length) (h1 : ∀ (j : Nat) (y : Dt), ds[j]? = some y → badLoop y = false) (h2 : ∀ (j : Nat) (y : Dt), ds[j]? = some y → firstBad y = none) : faultOf (.tup ds) = none := by
  rw [fault_eq]
  rw [if_neg h6, fi_none h1]
  simp only
  rw [fi_none fun j y hy => by rw [h2 j y hy]; rfl]
theorem fault1 {ds : List Dt} {i : Nat} {x : Dt} (h6 : ¬ 6 < ds.length) (hx : ds[i]? = some x) (hb : badLoop x = true) (h1 : ∀ (j : Nat) (y : Dt), j < i → ds[j]? = some y → badLoop y = false) : faultOf (.tup ds) = some [i] := by
  rw [fault_eq]
  rw [if_neg h6, fi_some hx hb h1]
theorem fault2 {ds : List Dt} {i j : Nat} {x : Dt} (h6 : ¬ 6 < ds.length) (h1 : ∀ (j : Nat) (y : Dt), ds[j]? = some y → badLoop y = false) (hx : ds[i]? = some x) (hb : firstBad x = some j)
    (h2 : ∀ (j : Nat) (y : Dt), j < i → ds[j]? = some y → firstBad y = none) : faultOf (.tup ds) = some [i, j] := by
  rw [fault_eq]
  rw [if_neg h6, fi_none h1]
  simp only
  rw [fi_some hx (by rw [hb]; rfl) fun j y hj hy => by rw [h2 j y hj hy]; rfl]
  simp only
  rw [hx]
  show some [i, ((firstBad x)).getD 0] = _
  rw [hb]
  rfl
theorem fault6 {ds : List Dt} (h6 : 6 < ds.length) : faultOf (.tup ds) = some [] := by
  rw [fault_eq]
  rw [if_pos h6]
theorem valid_all {K : PySem.W.Frag} {H : Hp} {ok : Addr → Prop} : ∀ {ds : List Dt} {xs : List V}, RpAll K H ok xs ds → (∀ d ∈ ds, badLoop d = false ∧ firstBad d = none) →
    ∃ ls : List (List Int), DpAll K H xs (ls.map dInts) ∧ ls.length = ds.length ∧ (∀ l ∈ ls, 1 ≤ l.length ∧ l.length ≤ 64) ∧ ∀ l ∈ ls, ∀ z ∈ l, z.natAbs < 10 ^ 40
  | [], _, h, _ => by
    cases h
    exact ⟨[], .nil, rfl, (by intro l hl; cases hl), (by intro l hl; cases hl)⟩
  | d :: r, _, h, hb => by
    cases h with
    | cons h1 h2 =>
      obtain ⟨ls, q1, q2, q3, q4⟩ := valid_all h2 fun d hd => hb d (List.mem_cons_of_mem _ hd)
      obtain ⟨b1, b2⟩ := hb d List.mem_cons_self
      cases d with
      | int i => cases b1
      | oth n => cases b1
      | tup es =>
        obtain ⟨a, ys, rfl, hT, hX⟩ := h1.tuple
        obtain ⟨ns, rfl, hz, hl⟩ := nums_of hX b2
        have b1' : (!(decide (1 ≤ es.length) && decide (es.length ≤ 64))) = false := b1
        simp at b1'
        refine ⟨ns :: ls, .cons (Dp.ofInts hT) q1, by simp [q2], ?_, ?_⟩
        · intro l hl'
          rcases List.mem_cons.mp hl' with q | q
          · rw [q, hl]
            exact b1'
          · exact q3 l q
        · intro l hl'
          rcases List.mem_cons.mp hl' with q | q
          · rw [q]
            exact hz
          · exact q4 l q
theorem fault_none {ds : List Dt} (h : faultOf (.tup ds) = none) : ds.length ≤ 6 ∧ ∀ d ∈ ds, badLoop d = false ∧ firstBad d = none := by
  rw [fault_eq] at h
  by_cases h6 : 6 < ds.length
  · rw [if_pos h6] at h
    cases h
  rw [if_neg h6] at h
  cases e1 : ds.findIdx? badLoop with
  | some k =>
    rw [e1] at h
    cases h
  | none =>
    rw [e1] at h
    simp only at h
    cases e2 : ds.findIdx? (fun d => (firstBad d).isSome) with
    | some k =>
      rw [e2] at h
      cases h
    | none =>
      refine ⟨by omega, fun d hd => ⟨?_, ?_⟩⟩
      · have := List.findIdx?_eq_none_iff.mp e1 d hd
        simpa using this
      · have := List.findIdx?_eq_none_iff.mp e2 d hd
        simpa using this
theorem valid_dp {K : PySem.W.Frag} {H : Hp} {ok : Addr → Prop} {v : V} {d : Dt} (h : Rp K H ok v d) (e : faultOf d = none) :
    ∃ ls, Dp K H v (dLoops ls) ∧ OkL ls ∧ ∀ l ∈ ls, ∀ z ∈ l, z.natAbs < 10 ^ 40 := by
  cases d with
  | int i => cases e
  | oth n => cases e
  | tup ds =>
    obtain ⟨a, xs, rfl, hT, hX⟩ := h.tuple
    obtain ⟨h6, hb⟩ := fault_none e
    obtain ⟨ls, q1, q2, q3, q4⟩ := valid_all hX hb
    exact ⟨ls, .tup hT q1, ⟨by omega, q3⟩, q4⟩
def topS (i : Nat) : Stmt := PySem.Challenge.pw_pedalrounds_k02_whole_faults_of_loops.main.body.getD i (.Pass ⟨0, 0, 0, 0⟩)
abbrev s_is_whole : Stmt := topS 3
abbrev s_need_loops : Stmt := topS 7
abbrev s_lengths_of : Stmt := topS 8
abbrev s__law_begun : Stmt := topS 10
abbrev s__law_next : Stmt := topS 11
abbrev s__law_number : Stmt := topS 12
abbrev s__law_lengths : Stmt := topS 13
abbrev s__law_loops_of : Stmt := topS 14
abbrev s__law_is_number : Stmt := topS 15
abbrev s__law_outcome : Stmt := topS 16
abbrev s__law_fault : Stmt := topS 17
abbrev s__law_put : Stmt := topS 18
abbrev s__law_spoiled : Stmt := topS 19
abbrev s_law : Stmt := topS 20
theorem sc_is_whole : FnScope ["thing"] ["thing"] (defScope s_is_whole) := ⟨rfl, rfl, rfl, by decide +kernel, rfl, by decide +kernel, by decide +kernel⟩
theorem sc_need_loops : FnScope ["thing", "at", "loop", "index", "sounded"] ["thing"] (defScope s_need_loops) := ⟨rfl, rfl, rfl, by decide +kernel, rfl, by decide +kernel, by decide +kernel⟩
theorem sc_lengths_of : FnScope ["loops", "loop"] ["loops"] (defScope s_lengths_of) := ⟨rfl, rfl, rfl, by decide +kernel, rfl, by decide +kernel, by decide +kernel⟩
theorem sc__law_begun : FnScope ["script", "cell"] ["script"] (defScope s__law_begun) := ⟨rfl, rfl, rfl, by decide +kernel, rfl, by decide +kernel, by decide +kernel⟩
theorem sc__law_next : FnScope ["m", "many", "rest", "k", "cell", "mixed"] ["m", "many"] (defScope s__law_next) := ⟨rfl, rfl, rfl, by decide +kernel, rfl, by decide +kernel, by decide +kernel⟩
theorem sc__law_number : FnScope ["m", "way"] ["m"] (defScope s__law_number) := ⟨rfl, rfl, rfl, by decide +kernel, rfl, by decide +kernel, by decide +kernel⟩
theorem sc__law_lengths : FnScope ["m", "many", "most", "k"] ["m", "many", "most"] (defScope s__law_lengths) := ⟨rfl, rfl, rfl, by decide +kernel, rfl, by decide +kernel, by decide +kernel⟩
theorem sc__law_loops_of : FnScope ["m", "lengths", "found", "length", "k"] ["m", "lengths"] (defScope s__law_loops_of) := ⟨rfl, rfl, rfl, by decide +kernel, rfl, by decide +kernel, by decide +kernel⟩
theorem sc__law_is_number : FnScope ["thing"] ["thing"] (defScope s__law_is_number) := ⟨rfl, rfl, rfl, by decide +kernel, rfl, by decide +kernel, by decide +kernel⟩
theorem sc__law_outcome : FnScope ["thing", "found", "e"] ["thing"] (defScope s__law_outcome) := ⟨rfl, rfl, rfl, by decide +kernel, rfl, by decide +kernel, by decide +kernel⟩
theorem sc__law_fault : FnScope ["thing", "k", "loop", "wrong", "j", "number"] ["thing"] (defScope s__law_fault) := ⟨rfl, rfl, rfl, by decide +kernel, rfl, by decide +kernel, by decide +kernel⟩
theorem sc__law_put : FnScope ["row", "at", "thing"] ["row", "at", "thing"] (defScope s__law_put) := ⟨rfl, rfl, rfl, by decide +kernel, rfl, by decide +kernel, by decide +kernel⟩
theorem sc__law_spoiled : FnScope ["m", "loops", "at", "way", "some", "loop", "place"] ["m", "loops"] (defScope s__law_spoiled) := ⟨rfl, rfl, rfl, by decide +kernel, rfl, by decide +kernel, by decide +kernel⟩
theorem sc_law : FnScope ["script", "m", "turn", "loops", "thing", "k", "loop"] ["script"] (defScope s_law) := ⟨rfl, rfl, rfl, by decide +kernel, rfl, by decide +kernel, by decide +kernel⟩
abbrev s_BadLoops_init : Stmt := inClass (topS 1) 0
theorem sc_BadLoops_init : FnScope ["self", "place"] ["self", "place"] (defScope s_BadLoops_init) := ⟨rfl, rfl, rfl, by decide +kernel, rfl, by decide +kernel, by decide +kernel⟩
structure Top (K : PySem.W.Frag) (mg : Str → Option Value) where
  a_is_whole : Addr
  d_is_whole : FuncData
  F_is_whole : Fun K "is_whole" "is_whole" s_is_whole a_is_whole d_is_whole
  m_is_whole : mg "is_whole" = some (.ref a_is_whole)
  b_is_whole : Binds K d_is_whole ["thing"] []
  a_need_loops : Addr
  d_need_loops : FuncData
  F_need_loops : Fun K "need_loops" "need_loops" s_need_loops a_need_loops d_need_loops
  m_need_loops : mg "need_loops" = some (.ref a_need_loops)
  b_need_loops : Binds K d_need_loops ["thing"] []
  a_lengths_of : Addr
  d_lengths_of : FuncData
  F_lengths_of : Fun K "lengths_of" "lengths_of" s_lengths_of a_lengths_of d_lengths_of
  m_lengths_of : mg "lengths_of" = some (.ref a_lengths_of)
  b_lengths_of : Binds K d_lengths_of ["loops"] []
  a__law_begun : Addr
  d__law_begun : FuncData
  F__law_begun : Fun K "_law_begun" "_law_begun" s__law_begun a__law_begun d__law_begun
  m__law_begun : mg "_law_begun" = some (.ref a__law_begun)
  b__law_begun : Binds K d__law_begun ["script"] []
  a__law_next : Addr
  d__law_next : FuncData
  F__law_next : Fun K "_law_next" "_law_next" s__law_next a__law_next d__law_next
  m__law_next : mg "_law_next" = some (.ref a__law_next)
  b__law_next : Binds K d__law_next ["m", "many"] []
  a__law_number : Addr
  d__law_number : FuncData
  F__law_number : Fun K "_law_number" "_law_number" s__law_number a__law_number d__law_number
  m__law_number : mg "_law_number" = some (.ref a__law_number)
  b__law_number : Binds K d__law_number ["m"] []
  a__law_lengths : Addr
  d__law_lengths : FuncData
  F__law_lengths : Fun K "_law_lengths" "_law_lengths" s__law_lengths a__law_lengths d__law_lengths
  m__law_lengths : mg "_law_lengths" = some (.ref a__law_lengths)
  b__law_lengths : Binds K d__law_lengths ["m", "many", "most"] []
  a__law_loops_of : Addr
  d__law_loops_of : FuncData
  F__law_loops_of : Fun K "_law_loops_of" "_law_loops_of" s__law_loops_of a__law_loops_of d__law_loops_of
  m__law_loops_of : mg "_law_loops_of" = some (.ref a__law_loops_of)
  b__law_loops_of : Binds K d__law_loops_of ["m", "lengths"] []
  a__law_is_number : Addr
  d__law_is_number : FuncData
  F__law_is_number : Fun K "_law_is_number" "_law_is_number" s__law_is_number a__law_is_number d__law_is_number
  m__law_is_number : mg "_law_is_number" = some (.ref a__law_is_number)
  b__law_is_number : Binds K d__law_is_number ["thing"] []
  a__law_outcome : Addr
  d__law_outcome : FuncData
  F__law_outcome : Fun K "_law_outcome" "_law_outcome" s__law_outcome a__law_outcome d__law_outcome
  m__law_outcome : mg "_law_outcome" = some (.ref a__law_outcome)
  b__law_outcome : Binds K d__law_outcome ["thing"] []
  a__law_fault : Addr
  d__law_fault : FuncData
  F__law_fault : Fun K "_law_fault" "_law_fault" s__law_fault a__law_fault d__law_fault
  m__law_fault : mg "_law_fault" = some (.ref a__law_fault)
  b__law_fault : Binds K d__law_fault ["thing"] []
  a__law_put : Addr
  d__law_put : FuncData
  F__law_put : Fun K "_law_put" "_law_put" s__law_put a__law_put d__law_put
  m__law_put : mg "_law_put" = some (.ref a__law_put)
  b__law_put : Binds K d__law_put ["row", "at", "thing"] []
  a__law_spoiled : Addr
  d__law_spoiled : FuncData
  F__law_spoiled : Fun K "_law_spoiled" "_law_spoiled" s__law_spoiled a__law_spoiled d__law_spoiled
  m__law_spoiled : mg "_law_spoiled" = some (.ref a__law_spoiled)
  b__law_spoiled : Binds K d__law_spoiled ["m", "loops"] []
  a_law : Addr
  d_law : FuncData
  F_law : Fun K "law" "law" s_law a_law d_law
  m_law : mg "law" = some (.ref a_law)
  b_law : Binds K d_law ["script"] []
  x_BadLoops : ExcT K mg "BadLoops" "BadLoops.__init__" "place" s_BadLoops_init
  z_ValueError : mg "ValueError" = none
  v_ValueError : PySem.W.findCls K (.type "ValueError") (.type "type") "__init__" = some (.val (.builtin "ValueError.__init__"))
  z_isinstance : mg "isinstance" = none
  z_int : mg "int" = none
  z_bool : mg "bool" = none
  z_enumerate : mg "enumerate" = none
  z_tuple : mg "tuple" = none
  z_len : mg "len" = none
  z_list : mg "list" = none
  z_range : mg "range" = none
  z_repr : mg "repr" = none
  z_max : mg "max" = none
  z_min : mg "min" = none
  t_MOST_LOOPS : Tok
  c_MOST_LOOPS : mg "MOST_LOOPS" = some (.int 6 t_MOST_LOOPS)
  t_MOST_THINGS : Tok
  c_MOST_THINGS : mg "MOST_THINGS" = some (.int 64 t_MOST_THINGS)
end My

namespace My
open PySem PySem.Spec PyProof.Rows L2
section
variable {P : Program} {w : World} {K : PySem.W.Frag} {mg : Str → Option Value} {base : Heap}
theorem ok_BadLoops_init (T : Top K mg) : FnOk P w K mg base CX0 1 T.x_BadLoops.f T.x_BadLoops.d ["self", "place"] (sp_exc T.x_BadLoops.C "place") := by
  refine T.x_BadLoops.F.ok sc_BadLoops_init (fun vs H Q E h => ?_) (fun cdv A outer s H vs Q E hr h => ?_)
  · obtain ⟨a, w, rfl, _⟩ := h
    rfl
  obtain ⟨a, w, rfl, ha, k⟩ := h
  refine ⟨_, pss_cons (ps_expr (pe_veinit (by rfl) T.z_ValueError T.v_ValueError (pa_cons (pv 0) (pa_cons (pv 1) pa_nil)))) (pss_one (ps_ost (pv 0) (pv 1))), ?_⟩
  refine ⟨_, rfl, _, rfl, a, T.x_BadLoops.C, [w], rfl, (by show 1 ≤ 1000; decide), T.x_BadLoops.ox, ha, ?_⟩
  exact ⟨_, rfl, _, rfl, a, T.x_BadLoops.C, rfl, T.x_BadLoops.ox, T.x_BadLoops.nf, .inl ⟨ha, fun dx h1 h2 => k dx h1 h2⟩⟩
end
section
variable {P : Program} {w : World} {K : PySem.W.Frag} {mg : Str → Option Value} {base : Heap}
theorem ok_is_whole (T : Top K mg) : FnOk P w K mg base CX0 1 T.a_is_whole T.d_is_whole ["thing"] (sp_is_whole K) := by
  refine T.F_is_whole.ok sc_is_whole (fun vs H Q E h => ?_) (fun cdv A outer s H vs Q E hr h => ?_)
  · obtain ⟨x, t, b1, b2, rfl, hx, h1, h2, k⟩ := h
    rfl
  obtain ⟨x, t, b1, b2, rfl, hx, h1, h2, k⟩ := h
  refine ⟨_, (pss_one (ps_ret (pe_and (pe_callB (k_isi (K := K)) (by rfl) T.z_isinstance bt_isinstance (pa_cons (pv 0) (pa_cons (pe_bltn (v := .ty "int") (by rfl) T.z_int bt_int rfl) pa_nil))) (pe_one (pe_not (pe_callB (k_isi (K := K)) (by rfl) T.z_isinstance bt_isinstance (pa_cons (pv 0) (pa_cons (pe_bltn (v := .ty "bool") (by rfl) T.z_bool bt_bool rfl) pa_nil)))))))), ?_⟩
  refine ⟨_, rfl, x, _, t, _, b1, rfl, ClsV.ty _, hx, h1, b1, rfl, ?_⟩
  cases b1 with
  | false => exact iteF k
  | true =>
    refine iteT ?_
    exact ⟨_, rfl, x, _, t, _, b2, rfl, ClsV.ty _, hx, h2, b2, rfl, k⟩
end
section
variable {P : Program} {w : World} {K : PySem.W.Frag} {mg : Str → Option Value} {base : Heap}
theorem ok__law_begun (T : Top K mg) : FnOk P w K mg base CX0 1 T.a__law_begun T.d__law_begun ["script"] (sp__law_begun K) := by
  refine T.F__law_begun.ok sc__law_begun (fun vs H Q E h => ?_) (fun cdv A outer s H vs Q E hr h => ?_)
  · obtain ⟨a, ns, rfl, hS, hl, k⟩ := h
    rfl
  obtain ⟨a, ns, rfl, hS, hl, k⟩ := h
  refine ⟨_, (pss_one (ps_ret (pe_disp (pps_cons pe_str (pe_callTy (k_list (K := K)) (by rfl) T.z_list bt_list (pa_cons (pv 0) pa_nil)) (pps_cons pe_str (pe_lc (own := [("cell", 1)]) rfl sc__law_begun.nd (k_piL (K := K) (pv 0)) (blkOk_by (own := [("cell", 1)]) (N := ["script", "cell"]) (sc := defScope s__law_begun) (by decide +kernel)) (fun _ _ _ _ _ => (pg_name (i := 1) sc__law_begun.nd rfl (Or.inl rfl))) (fun _ _ _ _ _ => (pts_one (pt_cmpR op_ge (pv 1) (pe_op op_pow pe_int pe_int) (nomark _)))) (fun _ _ _ _ _ => (pv 1))) (pps_cons pe_str pe_int pps_nil))) (by rfl) (by rfl) (fun z => by cases z) (by decide)))), ?_⟩
  refine fun p hp => ?_
  refine ⟨_, rfl, a, _, rfl, .inl ((same_upd hp _).seq hS), fun l hl' => ?_⟩
  have s1 : Same H (upd (upd H p (.dK [])) l (.lst (ns.map V.int))) := (same_upd hp _).trans (same_upd hl' _)
  have lp : l ≠ p := fun z => by rw [z, upd_same] at hl'; cases hl'
  refine ⟨_, rfl, a, rfl, ⟨_, s1.seq hS⟩, fun D hD => ?_⟩
  have Dp' : D ≠ p := fun z => by rw [z, upd_ne (Ne.symm lp), upd_same] at hD; cases hD
  have Dl : D ≠ l := fun z => by rw [z, upd_same] at hD; cases hD
  refine lc_list (K := K) (a := a) (xs := ns.map V.int) (fun i H' => ∃ acc : List Int, H' D = some (.lst (acc.map V.int)) ∧ acc.length ≤ i ∧ (∀ z ∈ acc, 0 ≤ z) ∧ Same (upd (upd H p (.dK [])) l (.lst (ns.map V.int))) H')
    ⟨[], upd_same, Nat.le_refl _, (by intro z hz; cases hz), same_upd hD _⟩ (fun i H' _ ⟨_, _, _, _, s⟩ => s.seq (s1.seq hS)) ?_ ?_
  · rintro i x H' hi ⟨acc, hA, hn, h0, s⟩
    obtain ⟨z, hz, rfl⟩ := map_int_get hi
    refine ⟨rfl, _, rfl, _, _, rfl, rfl, ⟨by decide, by decide, by decide⟩, _, _, rfl, rfl, _, rfl, ?_⟩
    refine ite2 (fun cc => ?_) (fun _ => ⟨acc, hA, by omega, h0, s⟩)
    have cz : (10 : Int) ^ (18 : Int).toNat ≤ z := of_decide_eq_true cc
    have cz' : 0 ≤ z := Int.le_trans (by decide) cz
    refine ⟨_, rfl, _, hA, by rw [List.length_map]; exact small1000 (by have := (List.getElem?_eq_some_iff.mp hz).1; omega), acc ++ [z], ?_, ?_, ?_, ?_⟩
    · rw [upd_same, List.map_append]
      all_goals rfl
    · rw [List.length_append, List.length_singleton]
      omega
    · intro y hy
      rcases List.mem_append.mp hy with q | q
      · exact h0 y q
      · rw [List.mem_singleton.mp q]
        exact cz'
    · intro b o q
      have bD : b ≠ D := ne_of_none q hD
      rw [upd_ne bD]
      exact s b o q
  · rintro H' ⟨acc, hA, hn, h0, s⟩
    rw [List.length_map] at hn
    have hp' : H' p = some (.dK []) := s _ _ (by rw [upd_ne (Ne.symm lp), upd_same])
    refine ⟨hp', [(kCells, .ref l), (kLeft, .ref D), (kAt, .int 0)], rfl, (by show 3 ≤ 15; decide), ?_⟩
    rw [merge3]
    have e : ∀ b, b ≠ p → upd H' p (.dK [(kCells, V.ref l), (kLeft, V.ref D), (kAt, V.int 0)]) b = H' b := fun b hb => upd_ne hb
    refine k p _ (fun b o q => ?_) ⟨l, D, upd_same, ⟨ns, ?_, hl⟩, ⟨acc, ?_, by omega, h0⟩, Ne.symm Dl⟩
    · rw [e b (ne_of_none q hp)]
      exact s _ _ (s1 _ _ q)
    · rw [e _ lp]
      exact s _ _ upd_same
    · rw [e _ Dp']
      exact hA
end
section
variable {P : Program} {w : World} {K : PySem.W.Frag} {mg : Str → Option Value} {base : Heap}
theorem ok__law_next (T : Top K mg) : FnOk P w K mg base CX0 1 T.a__law_next T.d__law_next ["m", "many"] (sp__law_next K) := by
  refine T.F__law_next.ok sc__law_next (fun vs H Q E h => ?_) (fun cdv A outer s H vs Q E hr h => ?_)
  · obtain ⟨m, many, n, rfl, M, h0, h9, hn, k⟩ := h
    rfl
  obtain ⟨m, many, n, rfl, M, h0, h9, hn, k⟩ := h
  refine ⟨_, (Evl.pss_cut (ps_while PassesOwn.never (PW.pt (pw_and (pt_cmpR (k_neD (K := K) hr.units) (pe_dget (hu_of hr) (pv 0) pe_str (fun _ _ => rfl)) (pe_lst pa_nil) (nomark _)) (pw_and1 (pt_cmpR op_eq (pe_ix (k_ixL (K := K)) (pe_dget (hu_of hr) (pv 0) pe_str (fun _ _ => rfl)) pe_int (fun _ _ => rfl)) pe_int (nomark _))))) (pss_one (ps_dput (hu_of hr) (pv 0) pe_str (pe_slice (k_slL (K := K)) (pe_dget (hu_of hr) (pv 0) pe_str (fun _ _ => rfl)) (po_some pe_int) po_none) rfl)))
      (pss_cons (ps_if (pt_cmpR (k_neD (K := K) hr.units) (pe_dget (hu_of hr) (pv 0) pe_str (fun _ _ => rfl)) (pe_lst pa_nil) (nomark _)) (pss_cons (ps_set (i := 2) sc__law_next.nd rfl (Or.inl rfl) (pe_callTy call_int1 (by rfl) T.z_int bt_int (pa_cons (pe_ix (k_ixL (K := K)) (pe_dget (hu_of hr) (pv 0) pe_str (fun _ _ => rfl)) pe_int (fun _ _ => rfl)) pa_nil)))
      (pss_cons (ps_asg (pe_op op_fdivW (pv 2) (pv 1)) (pg_sub (pe_dget (hu_of hr) (pv 0) pe_str (fun _ _ => rfl)) pe_int set_list))
      (pss_one (ps_ret (pe_op op_modN (pv 2) (pv 1)))))) pss_nil)
      (pss_cons (ps_set (i := 3) sc__law_next.nd rfl (Or.inl rfl) (pe_op op_add (pe_dget (hu_of hr) (pv 0) pe_str (fun _ _ => rfl)) pe_int))
      (pss_cons (ps_dput (hu_of hr) (pv 0) pe_str (pv 3) rfl)
      (pss_cons (ps_set (i := 4) sc__law_next.nd rfl (Or.inl rfl) (pe_ifExp (pt_cmpR (k_neD (K := K) hr.units) (pe_dget (hu_of hr) (pv 0) pe_str (fun _ _ => rfl)) (pe_lst pa_nil) (nomark _)) (pe_ix (k_ixL (K := K)) (pe_dget (hu_of hr) (pv 0) pe_str (fun _ _ => rfl)) (pe_op op_modN (pe_callTy call_int1 (by rfl) T.z_int bt_int (pa_cons (pv 3) pa_nil)) (pe_callB (k_len (K := K)) (by rfl) T.z_len bt_len (pa_cons (pe_dget (hu_of hr) (pv 0) pe_str (fun _ _ => rfl)) pa_nil))) (fun _ _ => rfl)) pe_int))
      (pss_cons (ps_set (i := 5) sc__law_next.nd rfl (Or.inl rfl) (pe_op op_mul (pe_callTy call_int1 (by rfl) T.z_int bt_int (pa_cons (pe_op op_add (pe_op op_add (pe_op op_modN (pe_callTy call_int1 (by rfl) T.z_int bt_int (pa_cons (pv 4) pa_nil)) pe_int) (pe_op op_mul pe_int (pv 3))) (pe_op op_mul (pe_op op_mul pe_int (pv 3)) (pv 3))) pa_nil)) pe_int))
      (pss_cons (ps_set (i := 5) sc__law_next.nd rfl (Or.inl rfl) (pe_op op_mul (pe_callTy call_int1 (by rfl) T.z_int bt_int (pa_cons (pe_op op_add (pe_op op_modN (pe_callTy call_int1 (by rfl) T.z_int bt_int (pa_cons (pv 5) pa_nil)) pe_int) (pe_op op_mul pe_int (pv 3))) pa_nil)) pe_int))
      (pss_one (ps_ret (pe_op op_modN (pe_callTy call_int1 (by rfl) T.z_int bt_int (pa_cons (pe_op op_fdivN (pe_op op_modN (pe_callTy call_int1 (by rfl) T.z_int bt_int (pa_cons (pv 5) pa_nil)) pe_int) pe_int) pa_nil)) (pv 1))))))))))), ?_⟩
  refine ⟨fun σ H' => σ = [some (.ref m), some (.int many), none, none, none, none] ∧ MS H' m n ∧ Ef m H H', ?_, ?_⟩
  · refine ⟨fun j σ H' => σ = [some (.ref m), some (.int many), none, none, none, none] ∧ Ef m H H' ∧ ∃ (c l : Addr) (ls : List Int), MAt H' m c l n ∧ H' l = some (.lst (ls.map V.int)) ∧ ls.length = j, ?_, ?_⟩
    · obtain ⟨c, l, M⟩ := M
      obtain ⟨ls, hl, _⟩ := M.ls
      exact ⟨ls.length, rfl, Ef.refl, c, l, ls, M, hl, rfl⟩
    · rintro j σ H1 ⟨rfl, e1, c, l, ls, M1, hl, rfl⟩
      refine ⟨_, rfl, m, _, rfl, M1.left, rd_ne_nil hl fun p hp => ?_⟩
      have s2 := same_upd hp (.lst [])
      have lp : l ≠ p := ne_of_none hl hp
      have M2 : MS (upd H1 p (.lst [])) m n := MS.same ⟨c, l, M1⟩ s2
      have e2 : Ef m H (upd H1 p (.lst [])) := e1.trans (Ef.ofSame ⟨c, l, M1⟩ s2)
      cases ls with
      | nil => exact ⟨_, rfl, iteF (iteF ⟨rfl, M2, e2⟩)⟩
      | cons z r =>
        obtain ⟨c', l', M2'⟩ := M2
        have dk2 := s2 _ _ M1.dk
        rw [M2'.dk] at dk2
        have ecl : c' = c ∧ l' = l := by
          have q := HO.dK.inj (Option.some.inj dk2)
          simp [mKvs] at q
          exact q
        obtain ⟨rfl, rfl⟩ := ecl
        have hl2 := s2 _ _ hl
        refine ⟨_, rfl, iteT ?_⟩
        refine ⟨_, rfl, m, _, rfl, M2'.left, l', _, _, V.int z, rfl, rfl, SqL.of hl2, at_zero, rfl, _, rfl, ?_⟩
        refine ite2 (fun _ => ?_) (fun _ => ⟨rfl, ⟨c', l', M2'⟩, e2⟩)
        refine ⟨fun σ' H' => σ' = [some (.ref m), some (.int many), none, none, none, none] ∧ Ef m H H' ∧ ∃ (c l : Addr) (ls : List Int), MAt H' m c l n ∧ H' l = some (.lst (ls.map V.int)) ∧ ls.length = r.length, ?_, ?_⟩
        · rintro σ' H' ⟨a1, a2, a3⟩
          exact ⟨r.length, Nat.lt_succ_self _, a1, a2, a3⟩
        · refine ⟨_, rfl, m, _, rfl, M2'.left, 1, rfl, l', _, rfl, SqL.of hl2, fun q hq => ?_⟩
          rw [cut_tail]
          have mq : m ≠ q := ne_of_none M2'.dk hq
          have s3 := same_upd hq (.lst (r.map V.int))
          refine ⟨_, rfl, m, _, rfl, DPut.k (k := kLeft) (s3 _ _ M2'.dk) (by show 3 < sizeLine; decide), ?_⟩
          have ep : putK (mKvs c' l' n) kLeft (.ref q) = mKvs c' q n := put3_2
          rw [ep]
          obtain ⟨cs, hc, hc2⟩ := M2'.cs
          obtain ⟨ls', hl3, hl4, hl5⟩ := M2'.ls
          have els : ls' = z :: r := map_int_inj (HO.lst.inj (Option.some.inj (hl3.symm.trans hl2)))
          subst els
          have cq : c' ≠ q := ne_of_none hc hq
          have cm : c' ≠ m := ne_of hc M2'.dk (by intro w; cases w)
          refine ⟨rfl, ?_, c', q, r, ⟨upd_same, ⟨cs, ?_, hc2⟩, ⟨r, ?_, ?_, ?_⟩, cq⟩, ?_, rfl⟩
          · refine e2.trans ⟨fun b o hb h1 _ => ?_, fun b hb => ?_, fun o ho => ⟨_, upd_same⟩⟩
            · rw [upd_ne h1, upd_ne (ne_of_none hb hq)]
              exact hb
            · obtain ⟨kvs, kk, w1, w2⟩ := hb
              rw [upd_same] at w1
              cases w1
              rcases mKvs_ref w2 with q1 | q1
              · rw [q1]
                exact .inl M2'.ownC
              · rw [q1]
                exact .inr hq
          · rw [upd_ne cm, upd_ne cq]
            exact hc
          · rw [upd_ne (Ne.symm mq), upd_same]
          · simp at hl4
            omega
          · exact fun y hy => hl5 y (List.mem_cons_of_mem _ hy)
          · rw [upd_ne (Ne.symm mq), upd_same]
  · rintro σ H1 ⟨rfl, M1, e1⟩
    obtain ⟨c, l, M1⟩ := M1
    obtain ⟨ls, hl, hl4, hl5⟩ := M1.ls
    refine ⟨_, rfl, m, _, rfl, M1.left, rd_ne_nil hl fun p hp => ⟨_, rfl, ?_⟩⟩
    have s2 := same_upd hp (.lst [])
    have M2 : MAt (upd H1 p (.lst [])) m c l n := M1.same s2
    have e2 : Ef m H (upd H1 p (.lst [])) := e1.trans (Ef.ofSame ⟨c, l, M1⟩ s2)
    have hl2 := s2 _ _ hl
    have lm : l ≠ m := ne_of hl2 M2.dk (by intro w; cases w)
    cases ls with
    | cons z r =>
      refine iteT ?_
      refine ⟨_, rfl, m, _, rfl, M2.left, l, _, _, V.int z, rfl, rfl, SqL.of hl2, at_zero, .inl ⟨_, rfl, ?_⟩⟩
      refine ⟨_, rfl, _, rfl, _, _, rfl, rfl, ⟨h0, log_ok h0 h9⟩, _, rfl, m, _, rfl, M2.left, l, _, 0, 0, rfl, rfl, hl2, by simp [ixN], ?_⟩
      refine ⟨_, rfl, _, rfl, _, _, rfl, rfl, by omega, ?_⟩
      refine k _ n _ (Int.fmod_nonneg_of_pos _ h0) (Int.fmod_lt_of_pos _ h0) (Nat.le_succ n) ⟨c, l, ?_, ?_, ⟨(z / many) :: r, ?_, hl4, ?_⟩, M2.cl⟩ (e2.trans ⟨fun b o hb h1 h2 => ?_, fun b hb => ?_, fun o ho => ⟨o, ?_⟩⟩)
      · rw [upd_ne (Ne.symm lm)]
        exact M2.dk
      · obtain ⟨cs, hc, hc2⟩ := M2.cs
        exact ⟨cs, by rw [upd_ne M2.cl]; exact hc, hc2⟩
      · rw [upd_same]
        all_goals rfl
      · intro y hy
        rcases List.mem_cons.mp hy with q | q
        · rw [q]
          exact Int.ediv_nonneg (hl5 z List.mem_cons_self) (by omega)
        · exact hl5 y (List.mem_cons_of_mem _ q)
      · rw [upd_ne (fun q => h2 (by rw [q]; exact M2.ownL))]
        exact hb
      · exact .inl (hb.upd (Ne.symm lm))
      · rw [upd_ne (Ne.symm lm)]
        exact ho
    | nil =>
      refine iteF ?_
      refine ⟨_, rfl, m, _, rfl, M2.at, _, _, rfl, rfl, ?_⟩
      refine ⟨_, rfl, _, rfl, m, _, rfl, DPut.k (k := kAt) M2.dk (by show 3 < sizeLine; decide), ?_⟩
      have ep : putK (mKvs c l n) kAt (.int ((n : Int) + 1)) = mKvs c l (n + 1) := put3_3
      rw [ep]
      have M3 : MAt (upd (upd H1 p (.lst [])) m (.dK (mKvs c l (n + 1)))) m c l (n + 1) := by
        obtain ⟨cs, hc, hc2⟩ := M2.cs
        obtain ⟨ls', q1, q2, q3⟩ := M2.ls
        exact ⟨upd_same, ⟨cs, by rw [upd_ne (ne_of hc M2.dk (by intro w; cases w))]; exact hc, hc2⟩, ⟨ls', by rw [upd_ne lm]; exact q1, q2, q3⟩, M2.cl⟩
      have e3 : Ef m H (upd (upd H1 p (.lst [])) m (.dK (mKvs c l (n + 1)))) := by
        refine e2.trans ⟨fun b o hb h1 _ => by rw [upd_ne h1]; exact hb, fun b hb => ?_, fun o _ => ⟨_, upd_same⟩⟩
        obtain ⟨kvs, kk, w1, w2⟩ := hb
        rw [upd_same] at w1
        cases w1
        rcases mKvs_ref w2 with q1 | q1
        · rw [q1]
          exact .inl M2.ownC
        · rw [q1]
          exact .inl M2.ownL
      dsimp only
      refine seq_cut (fun v H' => ∃ i : Int, v = .int i ∧ MS H' m (n + 1) ∧ Ef m H H') (fun Q' k' => ?_) ?_
      · obtain ⟨cs, hc, hc2⟩ := M3.cs
        refine ⟨_, rfl, m, _, rfl, M3.cells, rd_ne_nil hc fun q hq => ⟨_, rfl, ?_⟩⟩
        have s4 := same_upd hq (.lst [])
        have M4 := M3.same s4
        have e4 := e3.trans (Ef.ofSame ⟨c, l, M3⟩ s4)
        have hc4 := s4 _ _ hc
        cases cs with
        | nil => exact iteF (k' _ _ ⟨3, rfl, ⟨c, l, M4⟩, e4⟩)
        | cons z r =>
          refine iteT ?_
          have hp0 : (0 : Int) < (((z :: r).map V.int).length : Int) := by
            rw [List.length_map, List.length_cons]
            omega
          obtain ⟨v, hv⟩ := at_mod (n + 1 : Int) (xs := z :: r) hp0
          refine ⟨_, rfl, m, _, rfl, M4.cells, _, rfl, .inl ⟨_, rfl, _, rfl, m, _, rfl, M4.cells, c, _, rfl, .inl (SqL.of hc4), _, _, rfl, rfl, by omega, c, _, _, V.int v, rfl, rfl, SqL.of hc4, hv, ?_⟩⟩
          exact k' _ _ ⟨v, rfl, ⟨c, l, M4⟩, e4⟩
      · rintro v H4 ⟨i, rfl, M4, e4⟩
        have z0 : (0 : Int) ≤ (n : Int) + 1 := by omega
        have z1 : ((n : Int) + 1) < 2 ^ 41 := by
          have hn' : ((n : Nat) : Int) < ((2 ^ 40 : Nat) : Int) := Int.ofNat_lt.mpr hn
          have : ((2 ^ 40 : Nat) : Int) = 1099511627776 := by decide
          omega
        refine ⟨_, rfl, .inl ⟨_, rfl, _, _, rfl, rfl, by omega, _, rfl, _, _, rfl, rfl, .inl (by decide), _, _, rfl, rfl, ?_⟩⟩
        refine ⟨_, rfl, _, _, rfl, rfl, .inl (by decide), _, rfl, _, _, rfl, rfl, .inl (by constructor <;> omega), _, _, rfl, rfl, .inl ⟨_, rfl, _, _, rfl, rfl, .inr (by decide), ?_⟩⟩
        refine ⟨_, rfl, .inl ⟨_, rfl, _, _, rfl, rfl, by omega, _, rfl, _, _, rfl, rfl, .inl (by decide), _, _, rfl, rfl, .inl ⟨_, rfl, _, _, rfl, rfl, .inr (by decide), ?_⟩⟩⟩
        refine ⟨_, rfl, .inl ⟨_, rfl, _, _, rfl, rfl, by omega, _, _, rfl, rfl, ⟨by decide, by decide⟩, .inl ⟨_, rfl, _, rfl, _, _, rfl, rfl, by omega, ?_⟩⟩⟩
        exact k _ (n + 1) _ (Int.fmod_nonneg_of_pos _ h0) (Int.fmod_lt_of_pos _ h0) (Nat.le_refl _) M4 e4
end
section
variable {P : Program} {w : World} {K : PySem.W.Frag} {mg : Str → Option Value} {base : Heap}
theorem ok__law_is_number (T : Top K mg) : FnOk P w K mg base CX0 1 T.a__law_is_number T.d__law_is_number ["thing"] (sp__law_is_number K) := by
  refine T.F__law_is_number.ok sc__law_is_number (fun vs H Q E h => ?_) (fun cdv A outer s H vs Q E hr h => ?_)
  · obtain ⟨x, t, b1, b2, rfl, hx, h1, h2, k⟩ := h
    rfl
  obtain ⟨x, t, b1, b2, rfl, hx, h1, h2, k⟩ := h
  refine ⟨_, (pss_one (ps_ret (pe_and (pe_callB (k_isi (K := K)) (by rfl) T.z_isinstance bt_isinstance (pa_cons (pv 0) (pa_cons (pe_bltn (v := .ty "int") (by rfl) T.z_int bt_int rfl) pa_nil))) (pe_one (pe_not (pe_callB (k_isi (K := K)) (by rfl) T.z_isinstance bt_isinstance (pa_cons (pv 0) (pa_cons (pe_bltn (v := .ty "bool") (by rfl) T.z_bool bt_bool rfl) pa_nil)))))))), ?_⟩
  refine ⟨_, rfl, x, _, t, _, b1, rfl, ClsV.ty _, hx, h1, b1, rfl, ?_⟩
  cases b1 with
  | false => exact iteF k
  | true =>
    refine iteT ?_
    exact ⟨_, rfl, x, _, t, _, b2, rfl, ClsV.ty _, hx, h2, b2, rfl, k⟩
end
section
variable {P : Program} {w : World} {K : PySem.W.Frag} {mg : Str → Option Value} {base : Heap}
theorem ok__law_put (T : Top K mg) : FnOk P w K mg base CX0 1 T.a__law_put T.d__law_put ["row", "at", "thing"] (sp__law_put K) := by
  refine T.F__law_put.ok sc__law_put (fun vs H Q E h => ?_) (fun cdv A outer s H vs Q E hr h => ?_)
  · obtain ⟨ok, v, ds, i, w, d, rfl, hv, h0, h1, h2, hw, k⟩ := h
    rfl
  obtain ⟨ok, v, ds, i, w, d, rfl, hv, h0, h1, h2, hw, k⟩ := h
  refine ⟨_, (pss_one (ps_ret (pe_op (k_catT (K := K)) (pe_op (k_catT (K := K)) (pe_slice (k_slT (K := K)) (pv 0) po_none (po_some (pv 1))) (pe_tup (pa_cons (pv 2) pa_nil))) (pe_slice (k_slT (K := K)) (pv 0) (po_some (pe_op op_add (pv 1) pe_int)) po_none)))), ?_⟩
  refine ⟨_, rfl, _, rfl, i, rfl, rd_cutR hv fun w1 H1 s1 hw1 => ?_⟩
  refine ⟨_, rfl, (by show 1 ≤ sizeLine; decide), fun p hp => ?_⟩
  have hs := same_upd hp (.tup [w])
  have hp1 : Rp K (upd H1 p (.tup [w])) ok (.ref p) (.tup [d]) := Rp.new hp (.cons (hw.same s1) .nil)
  rw [cutT_to ds h0] at hw1
  refine rd_catR (hw1.same hs) hp1 (by rw [List.length_take]; exact Nat.le_of_lt (small1000 (by simp; omega))) fun w2 H2 s2 hw2 => ?_
  refine ⟨_, rfl, _, rfl, _, _, rfl, rfl, _, rfl, ?_⟩
  dsimp only [tNoPart]
  have s12 := s1.trans (hs.trans s2)
  refine rd_cutR (hv.same s12) fun w3 H3 s3 hw3 => ?_
  rw [cutT_from ds (by omega) (by omega)] at hw3
  have e1 : (i + 1).toNat = i.toNat + 1 := by omega
  rw [e1] at hw3
  refine rd_catR (hw2.same s3) hw3 ?_ fun w4 H4 s4 hw4 => k w4 H4 (s12.trans (s3.trans s4)) hw4
  rw [List.length_append, List.length_take, List.length_drop]
  exact Nat.le_of_lt (small1000 (by simp; omega))
end
section
variable {P : Program} {w : World} {K : PySem.W.Frag} {mg : Str → Option Value} {base : Heap}
theorem okX_need_loops (T : Top K mg) : FnOk P w K mg base (L2.CX P w) 3 T.a_need_loops T.d_need_loops ["thing"] (sp_need_loopsX K T.x_BadLoops.C) := by
  refine T.F_need_loops.okX sc_need_loops (fun vs H Q E h => ?_) (fun cdv A outer s H vs Q E hr h => ?_)
  · obtain ⟨v, d, rfl, hv, k1, k2⟩ := h
    rfl
  obtain ⟨v, d, rfl, hv, k1, k2⟩ := h
  refine ⟨_, (pss_cons (ps_if (PW.pt (pw_or (pt_not (pt_val (pe_callB (k_isi (K := K)) (by rfl) T.z_isinstance bt_isinstance (pa_cons (pv 0) (pa_cons (pe_bltn (v := .ty "tuple") (by rfl) T.z_tuple bt_tuple rfl) pa_nil))))) (pw_or1 (pt_cmpR op_gt (pe_callB (k_len (K := K)) (by rfl) T.z_len bt_len (pa_cons (pv 0) pa_nil)) (pe_glob (v := .int 6) rfl T.c_MOST_LOOPS ⟨_, rfl⟩) (nomark _))))) (pss_one (ps_raise rfl (takes_of rfl rfl rfl rfl) (pmk_oex T.x_BadLoops.ox T.x_BadLoops.iC T.x_BadLoops.tI (ok_BadLoops_init T) (hr.mono (by decide)) T.x_BadLoops.b .nil pass0 (by rfl) T.x_BadLoops.m (pa_cons (pe_tup pa_nil) pa_nil)))) pss_nil)
      (pss_cons (ps_for (passes_of rfl) rfl (k_piET (K := K) (by rfl) T.z_enumerate (pa_cons (pv 0) pa_nil)) (pg_tup rfl (pgs_cons (pg_name (i := 1) sc_need_loops.nd rfl (Or.inl rfl)) (pgs_cons (pg_name (i := 2) sc_need_loops.nd rfl (Or.inl rfl)) pgs_nil))) (pss_one (ps_if (PW.pt (pw_or (pt_not (pt_val (pe_callB (k_isi (K := K)) (by rfl) T.z_isinstance bt_isinstance (pa_cons (pv 2) (pa_cons (pe_bltn (v := .ty "tuple") (by rfl) T.z_tuple bt_tuple rfl) pa_nil))))) (pw_or1 (pt_not (pt_chain op_le op_le pe_int (pe_callB (k_len (K := K)) (by rfl) T.z_len bt_len (pa_cons (pv 2) pa_nil)) (pe_glob (v := .int 64) rfl T.c_MOST_THINGS ⟨_, rfl⟩)))))) (pss_one (ps_raise rfl (takes_of rfl rfl rfl rfl) (pmk_oex T.x_BadLoops.ox T.x_BadLoops.iC T.x_BadLoops.tI (ok_BadLoops_init T) (hr.mono (by decide)) T.x_BadLoops.b .nil pass0 (by rfl) T.x_BadLoops.m (pa_cons (pe_tup (pa_cons (pv 1) pa_nil)) pa_nil)))) pss_nil)))
      (pss_cons (ps_for (passes_of rfl) rfl (k_piET (K := K) (by rfl) T.z_enumerate (pa_cons (pv 0) pa_nil)) (pg_tup rfl (pgs_cons (pg_name (i := 1) sc_need_loops.nd rfl (Or.inl rfl)) (pgs_cons (pg_name (i := 2) sc_need_loops.nd rfl (Or.inl rfl)) pgs_nil))) (pss_one (ps_for (passes_of rfl) rfl (k_piET (K := K) (by rfl) T.z_enumerate (pa_cons (pv 2) pa_nil)) (pg_tup rfl (pgs_cons (pg_name (i := 3) sc_need_loops.nd rfl (Or.inl rfl)) (pgs_cons (pg_name (i := 4) sc_need_loops.nd rfl (Or.inl rfl)) pgs_nil))) (pss_one (ps_if (pt_not (pt_val (pe_call (ok_is_whole T) (hr.mono (by decide)) (by rfl) T.m_is_whole T.F_is_whole.kp T.b_is_whole .nil pass0 (pa_cons (pv 4) pa_nil)))) (pss_one (ps_raise rfl (takes_of rfl rfl rfl rfl) (pmk_oex T.x_BadLoops.ox T.x_BadLoops.iC T.x_BadLoops.tI (ok_BadLoops_init T) (hr.mono (by decide)) T.x_BadLoops.b .nil pass0 (by rfl) T.x_BadLoops.m (pa_cons (pe_tup (pa_cons (pv 1) (pa_cons (pv 3) pa_nil))) pa_nil)))) pss_nil)))))
      (pss_one (ps_ret (pv 0)))))), ?_⟩
  refine ⟨_, rfl, v, _, _, _, isTup d, rfl, ClsV.ty _, hv.ty, hv.kitTup, isTup d, rfl, ?_⟩
  have raise0 : faultOf d = some [] → ∀ H1, Same H H1 → ∀ t, H1 t = none → ∀ dd H', Same (upd H1 t (.tup [])) H' → H' dd = some (.xd [("place", .ref t)]) → E (.ref T.x_BadLoops.C) (some dd) H' := fun e H1 s1 t ht dd H' s' hd' =>
    k2 [] e dd (.ref t) H' (s1.trans ((same_upd ht _).trans s')) hd' (Dp.ofInts (SqT.of (s' _ _ upd_same)))
  cases d with
  | int i => exact iteT (iteT ⟨(by show 0 ≤ sizeLine; decide), fun t ht => ⟨(by show 1 ≤ 1000; decide), exc_made fun dd H' s' hd' => raise0 rfl H (Same.refl H) t ht dd H' s' hd'⟩⟩)
  | oth n => exact iteT (iteT ⟨(by show 0 ≤ sizeLine; decide), fun t ht => ⟨(by show 1 ≤ 1000; decide), exc_made fun dd H' s' hd' => raise0 rfl H (Same.refl H) t ht dd H' s' hd'⟩⟩)
  | tup ds =>
    refine iteF ?_
    obtain ⟨a, xs, rfl, hT, hX⟩ := hv.tuple
    have hlen := hX.len
    refine ⟨_, rfl, a, xs, rfl, .inr hT, _, _, rfl, rfl, _, rfl, ?_⟩
    by_cases h6 : 6 < ds.length
    · exact iteP (by omega) ⟨(by show 0 ≤ sizeLine; decide), fun t ht => ⟨(by show 1 ≤ 1000; decide), exc_made fun dd H' s' hd' => raise0 (fault6 h6) H (Same.refl H) t ht dd H' s' hd'⟩⟩
    refine iteN (by omega) ?_
    refine ⟨_, rfl, a, xs, rfl, hT, ?_⟩
    refine for_it walk_enumT (fun i σ H' => ∃ w1 w2, σ = [some (.ref a), w1, w2, none, none] ∧ Same H H' ∧ ∀ (j : Nat) (y : Dt), j < i → ds[j]? = some y → badLoop y = false)
      ⟨none, none, rfl, Same.refl H, fun j y hj => absurd hj (Nat.not_lt_zero j)⟩ (fun i σ H' _ ⟨_, _, _, s, _⟩ => Same.tk s _ _ hT) ?_ ?_
    · rintro i x σ H1 H2 hi ⟨w1, w2, rfl, s1, hb⟩ ⟨t, y, z, rfl, ht, rfl, hy, hz⟩
      cases hy
      obtain ⟨e, he, hE⟩ := hX.get hz
      have s2 := same_step s1 ht (.tup [.int (i : Nat), z])
      have hE2 := hE.same s2
      refine ⟨t, _, rfl, SqT.of upd_same, rfl, _, _, rfl, _, _, rfl, rfl, ?_⟩
      refine ⟨_, rfl, z, _, _, _, isTup e, rfl, ClsV.ty _, hE2.ty, hE2.kitTup, isTup e, rfl, ?_⟩
      have raise1 : badLoop e = true → ∀ t', (upd H1 t (.tup [.int (i : Nat), z])) t' = none → ∀ dd H', Same (upd (upd H1 t (.tup [.int (i : Nat), z])) t' (.tup [.int (i : Nat)])) H' → H' dd = some (.xd [("place", .ref t')]) → E (.ref T.x_BadLoops.C) (some dd) H' := fun eb t' ht' dd H' s' hd' =>
        k2 [i] (fault1 h6 he eb hb) dd (.ref t') H' (s2.trans ((same_upd ht' _).trans s')) hd' (Dp.ofInts (ns := [((i : Nat) : Int)]) (SqT.of (s' _ _ upd_same)))
      cases e with
      | int i' => exact iteT (iteT ⟨_, rfl, (by show 1 ≤ sizeLine; decide), fun t' ht' => ⟨(by show 1 ≤ 1000; decide), exc_made fun dd H' s' hd' => raise1 rfl t' ht' dd H' s' hd'⟩⟩)
      | oth n => exact iteT (iteT ⟨_, rfl, (by show 1 ≤ sizeLine; decide), fun t' ht' => ⟨(by show 1 ≤ 1000; decide), exc_made fun dd H' s' hd' => raise1 rfl t' ht' dd H' s' hd'⟩⟩)
      | tup es =>
        refine iteF ?_
        obtain ⟨b, ys, rfl, hU, hY⟩ := hE2.tuple
        have hleny := hY.len
        refine ⟨_, rfl, b, ys, rfl, .inr hU, _, _, rfl, rfl, _, rfl, ?_⟩
        by_cases c1 : 1 ≤ es.length
        · refine iteP (by omega) ?_
          refine ⟨_, _, rfl, rfl, _, rfl, ?_⟩
          by_cases c2 : es.length ≤ 64
          · have e2 : ((ys.length : Nat) : Int) ≤ 64 := by omega
            show (if (!decide (((ys.length : Nat) : Int) ≤ 64)) = true then _ else _)
            rw [decide_eq_true e2]
            refine iteF ⟨_, _, rfl, s2, fun j y hj hy => ?_⟩
            by_cases ej : j < i
            · exact hb j y ej hy
            · have ej' : j = i := by omega
              subst ej'
              rw [he] at hy
              cases hy
              show (!(decide (1 ≤ es.length) && decide (es.length ≤ 64))) = false
              rw [decide_eq_true c1, decide_eq_true c2]
              rfl
          · have e2 : ¬ ((ys.length : Nat) : Int) ≤ 64 := by omega
            show (if (!decide (((ys.length : Nat) : Int) ≤ 64)) = true then _ else _)
            rw [decide_eq_false e2]
            refine iteT ⟨_, rfl, (by show 1 ≤ sizeLine; decide), fun t' ht' => ⟨(by show 1 ≤ 1000; decide), exc_made fun dd H' s' hd' => raise1 ?_ t' ht' dd H' s' hd'⟩⟩
            show (!(decide (1 ≤ es.length) && decide (es.length ≤ 64))) = true
            rw [decide_eq_false c2, Bool.and_false]
            rfl
        · refine iteN (by omega) ⟨_, rfl, ?_⟩
          refine iteT ⟨_, rfl, (by show 1 ≤ sizeLine; decide), fun t' ht' => ⟨(by show 1 ≤ 1000; decide), exc_made fun dd H' s' hd' => raise1 ?_ t' ht' dd H' s' hd'⟩⟩
          show (!(decide (1 ≤ es.length) && decide (es.length ≤ 64))) = true
          rw [decide_eq_false c1]
          rfl
    rintro σ H1 ⟨w1, w2, rfl, s1, hb⟩
    have hgood : ∀ (j : Nat) (y : Dt), ds[j]? = some y → badLoop y = false := fun j y hy => hb j y (by rw [hlen]; exact (List.getElem?_eq_some_iff.mp hy).1) hy
    have hT1 := Same.tk s1 _ _ hT
    refine ⟨_, rfl, a, xs, rfl, hT1, ?_⟩
    refine for_it walk_enumT (fun i σ H' => ∃ w1 w2 w3 w4, σ = [some (.ref a), w1, w2, w3, w4] ∧ Same H H' ∧ ∀ (j : Nat) (y : Dt), j < i → ds[j]? = some y → firstBad y = none)
      ⟨_, _, none, none, rfl, s1, fun j y hj => absurd hj (Nat.not_lt_zero j)⟩ (fun i σ H' _ ⟨_, _, _, _, _, s, _⟩ => Same.tk s _ _ hT) ?_ ?_
    · rintro i x σ H1 H2 hi ⟨w1, w2, w3, w4, rfl, s1, hf⟩ ⟨t, y, z, rfl, ht, rfl, hy, hz⟩
      cases hy
      obtain ⟨e, he, hE⟩ := hX.get hz
      have s2 := same_step s1 ht (.tup [.int (i : Nat), z])
      have hE2 := hE.same s2
      refine ⟨t, _, rfl, SqT.of upd_same, rfl, _, _, rfl, _, _, rfl, rfl, ?_⟩
      have ge := hgood i e he
      cases e with
      | int i' => cases ge
      | oth n => cases ge
      | tup es =>
        obtain ⟨b, ys, rfl, hU, hY⟩ := hE2.tuple
        have hleny := hY.len
        refine ⟨_, rfl, b, ys, rfl, hU, ?_⟩
        refine for_it walk_enumT (fun j σ H' => ∃ w2 w3 w4, σ = [some (.ref a), some (.int (i : Nat)), w2, w3, w4] ∧ Same H H' ∧ Same (upd H1 t (.tup [.int (i : Nat), .ref b])) H' ∧ ∀ (k : Nat) (y : Dt), k < j → es[k]? = some y → badNum y = false)
          ⟨_, _, _, rfl, s2, Same.refl _, fun j y hj => absurd hj (Nat.not_lt_zero j)⟩ (fun j σ H' _ ⟨_, _, _, _, _, s, _⟩ => Same.tk s _ _ hU) ?_ ?_
        · rintro j x σ H3 H4 hj ⟨v2, v3, v4, rfl, s3, s3', hn⟩ ⟨t', y', z', rfl, ht', rfl, hy', hz'⟩
          cases hy'
          obtain ⟨c, hc, hC⟩ := hY.get hz'
          have s4 := same_step s3 ht' (.tup [.int (j : Nat), z'])
          have s4' := same_step s3' ht' (.tup [.int (j : Nat), z'])
          have hC4 := hC.same s4'
          obtain ⟨b1, b2, q1, q2, q3⟩ := hC4.kitInt
          refine ⟨t', _, rfl, SqT.of upd_same, rfl, _, _, rfl, _, _, rfl, rfl, ?_⟩
          refine ⟨_, rfl, z', _, b1, b2, rfl, hC4.ty, q1, q2, _, rfl, ?_⟩
          rw [q3]
          cases en : isNum c with
          | true =>
            refine iteF ⟨_, _, _, rfl, s4, s4', fun k y hk hy => ?_⟩
            by_cases ek : k < j
            · exact hn k y ek hy
            · have ek' : k = j := by omega
              subst ek'
              rw [hc] at hy
              cases hy
              show (!isNum c) = false
              rw [en]
              rfl
          | false =>
            refine iteT ⟨_, rfl, _, rfl, (by show 2 ≤ sizeLine; decide), fun t5 ht5 => ⟨(by show 1 ≤ 1000; decide), exc_made fun dd H' s' hd' => ?_⟩⟩
            refine k2 [i, j] (fault2 h6 hgood he ?_ hf) dd (.ref t5) H' (s4.trans ((same_upd ht5 _).trans s')) hd' (Dp.ofInts (ns := [((i : Nat) : Int), ((j : Nat) : Int)]) (SqT.of (s' _ _ upd_same)))
            refine fi_some hc ?_ hn
            show (!isNum c) = true
            rw [en]
            rfl
        · rintro σ H3 ⟨v2, v3, v4, rfl, s3, s3', hn⟩
          refine ⟨_, _, _, _, rfl, s3, fun j y hj hy => ?_⟩
          by_cases ej : j < i
          · exact hf j y ej hy
          · have ej' : j = i := by omega
            subst ej'
            rw [he] at hy
            cases hy
            exact fi_none fun k y hy => hn k y (by rw [hleny]; exact (List.getElem?_eq_some_iff.mp hy).1) hy
    rintro σ H2 ⟨w1, w2, w3, w4, rfl, s2, hf⟩
    have hok := fault0 h6 hgood fun j y hy => hf j y (by rw [hlen]; exact (List.getElem?_eq_some_iff.mp hy).1) hy
    exact ⟨_, rfl, k1 hok H2 s2⟩
end
section
variable {P : Program} {w : World} {K : PySem.W.Frag} {mg : Str → Option Value} {base : Heap}
theorem ok_need_loops (T : Top K mg) : FnOk P w K mg base CX0 2 T.a_need_loops T.d_need_loops ["thing"] (sp_need_loops K) := by
  refine T.F_need_loops.ok sc_need_loops (fun vs H Q E h => ?_) (fun cdv A outer s H vs Q E hr h => ?_)
  · obtain ⟨v, ls, rfl, hv, ok, k⟩ := h
    rfl
  obtain ⟨v, ls, rfl, hv, ok, k⟩ := h
  refine ⟨_, (pss_cons (ps_if (PW.pt (pw_or (pt_not (pt_val (pe_callB (k_isi (K := K)) (by rfl) T.z_isinstance bt_isinstance (pa_cons (pv 0) (pa_cons (pe_bltn (v := .ty "tuple") (by rfl) T.z_tuple bt_tuple rfl) pa_nil))))) (pw_or1 (pt_cmpR op_gt (pe_callB (k_len (K := K)) (by rfl) T.z_len bt_len (pa_cons (pv 0) pa_nil)) (pe_glob (v := .int 6) rfl T.c_MOST_LOOPS ⟨_, rfl⟩) (nomark _))))) (pss_one ps_never) pss_nil)
      (pss_cons (ps_for PassesOwn.never rfl (k_piET (K := K) (by rfl) T.z_enumerate (pa_cons (pv 0) pa_nil)) (pg_tup rfl (pgs_cons (pg_name (i := 1) sc_need_loops.nd rfl (Or.inl rfl)) (pgs_cons (pg_name (i := 2) sc_need_loops.nd rfl (Or.inl rfl)) pgs_nil))) (pss_one (ps_if (PW.pt (pw_or (pt_not (pt_val (pe_callB (k_isi (K := K)) (by rfl) T.z_isinstance bt_isinstance (pa_cons (pv 2) (pa_cons (pe_bltn (v := .ty "tuple") (by rfl) T.z_tuple bt_tuple rfl) pa_nil))))) (pw_or1 (pt_not (pt_chain op_le op_le pe_int (pe_callB (k_len (K := K)) (by rfl) T.z_len bt_len (pa_cons (pv 2) pa_nil)) (pe_glob (v := .int 64) rfl T.c_MOST_THINGS ⟨_, rfl⟩)))))) (pss_one ps_never) pss_nil)))
      (pss_cons (ps_for PassesOwn.never rfl (k_piET (K := K) (by rfl) T.z_enumerate (pa_cons (pv 0) pa_nil)) (pg_tup rfl (pgs_cons (pg_name (i := 1) sc_need_loops.nd rfl (Or.inl rfl)) (pgs_cons (pg_name (i := 2) sc_need_loops.nd rfl (Or.inl rfl)) pgs_nil))) (pss_one (ps_for PassesOwn.never rfl (k_piET (K := K) (by rfl) T.z_enumerate (pa_cons (pv 2) pa_nil)) (pg_tup rfl (pgs_cons (pg_name (i := 3) sc_need_loops.nd rfl (Or.inl rfl)) (pgs_cons (pg_name (i := 4) sc_need_loops.nd rfl (Or.inl rfl)) pgs_nil))) (pss_one (ps_if (pt_not (pt_val (pe_call (ok_is_whole T) (hr.mono (by decide)) (by rfl) T.m_is_whole T.F_is_whole.kp T.b_is_whole .nil pass0 (pa_cons (pv 4) pa_nil)))) (pss_one ps_never) pss_nil)))))
      (pss_one (ps_ret (pv 0)))))), ?_⟩
  obtain ⟨ok1, ok2⟩ := ok
  obtain ⟨a, xs, rfl, hT, hX⟩ := hv.tuple
  have hlen := hX.len
  rw [List.length_map] at hlen
  refine ⟨_, rfl, _, _, _, _, true, rfl, ClsV.ty _, hT.ty, kit_tt, true, rfl, iteF ?_⟩
  refine ⟨_, rfl, a, xs, rfl, .inr hT, _, _, rfl, rfl, _, rfl, iteN (by omega) ?_⟩
  refine ⟨_, rfl, a, xs, rfl, hT, ?_⟩
  refine for_it walk_enumT (fun i σ H' => ∃ w1 w2, σ = [some (.ref a), w1, w2, none, none] ∧ Same H H') ⟨none, none, rfl, Same.refl H⟩ (fun i σ H' _ ⟨_, _, _, s⟩ => Same.tk s _ _ hT) ?_ ?_
  · rintro i x σ H1 H2 hi ⟨w1, w2, rfl, s1⟩ ⟨t, y, z, rfl, ht, rfl, hy, hz⟩
    cases hy
    obtain ⟨l, b, hl, rfl, hB⟩ := loops_get hX hz
    obtain ⟨k1, k2⟩ := ok2 l (List.mem_of_getElem? hl)
    have s2 := same_step s1 ht (.tup [.int (i : Nat), .ref b])
    have hB2 := Same.tk s2 _ _ hB
    refine ⟨t, _, rfl, SqT.of upd_same, rfl, _, _, rfl, _, _, rfl, rfl, ?_⟩
    refine ⟨_, rfl, _, _, _, _, true, rfl, ClsV.ty _, hB2.ty, kit_tt, true, rfl, iteF ?_⟩
    refine ⟨_, rfl, b, _, rfl, .inr hB2, _, _, rfl, rfl, _, rfl, iteP (by rw [List.length_map]; omega) ?_⟩
    refine ⟨_, _, rfl, rfl, _, rfl, ?_⟩
    have e : ((l.map V.int).length : Int) ≤ 64 := by
      rw [List.length_map]
      omega
    show (if (!decide (((l.map V.int).length : Int) ≤ (64 : Int))) = true then _ else _)
    rw [decide_eq_true e]
    exact iteF ⟨_, _, rfl, s2⟩
  rintro σ H1 ⟨w1, w2, rfl, s1⟩
  have hT1 := Same.tk s1 _ _ hT
  refine ⟨_, rfl, a, xs, rfl, hT1, ?_⟩
  refine for_it walk_enumT (fun i σ H' => ∃ w1 w2 w3 w4, σ = [some (.ref a), w1, w2, w3, w4] ∧ Same H H') ⟨_, _, none, none, rfl, s1⟩ (fun i σ H' _ ⟨_, _, _, _, _, s⟩ => Same.tk s _ _ hT) ?_ ?_
  · rintro i x σ H1 H2 hi ⟨w1, w2, w3, w4, rfl, s1⟩ ⟨t, y, z, rfl, ht, rfl, hy, hz⟩
    cases hy
    obtain ⟨l, b, hl, rfl, hB⟩ := loops_get hX hz
    have s2 := same_step s1 ht (.tup [.int (i : Nat), .ref b])
    have hB2 := Same.tk s2 _ _ hB
    refine ⟨t, _, rfl, SqT.of upd_same, rfl, _, _, rfl, _, _, rfl, rfl, ?_⟩
    refine ⟨_, rfl, b, _, rfl, hB2, ?_⟩
    refine for_it walk_enumT (fun j σ H' => ∃ w1 w2 w3 w4, σ = [some (.ref a), w1, w2, w3, w4] ∧ Same H H') ⟨_, _, _, _, rfl, s2⟩ (fun j σ H' _ ⟨_, _, _, _, _, s⟩ => Same.tk s _ _ hB) ?_ ?_
    · rintro j x σ H3 H4 hj ⟨v1, v2, v3, v4, rfl, s3⟩ ⟨t', y', z', rfl, ht', rfl, hy', hz'⟩
      cases hy'
      obtain ⟨c, hc, rfl⟩ := map_int_get hz'
      have s4 := same_step s3 ht' (.tup [.int (j : Nat), .int c])
      refine ⟨t', _, rfl, SqT.of upd_same, rfl, _, _, rfl, _, _, rfl, rfl, ?_⟩
      refine ⟨_, rfl, .int c, _, true, false, rfl, .base (.int c), kit_ii, kit_ib, _, rfl, ?_⟩
      exact iteF ⟨_, _, _, _, rfl, s4⟩
    · rintro σ H3 ⟨v1, v2, v3, v4, rfl, s3⟩
      exact ⟨_, _, _, _, rfl, s3⟩
  rintro σ H2 ⟨w1, w2, w3, w4, rfl, s2⟩
  exact ⟨_, rfl, k H2 s2⟩
end
section
variable {P : Program} {w : World} {K : PySem.W.Frag} {mg : Str → Option Value} {base : Heap}
theorem ok__law_number (T : Top K mg) : FnOk P w K mg base CX0 2 T.a__law_number T.d__law_number ["m"] (sp__law_number K) := by
  refine T.F__law_number.ok sc__law_number (fun vs H Q E h => ?_) (fun cdv A outer s H vs Q E hr h => ?_)
  · obtain ⟨m, n, rfl, M, hn, k⟩ := h
    rfl
  obtain ⟨m, n, rfl, M, hn, k⟩ := h
  refine ⟨_, (pss_cons (ps_set (i := 1) sc__law_number.nd rfl (Or.inl rfl) (pe_call (ok__law_next T) (hr.mono (by decide)) (by rfl) T.m__law_next T.F__law_next.kp T.b__law_next .nil pass0 (pa_cons (pv 0) (pa_cons pe_int pa_nil))))
      (pss_cons (ps_if (pt_cmpR op_eq (pv 1) pe_int (nomark _)) (pss_one (ps_ret pe_int)) pss_nil)
      (pss_cons (ps_if (pt_cmpR op_eq (pv 1) pe_int (nomark _)) (pss_one (ps_ret (pe_op op_sub (pe_call (ok__law_next T) (hr.mono (by decide)) (by rfl) T.m__law_next T.F__law_next.kp T.b__law_next .nil pass0 (pa_cons (pv 0) (pa_cons (pe_op op_pow pe_int pe_int) pa_nil))) (pe_op op_pow pe_int pe_int)))) pss_nil)
      (pss_one (ps_ret (pe_ifExp (pt_cmpR op_eq (pv 1) pe_int (nomark _)) (pe_op op_sub (pe_call (ok__law_next T) (hr.mono (by decide)) (by rfl) T.m__law_next T.F__law_next.kp T.b__law_next .nil pass0 (pa_cons (pv 0) (pa_cons pe_int pa_nil))) pe_int) (pe_op op_sub (pe_call (ok__law_next T) (hr.mono (by decide)) (by rfl) T.m__law_next T.F__law_next.kp T.b__law_next .nil pass0 (pa_cons (pv 0) (pa_cons pe_int pa_nil))) pe_int))))))), ?_⟩
  refine ⟨_, rfl, m, 4, n, rfl, M, by decide, by decide, by omega, fun r n1 H1 r0 r4 hn1 M1 e1 => ?_⟩
  refine ⟨_, rfl, rfl, _, rfl, ?_⟩
  refine ite2 (fun _ => k 0 n1 H1 ⟨by decide, by decide⟩ (by omega) M1 e1) (fun _ => ?_)
  refine ⟨_, rfl, rfl, _, rfl, ?_⟩
  refine ite2 (fun _ => ?_) (fun _ => ?_)
  · refine ⟨_, rfl, _, _, rfl, rfl, ⟨by decide, by decide, by decide⟩, m, _, n1, rfl, M1, by decide, by decide, by omega, fun r2 n2 H2 a0 a1 hn2 M2 e2 => ⟨_, _, rfl, rfl, ⟨by decide, by decide, by decide⟩, _, _, rfl, rfl, ?_⟩⟩
    have p30 : (10 : Int) ^ (30 : Int).toNat = 10 ^ 30 := rfl
    have p29 : (10 : Int) ^ (29 : Int).toNat = 10 ^ 29 := rfl
    rw [p30] at a1
    refine k _ n2 H2 ?_ (by omega) M2 (e1.trans e2)
    rw [p29]
    exact ⟨by omega, by omega⟩
  · refine ⟨_, rfl, rfl, _, rfl, ?_⟩
    refine ite2 (fun _ => ?_) (fun _ => ?_)
    · refine ⟨_, rfl, m, 7, n1, rfl, M1, by decide, by decide, by omega, fun r2 n2 H2 a0 a1 hn2 M2 e2 => ⟨_, _, rfl, rfl, ?_⟩⟩
      exact k _ n2 H2 ⟨by omega, by omega⟩ (by omega) M2 (e1.trans e2)
    · refine ⟨_, rfl, m, 200, n1, rfl, M1, by decide, by decide, by omega, fun r2 n2 H2 a0 a1 hn2 M2 e2 => ⟨_, _, rfl, rfl, ?_⟩⟩
      exact k _ n2 H2 ⟨by omega, by omega⟩ (by omega) M2 (e1.trans e2)
end
section
variable {P : Program} {w : World} {K : PySem.W.Frag} {mg : Str → Option Value} {base : Heap}
theorem ok__law_lengths (T : Top K mg) : FnOk P w K mg base CX0 2 T.a__law_lengths T.d__law_lengths ["m", "many", "most"] (sp__law_lengths K) := by
  refine T.F__law_lengths.ok sc__law_lengths (fun vs H Q E h => ?_) (fun cdv A outer s H vs Q E hr h => ?_)
  · obtain ⟨m, many, most, n, rfl, M, h0, h1, h2, h3, hn, k⟩ := h
    rfl
  obtain ⟨m, many, most, n, rfl, M, h0, h1, h2, h3, hn, k⟩ := h
  refine ⟨_, (pss_one (ps_ret (pe_callTy (k_tuple (K := K)) (by rfl) T.z_tuple bt_tuple (pa_cons (pe_lc (own := [("k", 3)]) rfl sc__law_lengths.nd (pi_range1 (by rfl) T.z_range (pa_cons (pe_call (ok__law_next T) (hr.mono (by decide)) (by rfl) T.m__law_next T.F__law_next.kp T.b__law_next .nil pass0 (pa_cons (pv 0) (pa_cons (pe_op op_add (pv 1) pe_int) pa_nil))) pa_nil)) (blkOk_by (own := [("k", 3)]) (N := ["m", "many", "most", "k"]) (sc := defScope s__law_lengths) (by decide +kernel)) (fun _ _ _ _ _ => (pg_name (i := 3) sc__law_lengths.nd rfl (Or.inl rfl))) (fun _ _ _ _ _ => pts_nil) (fun _ _ _ _ _ => (pe_op op_add pe_int (pe_call (ok__law_next T) (hr.mono (by decide)) (by rfl) T.m__law_next T.F__law_next.kp T.b__law_next .nil pass0 (pa_cons (pv 0) (pa_cons (pv 2) pa_nil)))))) pa_nil)))), ?_⟩
  refine ⟨_, rfl, _, rfl, _, _, rfl, rfl, m, _, n, rfl, M, by omega, by omega, by omega, fun r n1 H1 r0 r4 hn1 M1 e1 => ?_⟩
  refine ⟨r, rfl, by omega, by omega, fun D hD => ?_⟩
  refine lc_it walk_range (fun i H' => ∃ (acc : List Int) (n' : Nat), H' D = some (.lst (acc.map V.int)) ∧ acc.length = i ∧ (∀ z ∈ acc, 1 ≤ z ∧ z ≤ most) ∧ n' ≤ n1 + i ∧ MS H' m n' ∧ ¬ Lf H' m D ∧ Ef m H1 H')
    ⟨[], n1, upd_same, rfl, (by intro z hz; cases hz), Nat.le_refl _, M1.same (same_upd hD _), fun z => M1.notLf hD (z.upd (M1.mne hD)), Ef.ofSame M1 (same_upd hD _)⟩ (fun _ _ _ _ => trivial) ?_ ?_
  · rintro i x H2 H3 hi ⟨acc, n', hA, hi2, hb, hn', M2, nl, e2⟩ ⟨rfl, rfl⟩
    refine ⟨rfl, ?_⟩
    have hir : i < 100 := by omega
    refine ⟨_, rfl, _, rfl, m, most, n', rfl, M2, by omega, by omega, by omega, fun r2 n2 H4 a0 a1 hn2 M4 e4 => ⟨_, _, rfl, rfl, ?_⟩⟩
    obtain ⟨hA4, nl4⟩ := e4.lst M2 hA nl
    refine ⟨_, hA4, by rw [List.length_map]; exact small1000 (by omega), acc ++ [1 + r2], n2, ?_, ?_, ?_, by omega, M4.upd hA4 nl4, fun z => nl4 (z.upd (M4.mneL hA4)), (e2.trans e4).upd hD (M4.mneL hA4)⟩
    · rw [upd_same, List.map_append]
      all_goals rfl
    · rw [List.length_append, List.length_singleton, hi2]
    · intro y hy
      rcases List.mem_append.mp hy with q | q
      · exact hb y q
      · rw [List.mem_singleton.mp q]
        exact ⟨by omega, by omega⟩
  · rintro H2 ⟨acc, n', hA, hi2, hb, hn', M2, nl, e2⟩
    refine ⟨D, _, rfl, .inl ⟨SqL.of hA, fun t ht => ?_⟩⟩
    refine k _ acc n' _ (Dp.ofInts (SqT.of upd_same)) (by omega) hb (by omega) (M2.same (same_upd ht _)) ((e1.trans e2).trans (Ef.ofSame M2 (same_upd ht _)))
end
section
variable {P : Program} {w : World} {K : PySem.W.Frag} {mg : Str → Option Value} {base : Heap}
theorem ok__law_fault (T : Top K mg) : FnOk P w K mg base CX0 2 T.a__law_fault T.d__law_fault ["thing"] (sp__law_fault K) := by
  refine T.F__law_fault.ok sc__law_fault (fun vs H Q E h => ?_) (fun cdv A outer s H vs Q E hr h => ?_)
  · obtain ⟨v, d, rfl, hv, k⟩ := h
    rfl
  obtain ⟨v, d, rfl, hv, k⟩ := h
  refine ⟨_, (pss_cons (ps_if (PW.pt (pw_or (pt_not (pt_val (pe_callB (k_isi (K := K)) (by rfl) T.z_isinstance bt_isinstance (pa_cons (pv 0) (pa_cons (pe_bltn (v := .ty "tuple") (by rfl) T.z_tuple bt_tuple rfl) pa_nil))))) (pw_or1 (pt_cmpR op_gt (pe_callB (k_len (K := K)) (by rfl) T.z_len bt_len (pa_cons (pv 0) pa_nil)) pe_int (nomark _))))) (pss_one (ps_ret (pe_lst (pa_cons (pe_tup pa_nil) pa_nil)))) pss_nil)
      (pss_cons (ps_for PassesOwn.never rfl (k_piET (K := K) (by rfl) T.z_enumerate (pa_cons (pv 0) pa_nil)) (pg_tup rfl (pgs_cons (pg_name (i := 1) sc__law_fault.nd rfl (Or.inl rfl)) (pgs_cons (pg_name (i := 2) sc__law_fault.nd rfl (Or.inl rfl)) pgs_nil))) (pss_one (ps_if (PW.pt (pw_or (pt_not (pt_val (pe_callB (k_isi (K := K)) (by rfl) T.z_isinstance bt_isinstance (pa_cons (pv 2) (pa_cons (pe_bltn (v := .ty "tuple") (by rfl) T.z_tuple bt_tuple rfl) pa_nil))))) (pw_or1 (pt_not (pt_chain op_le op_le pe_int (pe_callB (k_len (K := K)) (by rfl) T.z_len bt_len (pa_cons (pv 2) pa_nil)) pe_int))))) (pss_one (ps_ret (pe_lst (pa_cons (pe_tup (pa_cons (pv 1) pa_nil)) pa_nil)))) pss_nil)))
      (pss_cons (ps_for PassesOwn.never rfl (k_piET (K := K) (by rfl) T.z_enumerate (pa_cons (pv 0) pa_nil)) (pg_tup rfl (pgs_cons (pg_name (i := 1) sc__law_fault.nd rfl (Or.inl rfl)) (pgs_cons (pg_name (i := 2) sc__law_fault.nd rfl (Or.inl rfl)) pgs_nil))) (pss_cons (ps_setLc (i := 3) (own := [("j", 4), ("number", 5)]) rfl sc__law_fault.nd rfl rfl (sw_true rfl rfl rfl (by decide +kernel)) (k_piET (K := K) (by rfl) T.z_enumerate (pa_cons (pv 2) pa_nil)) (blkOk_by (own := [("j", 4), ("number", 5)]) (N := ["thing", "k", "loop", "wrong", "j", "number"]) (sc := defScope s__law_fault) (by decide +kernel)) (fun _ _ _ _ _ => (k_pgt (K := K) (n := 2) rfl (pgs_cons (pg_name (i := 4) sc__law_fault.nd rfl (Or.inl rfl)) (pgs_cons (pg_name (i := 5) sc__law_fault.nd rfl (Or.inl rfl)) pgs_nil)))) (fun _ _ _ _ _ => (pts_one (pt_not (pt_val (pe_call (ok__law_is_number T) (hr.mono (by decide)) (by rfl) T.m__law_is_number T.F__law_is_number.kp T.b__law_is_number .nil pass0 (pa_cons (pv 5) pa_nil)))))) (fun _ _ _ _ _ => (pv 4)))
      (pss_one (ps_if (pt_cmpR (k_neD (K := K) hr.units) (pv 3) (pe_lst pa_nil) (nomark _)) (pss_one (ps_ret (pe_lst (pa_cons (pe_tup (pa_cons (pv 1) (pa_cons (pe_ix (k_ixL (K := K)) (pv 3) pe_int (fun _ _ => rfl)) pa_nil))) pa_nil)))) pss_nil))))
      (pss_one (ps_ret pe_non))))), ?_⟩
  refine ⟨_, rfl, v, _, _, _, isTup d, rfl, ClsV.ty _, hv.ty, hv.kitTup, isTup d, rfl, ?_⟩
  have ret0 : faultOf d = some [] → ∀ t, H t = none → ∀ l, (upd H t (.tup [])) l = none → Q (.ref l) (upd (upd H t (.tup [])) l (.lst [.ref t])) := fun e t ht l hl => by
    refine k (.ref l) _ ((same_upd ht _).trans (same_upd hl _)) ?_
    unfold outD
    rw [e]
    exact .lst (SqL.of upd_same) (.cons (Dp.ofInts (ns := []) (SqT.of ((same_upd hl _) _ _ upd_same))) .nil)
  cases d with
  | int i => exact iteT (iteT ⟨(by show 0 ≤ sizeLine; decide), fun t ht => ⟨(by show 1 ≤ sizeLine; decide), fun l hl => ret0 rfl t ht l hl⟩⟩)
  | oth n => exact iteT (iteT ⟨(by show 0 ≤ sizeLine; decide), fun t ht => ⟨(by show 1 ≤ sizeLine; decide), fun l hl => ret0 rfl t ht l hl⟩⟩)
  | tup ds =>
    refine iteF ?_
    obtain ⟨a, xs, rfl, hT, hX⟩ := hv.tuple
    have hlen := hX.len
    refine ⟨_, rfl, a, xs, rfl, .inr hT, _, _, rfl, rfl, _, rfl, ?_⟩
    by_cases h6 : 6 < ds.length
    · exact iteP (by omega) ⟨(by show 0 ≤ sizeLine; decide), fun t ht => ⟨(by show 1 ≤ sizeLine; decide), fun l hl => ret0 (fault6 h6) t ht l hl⟩⟩
    refine iteN (by omega) ?_
    refine ⟨_, rfl, a, xs, rfl, hT, ?_⟩
    refine for_it walk_enumT (fun i σ H' => ∃ w1 w2, σ = [some (.ref a), w1, w2, none, none, none] ∧ Same H H' ∧ ∀ (j : Nat) (y : Dt), j < i → ds[j]? = some y → badLoop y = false)
      ⟨none, none, rfl, Same.refl H, fun j y hj => absurd hj (Nat.not_lt_zero j)⟩ (fun i σ H' _ ⟨_, _, _, s, _⟩ => Same.tk s _ _ hT) ?_ ?_
    · rintro i x σ H1 H2 hi ⟨w1, w2, rfl, s1, hb⟩ ⟨t, y, z, rfl, ht, rfl, hy, hz⟩
      cases hy
      obtain ⟨e, he, hE⟩ := hX.get hz
      have s2 := same_step s1 ht (.tup [.int (i : Nat), z])
      have hE2 := hE.same s2
      refine ⟨t, _, rfl, SqT.of upd_same, rfl, _, _, rfl, _, _, rfl, rfl, ?_⟩
      refine ⟨_, rfl, z, _, _, _, isTup e, rfl, ClsV.ty _, hE2.ty, hE2.kitTup, isTup e, rfl, ?_⟩
      have ret1 : badLoop e = true → ∀ t', (upd H1 t (.tup [.int (i : Nat), z])) t' = none → ∀ l, (upd (upd H1 t (.tup [.int (i : Nat), z])) t' (.tup [.int (i : Nat)])) l = none →
          Q (.ref l) (upd (upd (upd H1 t (.tup [.int (i : Nat), z])) t' (.tup [.int (i : Nat)])) l (.lst [.ref t'])) := fun eb t' ht' l hl => by
        refine k (.ref l) _ (s2.trans ((same_upd ht' _).trans (same_upd hl _))) ?_
        unfold outD
        rw [fault1 h6 he eb hb]
        exact .lst (SqL.of upd_same) (.cons (Dp.ofInts (ns := [((i : Nat) : Int)]) (SqT.of ((same_upd hl _) _ _ upd_same))) .nil)
      cases e with
      | int i' => exact iteT (iteT ⟨_, rfl, (by show 1 ≤ sizeLine; decide), fun t' ht' => ⟨(by show 1 ≤ sizeLine; decide), fun l hl => ret1 rfl t' ht' l hl⟩⟩)
      | oth n => exact iteT (iteT ⟨_, rfl, (by show 1 ≤ sizeLine; decide), fun t' ht' => ⟨(by show 1 ≤ sizeLine; decide), fun l hl => ret1 rfl t' ht' l hl⟩⟩)
      | tup es =>
        refine iteF ?_
        obtain ⟨b, ys, rfl, hU, hY⟩ := hE2.tuple
        have hleny := hY.len
        refine ⟨_, rfl, b, ys, rfl, .inr hU, _, _, rfl, rfl, _, rfl, ?_⟩
        by_cases c1 : 1 ≤ es.length
        · refine iteP (by omega) ?_
          refine ⟨_, _, rfl, rfl, _, rfl, ?_⟩
          by_cases c2 : es.length ≤ 64
          · have e2 : ((ys.length : Nat) : Int) ≤ 64 := by omega
            show (if (!decide (((ys.length : Nat) : Int) ≤ 64)) = true then _ else _)
            rw [decide_eq_true e2]
            refine iteF ⟨_, _, rfl, s2, fun j y hj hy => ?_⟩
            by_cases ej : j < i
            · exact hb j y ej hy
            · have ej' : j = i := by omega
              subst ej'
              rw [he] at hy
              cases hy
              show (!(decide (1 ≤ es.length) && decide (es.length ≤ 64))) = false
              rw [decide_eq_true c1, decide_eq_true c2]
              rfl
          · have e2 : ¬ ((ys.length : Nat) : Int) ≤ 64 := by omega
            show (if (!decide (((ys.length : Nat) : Int) ≤ 64)) = true then _ else _)
            rw [decide_eq_false e2]
            refine iteT ⟨_, rfl, (by show 1 ≤ sizeLine; decide), fun t' ht' => ⟨(by show 1 ≤ sizeLine; decide), fun l hl => ret1 ?_ t' ht' l hl⟩⟩
            show (!(decide (1 ≤ es.length) && decide (es.length ≤ 64))) = true
            rw [decide_eq_false c2, Bool.and_false]
            rfl
        · refine iteN (by omega) ⟨_, rfl, ?_⟩
          refine iteT ⟨_, rfl, (by show 1 ≤ sizeLine; decide), fun t' ht' => ⟨(by show 1 ≤ sizeLine; decide), fun l hl => ret1 ?_ t' ht' l hl⟩⟩
          show (!(decide (1 ≤ es.length) && decide (es.length ≤ 64))) = true
          rw [decide_eq_false c1]
          rfl
    rintro σ H1 ⟨w1, w2, rfl, s1, hb⟩
    have hgood : ∀ (j : Nat) (y : Dt), ds[j]? = some y → badLoop y = false := fun j y hy => hb j y (by rw [hlen]; exact (List.getElem?_eq_some_iff.mp hy).1) hy
    have hT1 := Same.tk s1 _ _ hT
    refine ⟨_, rfl, a, xs, rfl, hT1, ?_⟩
    refine for_it walk_enumT (fun i σ H' => ∃ w1 w2 w3, σ = [some (.ref a), w1, w2, w3, none, none] ∧ Same H H' ∧ ∀ (j : Nat) (y : Dt), j < i → ds[j]? = some y → firstBad y = none)
      ⟨_, _, none, rfl, s1, fun j y hj => absurd hj (Nat.not_lt_zero j)⟩ (fun i σ H' _ ⟨_, _, _, _, s, _⟩ => Same.tk s _ _ hT) ?_ ?_
    · rintro i x σ H1 H2 hi ⟨w1, w2, w3, rfl, s1, hf⟩ ⟨t, y, z, rfl, ht, rfl, hy, hz⟩
      cases hy
      obtain ⟨e, he, hE⟩ := hX.get hz
      have s2 := same_step s1 ht (.tup [.int (i : Nat), z])
      have hE2 := hE.same s2
      refine ⟨t, _, rfl, SqT.of upd_same, rfl, _, _, rfl, _, _, rfl, rfl, ?_⟩
      have ge := hgood i e he
      cases e with
      | int i' => cases ge
      | oth n => cases ge
      | tup es =>
        obtain ⟨b, ys, rfl, hU, hY⟩ := hE2.tuple
        have hleny := hY.len
        have e64 : es.length ≤ 64 := by
          have q : (!(decide (1 ≤ es.length) && decide (es.length ≤ 64))) = false := ge
          simp at q
          exact q.2
        refine ⟨_, rfl, b, ys, rfl, hU, fun D hD => ?_⟩
        refine lc_it walk_enumT (fun j H' => ∃ acc : List Int, H' D = some (.lst (acc.map V.int)) ∧ acc.length ≤ j ∧ Same (upd H1 t (.tup [.int (i : Nat), .ref b])) H' ∧
            ((acc = [] ∧ ∀ (k : Nat) (y : Dt), k < j → es[k]? = some y → badNum y = false) ∨ ∃ (k : Nat) (r : List Int), acc = (k : Int) :: r ∧ es.findIdx? badNum = some k))
          ⟨[], upd_same, Nat.le_refl _, same_upd hD _, .inl ⟨rfl, fun k y hk => absurd hk (Nat.not_lt_zero k)⟩⟩ (fun j H' _ ⟨_, _, _, s, _⟩ => Same.tk s _ _ hU) ?_ ?_
        · rintro j x H3 H4 hj ⟨acc, hA, hal, s3, hacc⟩ ⟨t', y', z', rfl, ht', rfl, hy', hz'⟩
          cases hy'
          obtain ⟨c, hc, hC⟩ := hY.get hz'
          have s4 := same_step s3 ht' (.tup [.int (j : Nat), z'])
          have hC4 := hC.same s4
          obtain ⟨b1, b2, q1, q2, q3⟩ := hC4.kitInt
          have hA4 := (same_upd ht' (.tup [.int (j : Nat), z'])) _ _ hA
          refine ⟨t', _, rfl, SqT.of upd_same, rfl, _, _, rfl, _, _, rfl, rfl, rfl, ?_⟩
          refine ⟨_, rfl, z', _, b1, b2, rfl, hC4.ty, q1, q2, _, rfl, ?_⟩
          rw [q3]
          cases en : isNum c with
          | true =>
            refine iteF ⟨acc, hA4, by omega, s4, ?_⟩
            rcases hacc with ⟨rfl, hn⟩ | q
            · refine .inl ⟨rfl, fun k y hk hy => ?_⟩
              by_cases ek : k < j
              · exact hn k y ek hy
              · have ek' : k = j := by omega
                subst ek'
                rw [hc] at hy
                cases hy
                show (!isNum c) = false
                rw [en]
                rfl
            · exact .inr q
          | false =>
            refine iteT ⟨_, rfl, _, hA4, by rw [List.length_map]; exact small1000 (by omega), acc ++ [((j : Nat) : Int)], ?_, ?_, ?_, ?_⟩
            · rw [upd_same, List.map_append]
              all_goals rfl
            · rw [List.length_append, List.length_singleton]
              omega
            · exact fun b' o q => by
                rw [upd_ne (ne_of_none q hD)]
                exact s4 _ _ q
            · refine .inr ?_
              rcases hacc with ⟨rfl, hn⟩ | ⟨k, r, rfl, q⟩
              · refine ⟨j, [], rfl, fi_some hc ?_ hn⟩
                show (!isNum c) = true
                rw [en]
                rfl
              · exact ⟨k, r ++ [((j : Nat) : Int)], rfl, q⟩
        · rintro H3 ⟨acc, hA, hal, s3, hacc⟩
          refine ⟨_, rfl, rd_ne_nil hA fun p hp => ⟨_, rfl, ?_⟩⟩
          have s4 := same_upd hp (.lst [])
          rcases hacc with ⟨rfl, hn⟩ | ⟨j, r, rfl, hj⟩
          · refine iteF ⟨_, _, _, rfl, s2.trans (s3.trans s4), fun j y hj hy => ?_⟩
            by_cases ej : j < i
            · exact hf j y ej hy
            · have ej' : j = i := by omega
              subst ej'
              rw [he] at hy
              cases hy
              exact fi_none fun k y hy => hn k y (by rw [hleny]; exact (List.getElem?_eq_some_iff.mp hy).1) hy
          · refine iteT ⟨_, rfl, _, rfl, D, _, 0, .int j, rfl, rfl, SqL.of (s4 _ _ hA), at_zero, (by show 2 ≤ sizeLine; decide), fun t5 ht5 => ⟨(by show 1 ≤ sizeLine; decide), fun l hl => ?_⟩⟩
            refine k (.ref l) _ (s2.trans (s3.trans (s4.trans ((same_upd ht5 _).trans (same_upd hl _))))) ?_
            unfold outD
            rw [fault2 h6 hgood he hj hf]
            exact .lst (SqL.of upd_same) (.cons (Dp.ofInts (ns := [((i : Nat) : Int), ((j : Nat) : Int)]) (SqT.of ((same_upd hl _) _ _ upd_same))) .nil)
    rintro σ H2 ⟨w1, w2, w3, rfl, s2, hf⟩
    have hok := fault0 h6 hgood fun j y hy => hf j y (by rw [hlen]; exact (List.getElem?_eq_some_iff.mp hy).1) hy
    refine k .non H2 s2 ?_
    unfold outD
    rw [hok]
    exact .non
end
section
variable {P : Program} {w : World} {K : PySem.W.Frag} {mg : Str → Option Value} {base : Heap}
theorem ok__law_spoiled (T : Top K mg) : FnOk P w K mg base CX0 2 T.a__law_spoiled T.d__law_spoiled ["m", "loops"] (sp__law_spoiled K) := by
  refine T.F__law_spoiled.ok sc__law_spoiled (fun vs H Q E h => ?_) (fun cdv A outer s H vs Q E hr h => ?_)
  · obtain ⟨m, v, ds, n, rfl, M, hv, hz, hb, hn, k⟩ := h
    rfl
  obtain ⟨m, v, ds, n, rfl, M, hv, hz, hb, hn, k⟩ := h
  refine ⟨_, (pss_cons (ps_set (i := 2) sc__law_spoiled.nd rfl (Or.inl rfl) (pe_call (ok__law_next T) (hr.mono (by decide)) (by rfl) T.m__law_next T.F__law_next.kp T.b__law_next .nil pass0 (pa_cons (pv 0) (pa_cons (pe_callB (call_max2 rfl) (by rfl) T.z_max bt_max (pa_cons pe_int (pa_cons (pe_callB (k_len (K := K)) (by rfl) T.z_len bt_len (pa_cons (pv 1) pa_nil)) pa_nil))) pa_nil))))
      (pss_cons (ps_set (i := 3) sc__law_spoiled.nd rfl (Or.inl rfl) (pe_call (ok__law_next T) (hr.mono (by decide)) (by rfl) T.m__law_next T.F__law_next.kp T.b__law_next .nil pass0 (pa_cons (pv 0) (pa_cons pe_int pa_nil))))
      (pss_cons (ps_if (PW.pt (pw_or (pt_cmpR op_eq (pv 3) pe_int (nomark _)) (pw_or1 (pt_cmpR (op_eqT0 (K := K) hr.units) (pv 1) (pe_tup pa_nil) (nomark _))))) (pss_cons (ps_set (i := 4) sc__law_spoiled.nd rfl (Or.inl rfl) (pe_lst (pa_cons (pe_callTy (k_list (K := K)) (by rfl) T.z_list bt_list (pa_cons (pv 1) pa_nil)) (pa_cons (pe_op (op_repA (K := K)) (pv 1) pe_int) (pa_cons pe_non (pa_cons pe_int (pa_cons pe_str (pa_cons pe_dnewK (pa_cons (pe_op (k_catT (K := K)) (pv 1) (pe_tup (pa_cons (pe_tup pa_nil) pa_nil))) (pa_cons (pe_op (k_catT (K := K)) (pv 1) (pe_op (op_repA (K := K)) (pe_tup (pa_cons (pe_tup (pa_cons pe_int pa_nil)) pa_nil)) (pe_op op_sub pe_int (pe_callB (k_len (K := K)) (by rfl) T.z_len bt_len (pa_cons (pv 1) pa_nil))))) pa_nil))))))))))
      (pss_one (ps_ret (pe_ix (k_ixL (K := K)) (pe_op op_cat (pv 4) (pe_lst (pa_cons (pe_op (k_catT (K := K)) (pv 1) (pe_op (op_repA (K := K)) (pe_tup (pa_cons (pe_tup (pa_cons pe_int pa_nil)) pa_nil)) pe_int)) pa_nil))) (pe_call (ok__law_next T) (hr.mono (by decide)) (by rfl) T.m__law_next T.F__law_next.kp T.b__law_next .nil pass0 (pa_cons (pv 0) (pa_cons pe_int pa_nil))) (fun _ _ => rfl))))) pss_nil)
      (pss_cons (ps_set (i := 5) sc__law_spoiled.nd rfl (Or.inl rfl) (pe_ix (k_ixT (K := K)) (pv 1) (pv 2) (fun _ _ => rfl)))
      (pss_cons (ps_if (PW.pt (pw_or (pt_cmpR op_eq (pv 3) pe_int (nomark _)) (pw_or (pt_not (pt_val (pe_callB (k_isi (K := K)) (by rfl) T.z_isinstance bt_isinstance (pa_cons (pv 5) (pa_cons (pe_bltn (v := .ty "tuple") (by rfl) T.z_tuple bt_tuple rfl) pa_nil))))) (pw_or1 (pt_cmpR (op_eqT0 (K := K) hr.units) (pv 5) (pe_tup pa_nil) (nomark _)))))) (pss_cons (ps_set (i := 4) sc__law_spoiled.nd rfl (Or.inl rfl) (pe_lst (pa_cons (pe_tup pa_nil) (pa_cons pe_non (pa_cons pe_int (pa_cons (pe_op (op_repA (K := K)) (pe_tup (pa_cons pe_int pa_nil)) pe_int) (pa_cons (pe_op (op_repA (K := K)) (pe_tup (pa_cons pe_int pa_nil)) pe_int) (pa_cons (pe_lst (pa_cons pe_int (pa_cons pe_int pa_nil))) (pa_cons pe_str (pa_cons pe_dnewK (pa_cons (pe_tup (pa_cons pe_int pa_nil)) (pa_cons (pe_tup (pa_cons pe_bl pa_nil)) pa_nil))))))))))))
      (pss_one (ps_ret (pe_call (ok__law_put T) (hr.mono (by decide)) (by rfl) T.m__law_put T.F__law_put.kp T.b__law_put .nil pass0 (pa_cons (pv 1) (pa_cons (pv 2) (pa_cons (pe_ix (k_ixL (K := K)) (pv 4) (pe_call (ok__law_next T) (hr.mono (by decide)) (by rfl) T.m__law_next T.F__law_next.kp T.b__law_next .nil pass0 (pa_cons (pv 0) (pa_cons pe_int pa_nil))) (fun _ _ => rfl)) pa_nil))))))) pss_nil)
      (pss_cons (ps_set (i := 6) sc__law_spoiled.nd rfl (Or.inl rfl) (pe_call (ok__law_next T) (hr.mono (by decide)) (by rfl) T.m__law_next T.F__law_next.kp T.b__law_next .nil pass0 (pa_cons (pv 0) (pa_cons (pe_callB (k_len (K := K)) (by rfl) T.z_len bt_len (pa_cons (pv 5) pa_nil)) pa_nil))))
      (pss_cons (ps_set (i := 4) sc__law_spoiled.nd rfl (Or.inl rfl) (pe_lst (pa_cons pe_non (pa_cons pe_bl (pa_cons pe_bl (pa_cons pe_str (pa_cons (pe_tup (pa_cons pe_int pa_nil)) (pa_cons (pe_lst (pa_cons pe_int pa_nil)) (pa_cons pe_dnewK (pa_cons (pe_op op_pow pe_int pe_int) (pa_cons (pe_un un_neg pe_int) pa_nil)))))))))))
      (pss_one (ps_ret (pe_call (ok__law_put T) (hr.mono (by decide)) (by rfl) T.m__law_put T.F__law_put.kp T.b__law_put .nil pass0 (pa_cons (pv 1) (pa_cons (pv 2) (pa_cons (pe_call (ok__law_put T) (hr.mono (by decide)) (by rfl) T.m__law_put T.F__law_put.kp T.b__law_put .nil pass0 (pa_cons (pv 5) (pa_cons (pv 6) (pa_cons (pe_ix (k_ixL (K := K)) (pv 4) (pe_call (ok__law_next T) (hr.mono (by decide)) (by rfl) T.m__law_next T.F__law_next.kp T.b__law_next .nil pass0 (pa_cons (pv 0) (pa_cons pe_int pa_nil))) (fun _ _ => rfl)) pa_nil)))) pa_nil))))))))))))), ?_⟩
  obtain ⟨a, xs, rfl, hT, hX⟩ := hv.tuple
  have hlen := hX.len
  have hmax : ∀ z : Int, 0 ≤ z → z ≤ 100 → 1 ≤ (if z > 1 then z else 1) ∧ (if z > 1 then z else 1) ≤ 100 ∧ (1 ≤ z → (if z > 1 then z else 1) ≤ z) := fun z _ _ => by split <;> omega
  obtain ⟨x1, x2, x3⟩ := hmax (((xs.length : Nat) : Int)) (by omega) (by omega)
  refine ⟨_, rfl, _, rfl, a, xs, rfl, .inr hT, _, _, rfl, m, _, n, rfl, M, by omega, by omega, by omega, fun at' n1 H1 a0 a1 hn1 M1 e1 => ?_⟩
  refine ⟨_, rfl, m, 4, n1, rfl, M1, by decide, by decide, by omega, fun way n2 H2 w0 w1 hn2 M2 e2 => ?_⟩
  have e02 := e1.trans e2
  have hv2 := hv.ef M e02
  obtain ⟨a', xs', ea, hT2, hX2⟩ := hv2.tuple
  cases ea
  have hlen2 := hX2.len
  dsimp only [gName]
  refine if_cut (fun b H' => Same H2 H' ∧ (b = false → 1 ≤ ds.length)) (fun Q' k' => ?_) ?_ ?_
  · refine ⟨_, rfl, rfl, _, rfl, ?_⟩
    refine ite2 (fun _ => k' true H2 ⟨Same.refl _, fun z => Bool.noConfusion z⟩) (fun _ => ?_)
    refine ⟨_, rfl, (by show 0 ≤ sizeLine; decide), fun p hp => ?_⟩
    have s := same_upd hp (.tup [])
    refine ⟨a, p, xs', rfl, rfl, Same.tk s _ _ hT2, SqT.of upd_same, _, rfl, k' _ _ ⟨s, fun z => ?_⟩⟩
    cases xs' with
    | nil => cases z
    | cons _ _ =>
      rw [← hlen2]
      simp
  · rintro H3 ⟨s3, _⟩
    refine ⟨_, rfl, a, xs', rfl, .inr (Same.tk s3 _ _ hT2), fun l hl => ?_⟩
    have t4 := s3.trans (same_upd hl (.lst xs'))
    have ol := off_new M2 s3 hl
    refine ⟨_, rfl, ?_⟩
    dsimp only [tC]
    refine rd_repR (hv2.same t4) (by omega) (by decide) (by decide) fun v5 H5 s5 hv5 => ?_
    intro q hq
    have s6 := same_upd hq (.dK [])
    have t6 := t4.trans (s5.trans s6)
    have oq := off_new M2 (t4.trans s5) hq
    refine ⟨_, rfl, (by show 0 ≤ sizeLine; decide), fun p1 hp1 => ⟨(by show 1 ≤ sizeLine; decide), fun p2 hp2 => ?_⟩⟩
    have s7 := (same_upd hp1 (.tup [])).trans (same_upd hp2 (.tup [.ref p1]))
    have hp2' : Rp K _ (off H2 m) (.ref p2) (.tup [.tup []]) := Rp.new hp2 (.cons (Rp.new hp1 .nil) .nil)
    have t7 := t6.trans s7
    refine rd_catR (hv2.same t7) hp2' (Nat.le_of_lt (small1000 (by simp; omega))) fun v8 H8 s8 hv8 => ?_
    have t8 := t7.trans s8
    refine ⟨_, rfl, (by show 1 ≤ sizeLine; decide), fun p3 hp3 => ⟨(by show 1 ≤ sizeLine; decide), fun p4 hp4 => ?_⟩⟩
    have s9 := (same_upd hp3 (.tup [.int 1])).trans (same_upd hp4 (.tup [.ref p3]))
    have hp4' : Rp K _ (off H2 m) (.ref p4) (.tup [.tup [.int 1]]) := Rp.new hp4 (.cons (Rp.new hp3 (.cons (.int 1 (by decide)) .nil)) .nil)
    have t9 := t8.trans s9
    refine ⟨_, rfl, a, xs', rfl, .inr (Same.tk t9 _ _ hT2), _, _, rfl, rfl, ?_⟩
    refine rd_repR hp4' (by decide) (by omega) (by omega) fun v10 H10 s10 hv10 => ?_
    have t10 := t9.trans s10
    refine rd_catR (hv2.same t10) hv10 ?_ fun v11 H11 s11 hv11 => ⟨(by show 8 ≤ sizeLine; decide), fun S hS => ?_⟩
    · rw [List.length_flatten, List.map_replicate, List.sum_replicate_nat]
      exact Nat.le_of_lt (small1000 (by simp; omega))
    have t11 := t10.trans s11
    have hL : RpAll K H11 (off H2 m) [.ref l, v5, .non, .int 0, .str "loops", .ref q, v8, v11]
        [.oth "list", .tup (List.replicate (7 : Int).toNat ds).flatten, .oth "NoneType", .int 0, .oth "str", .oth "dict", .tup (ds ++ [.tup []]), .tup (ds ++ (List.replicate (6 - ((xs'.length : Nat) : Int)).toNat [Dt.tup [.int 1]]).flatten)] := by
      have u5 : Same H5 H11 := s6.trans (s7.trans (s8.trans (s9.trans (s10.trans s11))))
      refine .cons (.lst (u5 _ _ (s5 _ _ upd_same)) ol) (.cons (hv5.same u5) (.cons .non (.cons (.int 0 (by decide)) (.cons (.str _) (.cons (.dct (kvs := []) ?_ oq) (.cons (hv8.same (s9.trans (s10.trans s11))) (.cons hv11 .nil)))))))
      exact (s7.trans (s8.trans (s9.trans (s10.trans s11)))) _ _ upd_same
    have s12 := same_upd hS (.lst [.ref l, v5, .non, .int 0, .str "loops", .ref q, v8, v11])
    have t12 := t11.trans s12
    refine ⟨_, rfl, _, rfl, (by show 1 ≤ sizeLine; decide), fun p5 hp5 => ⟨(by show 1 ≤ sizeLine; decide), fun p6 hp6 => ?_⟩⟩
    have s13 := (same_upd hp5 (.tup [.int 0])).trans (same_upd hp6 (.tup [.ref p5]))
    have hp6' : Rp K _ (off H2 m) (.ref p6) (.tup [.tup [.int 0]]) := Rp.new hp6 (.cons (Rp.new hp5 (.cons (.int 0 (by decide)) .nil)) .nil)
    dsimp only [tC]
    refine rd_repR hp6' (by decide) (by decide) (by decide) fun v14 H14 s14 hv14 => ?_
    have t14 := t12.trans (s13.trans s14)
    refine rd_catR (hv2.same t14) hv14 ?_ fun v15 H15 s15 hv15 => ⟨(by show 1 ≤ sizeLine; decide), fun p7 hp7 => ?_⟩
    · rw [List.length_flatten, List.map_replicate, List.sum_replicate_nat]
      exact Nat.le_of_lt (small1000 (by simp; omega))
    have s16 := same_upd hp7 (.lst [v15])
    have t15 := t14.trans s15
    have hS16 := (s13.trans (s14.trans (s15.trans s16))) S _ upd_same
    refine ⟨S, p7, _, _, rfl, rfl, hS16, upd_same, (by show 8 + 1 ≤ sizeLine; decide), fun p8 hp8 => ?_⟩
    have s17 := same_upd hp8 (.lst ([.ref l, v5, .non, .int 0, .str "loops", .ref q, v8, v11] ++ [v15]))
    have t17 := t15.trans (s16.trans s17)
    have M17 := M2.same t17
    have hL17 := (hL.same (s12.trans (s13.trans (s14.trans (s15.trans (s16.trans s17)))))).app (.cons (hv15.same (s16.trans s17)) .nil)
    refine ⟨_, rfl, m, 9, n2, rfl, M17, by decide, by decide, by omega, fun r n3 H18 r0 r9 hn3 M18 e18 => ?_⟩
    have hL18 := hL17.out M2 t17 M17 e18
    obtain ⟨hp18, _⟩ := e18.lst M17 upd_same (noLf_same M2 t17 (off_new M2 (t15.trans s16) hp8).2)
    obtain ⟨v, d, hv', hd, hR, _, _⟩ := pickR hL18 r0 (by simp; omega)
    refine ⟨p8, _, r, v, rfl, rfl, SqL.of hp18, hv', ?_⟩
    refine k v d n3 H18 hR ?_ (by omega) M18 (e02.trans ((Ef.ofSame M2 t17).trans e18))
    intro es he
    subst he
    simp at hd
    rcases hd with hd | hd | hd | hd
    · rw [hd]
      refine Bd.mono (b := 7 * ds.length) ?_ (by omega)
      have q7 := Bd.rep (b := ds.length) ⟨Nat.le_refl _, hb.2⟩ 7
      have e7 : (List.replicate 7 ds).flatten = ds ++ (ds ++ (ds ++ (ds ++ (ds ++ (ds ++ ds))))) := by simp [List.replicate]
      rw [e7] at q7
      exact q7
    · rw [hd]
      exact (Bd.app ⟨Nat.le_refl ds.length, hb.2⟩ (Bd.one [] (by decide))).mono (by omega)
    · rw [hd]
      exact (Bd.app ⟨Nat.le_refl ds.length, hb.2⟩ (Bd.reps [.int 1] (by decide) _)).mono (by omega)
    · rw [hd]
      exact (Bd.app ⟨Nat.le_refl ds.length, hb.2⟩ (Bd.reps [.int 0] (by decide) 7)).mono (by omega)
  · rintro H3 ⟨s3, hne⟩
    have hne := hne rfl
    have hv3 := hv2.same s3
    have at1 : at' < (ds.length : Int) := by omega
    obtain ⟨e0, e, he0, hed, heR, _, hei⟩ := pickR (hX2.same s3) a0 at1
    refine ⟨_, rfl, _, rfl, a, xs', at', e0, rfl, rfl, Same.tk s3 _ _ hT2, he0, ?_⟩
    have eb := hb.2 e hed
    dsimp only [gName]
    refine if_cut (fun b H' => Same H3 H' ∧ (b = false → ∃ fs, e = .tup fs ∧ 1 ≤ fs.length)) (fun Q' k' => ?_) ?_ ?_
    · refine ⟨_, rfl, rfl, _, rfl, ?_⟩
      refine ite2 (fun _ => k' true H3 ⟨Same.refl _, fun z => Bool.noConfusion z⟩) (fun _ => ?_)
      refine ⟨_, rfl, e0, _, _, _, isTup e, rfl, ClsV.ty _, heR.ty, heR.kitTup, isTup e, rfl, ?_⟩
      cases e with
      | int i => exact iteT (k' true H3 ⟨Same.refl _, fun z => Bool.noConfusion z⟩)
      | oth i => exact iteT (k' true H3 ⟨Same.refl _, fun z => Bool.noConfusion z⟩)
      | tup fs =>
        refine iteF ?_
        obtain ⟨c, zs, rfl, hU, hZ⟩ := heR.tuple
        refine ⟨_, rfl, (by show 0 ≤ sizeLine; decide), fun p hp => ?_⟩
        have s := same_upd hp (.tup [])
        refine ⟨c, p, zs, rfl, rfl, Same.tk s _ _ hU, SqT.of upd_same, _, rfl, k' _ _ ⟨s, fun z => ⟨fs, rfl, ?_⟩⟩⟩
        have hzl := hZ.len
        cases zs with
        | nil => cases z
        | cons _ _ =>
          rw [← hzl]
          simp
    · rintro H4 ⟨s4, _⟩
      have t4 := s3.trans s4
      refine ⟨(by show 0 ≤ sizeLine; decide), fun p1 hp1 => ?_⟩
      have r1 : Rp K _ (off H2 m) (.ref p1) (.tup []) := Rp.new hp1 .nil
      have s5 := same_upd hp1 (.tup [])
      refine ⟨(by show 1 ≤ sizeLine; decide), fun p2 hp2 => ?_⟩
      have r2 : Rp K _ (off H2 m) (.ref p2) (.tup [.int 0]) := Rp.new hp2 (.cons (.int 0 (by decide)) .nil)
      have s6 := same_upd hp2 (.tup [.int 0])
      dsimp only [tC]
      refine rd_repR r2 (by decide) (by decide) (by decide) fun v7 H7 s7 hv7 => ?_
      refine ⟨(by show 1 ≤ sizeLine; decide), fun p3 hp3 => ?_⟩
      have r3 : Rp K _ (off H2 m) (.ref p3) (.tup [.int 0]) := Rp.new hp3 (.cons (.int 0 (by decide)) .nil)
      have s8 := same_upd hp3 (.tup [.int 0])
      dsimp only [tC]
      refine rd_repR r3 (by decide) (by decide) (by decide) fun v9 H9 s9 hv9 => ?_
      have t9 := t4.trans (s5.trans (s6.trans (s7.trans (s8.trans s9))))
      refine ⟨(by show 2 ≤ sizeLine; decide), fun l hl => ?_⟩
      have ol := off_new M2 t9 hl
      have s10 := same_upd hl (.lst [.int 1, .int 2])
      intro q hq
      have oq := off_new M2 (t9.trans s10) hq
      have s11 := same_upd hq (.dK [])
      refine ⟨(by show 1 ≤ sizeLine; decide), fun p4 hp4 => ?_⟩
      have r4 : Rp K _ (off H2 m) (.ref p4) (.tup [.int 1]) := Rp.new hp4 (.cons (.int 1 (by decide)) .nil)
      have s12 := same_upd hp4 (.tup [.int 1])
      refine ⟨(by show 1 ≤ sizeLine; decide), fun p5 hp5 => ⟨(by show 10 ≤ sizeLine; decide), fun S hS => ?_⟩⟩
      have r5 : Rp K _ (off H2 m) (.ref p5) (.tup [.oth "bool"]) := Rp.new hp5 (.cons (.bl true) .nil)
      have s13 := same_upd hp5 (.tup [.bl true])
      have s14 := same_upd hS (.lst [.ref p1, .non, .int 5, v7, v9, .ref l, .str "12", .ref q, .ref p4, .ref p5])
      have u9 := s10.trans (s11.trans (s12.trans (s13.trans s14)))
      have hL : RpAll K (upd (upd (upd (upd (upd H9 l (.lst [.int 1, .int 2])) q (.dK [])) p4 (.tup [.int 1])) p5 (.tup [.bl true])) S (.lst [.ref p1, .non, .int 5, v7, v9, .ref l, .str "12", .ref q, .ref p4, .ref p5])) (off H2 m) [.ref p1, .non, .int 5, v7, v9, .ref l, .str "12", .ref q, .ref p4, .ref p5]
          [.tup [], .oth "NoneType", .int 5, .tup (List.replicate (64 : Int).toNat [Dt.int 0]).flatten, .tup (List.replicate (65 : Int).toNat [Dt.int 0]).flatten, .oth "list", .oth "str", .oth "dict", .tup [.int 1], .tup [.oth "bool"]] := by
        refine .cons (r1.same (s6.trans (s7.trans (s8.trans (s9.trans u9))))) (.cons .non (.cons (.int 5 (by decide)) (.cons (hv7.same (s8.trans (s9.trans u9))) (.cons (hv9.same u9) (.cons (.lst (xs := [.int 1, .int 2]) ?_ ol) (.cons (.str _) (.cons (.dct (kvs := []) ?_ oq) (.cons (r4.same (s13.trans s14)) (.cons (r5.same s14) .nil)))))))))
        · exact (s11.trans (s12.trans (s13.trans s14))) _ _ upd_same
        · exact (s12.trans (s13.trans s14)) _ _ upd_same
      have t14 := t9.trans u9
      have M14 := M2.same t14
      refine ⟨_, rfl, _, rfl, _, rfl, _, rfl, m, 10, n2, rfl, M14, by decide, by decide, by omega, fun r n3 H15 r0 r9 hn3 M15 e15 => ?_⟩
      have hL15 := hL.out M2 t14 M14 e15
      obtain ⟨hS15, _⟩ := e15.lst M14 upd_same (noLf_same M2 t14 (off_new M2 (t9.trans (s10.trans (s11.trans (s12.trans s13)))) hS).2)
      obtain ⟨v, d, hv', hd, hR, _, _⟩ := pickR hL15 r0 (by simp; omega)
      refine ⟨S, _, r, v, rfl, rfl, SqL.of hS15, hv', ?_⟩
      have e16 := (Ef.ofSame M2 t14).trans e15
      refine ⟨off H15 m, .ref a, ds, at', v, d, rfl, hv2.ef M2 e16, a0, at1, by omega, hR, fun u H16 s16 hu => ?_⟩
      refine k u _ n3 H16 (hu.ef' M15 s16) ?_ (by omega) (M15.same s16) (e02.trans (e16.trans (Ef.ofSame M15 s16)))
      intro es he
      cases he
      refine (Bd.put ⟨Nat.le_refl ds.length, hb.2⟩ at'.toNat (by omega) ?_).mono (by omega)
      intro fs hf
      subst hf
      simp at hd
      rcases hd with hd | hd | hd | hd | hd <;> (rw [hd]; simp)
    · rintro H4 ⟨s4, hfs⟩
      obtain ⟨fs, rfl, hf1⟩ := hfs rfl
      obtain ⟨c, zs, ec, hU, hZ⟩ := (heR.same s4).tuple
      cases ec
      have hzl := hZ.len
      have t4 := s3.trans s4
      have M4 := M2.same t4
      have fb := eb fs rfl
      refine ⟨_, rfl, _, rfl, c, zs, rfl, .inr hU, m, _, n2, rfl, M4, by omega, by omega, by omega, fun place n3 H5 p0 p1' hn3 M5 e5 => ?_⟩
      have e5' := (Ef.ofSame M2 t4).trans e5
      have hv5 := hv2.ef M2 e5'
      have hc5 : Rp K H5 (off H5 m) (.ref c) (.tup fs) := ((heR.keep2 M2 t4).ef M4 e5)
      refine ⟨(by show 1 ≤ sizeLine; decide), fun p1 hp1 => ⟨(by show 1 ≤ sizeLine; decide), fun l hl => ?_⟩⟩
      have r1 : Rp K _ (off H5 m) (.ref p1) (.tup [.int 1]) := Rp.new hp1 (.cons (.int 1 (by decide)) .nil)
      have s6 := same_upd hp1 (.tup [.int 1])
      have ol := off_new M5 s6 hl
      have s7 := same_upd hl (.lst [.int 1])
      intro q hq
      have oq := off_new M5 (s6.trans s7) hq
      have s8 := same_upd hq (.dK [])
      refine ⟨_, _, rfl, rfl, ⟨by decide, by decide, by decide⟩, _, rfl, (by show 9 ≤ sizeLine; decide), fun S hS => ?_⟩
      have s9 := same_upd hS (.lst [.non, .bl true, .bl false, .str "1", .ref p1, .ref l, .ref q, .int (10 ^ (30 : Int).toNat), .int (-7)])
      have hL : RpAll K (upd (upd (upd (upd H5 p1 (.tup [.int 1])) l (.lst [.int 1])) q (.dK [])) S (.lst [.non, .bl true, .bl false, .str "1", .ref p1, .ref l, .ref q, .int (10 ^ (30 : Int).toNat), .int (-7)])) (off H5 m) [.non, .bl true, .bl false, .str "1", .ref p1, .ref l, .ref q, .int (10 ^ (30 : Int).toNat), .int (-7)]
          [.oth "NoneType", .oth "bool", .oth "bool", .oth "str", .tup [.int 1], .oth "list", .oth "dict", .int (10 ^ (30 : Int).toNat), .int (-7)] := by
        refine .cons .non (.cons (.bl true) (.cons (.bl false) (.cons (.str _) (.cons (r1.same (s7.trans (s8.trans s9))) (.cons (.lst (xs := [.int 1]) ?_ ol) (.cons (.dct (kvs := []) ?_ oq) (.cons (.int _ (by decide)) (.cons (.int _ (by decide)) .nil))))))))
        · exact (s8.trans s9) _ _ upd_same
        · exact s9 _ _ upd_same
      have t9 := s6.trans (s7.trans (s8.trans s9))
      have M9 := M5.same t9
      refine ⟨_, rfl, _, rfl, _, rfl, _, rfl, _, rfl, _, rfl, m, 9, n3, rfl, M9, by decide, by decide, by omega, fun r n4 H10 r0 r9 hn4 M10 e10 => ?_⟩
      have hL10 := hL.out M5 t9 M9 e10
      obtain ⟨hS10, _⟩ := e10.lst M9 upd_same (noLf_same M5 t9 (off_new M5 (s6.trans (s7.trans s8)) hS).2)
      obtain ⟨v, d, hv', hd, hR, _, _⟩ := pickR hL10 r0 (by simp; omega)
      refine ⟨S, _, r, v, rfl, rfl, SqL.of hS10, hv', ?_⟩
      have e11 := (Ef.ofSame M5 t9).trans e10
      refine ⟨off H10 m, .ref c, fs, place, v, d, rfl, hc5.ef M5 e11, p0, by omega, by omega, hR, fun u H11 s11 hu => ?_⟩
      refine ⟨off H10 m, .ref a, ds, at', u, _, rfl, (hv5.ef M5 e11).same s11, a0, at1, by omega, hu, fun u2 H12 s12 hu2 => ?_⟩
      have s13 := s11.trans s12
      refine k u2 _ n4 H12 (hu2.ef' M10 s13) ?_ (by omega) (M10.same s13) (e02.trans (e5'.trans (e11.trans (Ef.ofSame M10 s13))))
      intro es he
      cases he
      refine (Bd.put ⟨Nat.le_refl ds.length, hb.2⟩ at'.toNat (by omega) ?_).mono (by omega)
      intro gs hg
      cases hg
      rw [List.length_append, List.length_append, List.length_take, List.length_drop, List.length_singleton]
      omega
end
section
variable {P : Program} {w : World} {K : PySem.W.Frag} {mg : Str → Option Value} {base : Heap}
theorem ok_lengths_of (T : Top K mg) : FnOk P w K mg base CX0 3 T.a_lengths_of T.d_lengths_of ["loops"] (sp_lengths_of K) := by
  refine T.F_lengths_of.ok sc_lengths_of (fun vs H Q E h => ?_) (fun cdv A outer s H vs Q E hr h => ?_)
  · obtain ⟨v, ls, rfl, hv, ok, k⟩ := h
    rfl
  obtain ⟨v, ls, rfl, hv, ok, k⟩ := h
  refine ⟨_, (pss_one (ps_ret (pe_callTy (k_tuple (K := K)) (by rfl) T.z_tuple bt_tuple (pa_cons (pe_lc (own := [("loop", 1)]) rfl sc_lengths_of.nd (k_piT (K := K) (pe_call (ok_need_loops T) (hr.mono (by decide)) (by rfl) T.m_need_loops T.F_need_loops.kp T.b_need_loops .nil pass0 (pa_cons (pv 0) pa_nil))) (blkOk_by (own := [("loop", 1)]) (N := ["loops", "loop"]) (sc := defScope s_lengths_of) (by decide +kernel)) (fun _ _ _ _ _ => (pg_name (i := 1) sc_lengths_of.nd rfl (Or.inl rfl))) (fun _ _ _ _ _ => pts_nil) (fun _ _ _ _ _ => (pe_callB (k_len (K := K)) (by rfl) T.z_len bt_len (pa_cons (pv 1) pa_nil)))) pa_nil)))), ?_⟩
  obtain ⟨ok1, ok2⟩ := id ok
  refine ⟨_, rfl, v, ls, rfl, hv, ok, fun H1 s1 => ?_⟩
  have hv1 := hv.same_at s1
  obtain ⟨a, xs, rfl, hT, hX⟩ := hv1.tuple
  have hlen := hX.len
  rw [List.length_map] at hlen
  refine ⟨a, rfl, ⟨_, hT⟩, fun D hD => ?_⟩
  refine lc_it walk_tup (fun i H' => H' D = some (.lst ((lensI (ls.take i)).map V.int)) ∧ Same H1 H') ⟨upd_same, same_upd hD _⟩ (fun i H' _ p => Same.tk p.2 _ _ hT) ?_ ?_
  · rintro i x H2 H3 hi ⟨hA, s2⟩ ⟨rfl, hx⟩
    obtain ⟨l, b, hl, rfl, hB⟩ := loops_get hX hx
    have hB1 := Same.tk s2 _ _ hB
    refine ⟨rfl, ?_⟩
    refine ⟨_, rfl, b, _, rfl, .inr hB1, ?_⟩
    refine ⟨_, hA, by unfold lensI; rw [List.length_map, List.length_map, List.length_take]; exact small1000 (by omega), ?_, ?_⟩
    · rw [upd_same, take_more hl]
      simp [lensI]
    · exact fun b' o q => by
        rw [upd_ne (ne_of_none q hD)]
        exact s2 _ _ q
  · rintro H2 ⟨hA, s2⟩
    rw [hlen, List.take_length] at hA
    refine ⟨D, _, rfl, .inl ⟨SqL.of hA, fun t ht => ?_⟩⟩
    exact k _ _ (s1.trans (s2.trans (same_upd ht _))) (Dp.ofInts (SqT.of upd_same))
end
section
variable {P : Program} {w : World} {K : PySem.W.Frag} {mg : Str → Option Value} {base : Heap}
theorem ok__law_loops_of (T : Top K mg) : FnOk P w K mg base CX0 3 T.a__law_loops_of T.d__law_loops_of ["m", "lengths"] (sp__law_loops_of K) := by
  refine T.F__law_loops_of.ok sc__law_loops_of (fun vs H Q E h => ?_) (fun cdv A outer s H vs Q E hr h => ?_)
  · obtain ⟨m, v, lens, n, rfl, hv, hl, hz, M, hn, k⟩ := h
    rfl
  obtain ⟨m, v, lens, n, rfl, hv, hl, hz, M, hn, k⟩ := h
  refine ⟨_, (pss_cons (ps_set (i := 2) sc__law_loops_of.nd rfl (Or.inl rfl) (pe_lst pa_nil))
      (pss_cons (ps_for PassesOwn.never rfl (k_piT (K := K) (pv 1)) (pg_name (i := 3) sc__law_loops_of.nd rfl (Or.inl rfl)) (pss_one (ps_expr (pe_bm PySem.F.plainAttrs_list PySem.F.slot_list_append PySem.F.type_list_append mt_append (pv 2) (pa_cons (pe_callTy (k_tuple (K := K)) (by rfl) T.z_tuple bt_tuple (pa_cons (pe_lc (own := [("k", 4)]) rfl sc__law_loops_of.nd (pi_range1 (by rfl) T.z_range (pa_cons (pv 3) pa_nil)) (blkOk_by (own := [("k", 4)]) (N := ["m", "lengths", "found", "length", "k"]) (sc := defScope s__law_loops_of) (by decide +kernel)) (fun _ _ _ _ _ => (pg_name (i := 4) sc__law_loops_of.nd rfl (Or.inl rfl))) (fun _ _ _ _ _ => pts_nil) (fun _ _ _ _ _ => (pe_call (ok__law_number T) (hr.mono (by decide)) (by rfl) T.m__law_number T.F__law_number.kp T.b__law_number .nil pass0 (pa_cons (pv 0) pa_nil)))) pa_nil)) pa_nil)))))
      (pss_one (ps_ret (pe_callTy (k_tuple (K := K)) (by rfl) T.z_tuple bt_tuple (pa_cons (pv 2) pa_nil)))))), ?_⟩
  obtain ⟨a, rfl, hT⟩ := hv.ints
  refine ⟨(by show 0 ≤ sizeLine; decide), fun D hD => ?_⟩
  refine ⟨_, rfl, a, rfl, ⟨_, (Same.tk (same_upd hD _)) _ _ hT⟩, ?_⟩
  refine for_it walk_tup (fun i σ H' => ∃ (acc : List (List Int)) (xs : List V) (n' : Nat) (vl : Option V), σ = [some (.ref m), some (.ref a), some (.ref D), vl, none] ∧ H' D = some (.lst xs) ∧ DpAll K H' xs (acc.map dInts) ∧
      acc.map (fun l => (l.length : Int)) = lens.take i ∧ (∀ l ∈ acc, ∀ z ∈ l, NB z) ∧ n' ≤ n + 2000 * i ∧ MS H' m n' ∧ ¬ Lf H' m D ∧ Ef m H H')
    ⟨[], [], n, none, rfl, upd_same, .nil, rfl, (by intro z hz; cases hz), Nat.le_refl _, M.same (same_upd hD _), fun z => M.notLf hD (z.upd (M.mne hD)), Ef.ofSame M (same_upd hD _)⟩
    (fun i σ H' _ ⟨_, _, _, _, _, _, _, _, _, _, _, _, e⟩ => (e.tk M) _ _ hT) ?_ ?_
  · rintro i x σ H2 H3 hi ⟨acc, xs, n1, vl, rfl, hA, hX, hm, hb, hn1, M2, nl, e2⟩ ⟨rfl, hx⟩
    obtain ⟨z, hz1, rfl⟩ := map_int_get hx
    have hi' : i < lens.length := (List.getElem?_eq_some_iff.mp hz1).1
    obtain ⟨z0, z1⟩ := hz z (List.mem_of_getElem? hz1)
    refine ⟨_, rfl, .inl ⟨rfl, _, SqL.of hA⟩, ?_⟩
    refine ⟨_, rfl, z, rfl, by omega, by omega, fun D2 hD2 => ?_⟩
    refine lc_it walk_range (fun j H' => ∃ (bs : List Int) (n' : Nat), H' D2 = some (.lst (bs.map V.int)) ∧ bs.length = j ∧ (∀ y ∈ bs, NB y) ∧ n' ≤ n1 + 2 * j ∧ MS H' m n' ∧ ¬ Lf H' m D2 ∧ Ef m H3 H')
      ⟨[], n1, upd_same, rfl, (by intro y hy; cases hy), Nat.le_refl _, M2.same (same_upd hD2 _), fun w => M2.notLf hD2 (w.upd (M2.mne hD2)), Ef.ofSame M2 (same_upd hD2 _)⟩ (fun _ _ _ _ => trivial) ?_ ?_
    · rintro j x H4 H5 hj ⟨bs, n', hB, hj2, hbb, hn', M4, nl4, e4⟩ ⟨rfl, rfl⟩
      refine ⟨rfl, ?_⟩
      refine ⟨_, rfl, m, n', rfl, M4, by omega, fun r n2 H6 hr hn2 M6 e6 => ?_⟩
      obtain ⟨hB6, nl6⟩ := e6.lst M4 hB nl4
      refine ⟨_, hB6, by rw [List.length_map]; exact small1000 (by omega), bs ++ [r], n2, ?_, ?_, ?_, by omega, M6.upd hB6 nl6, fun w => nl6 (w.upd (M6.mneL hB6)), (e4.trans e6).upd hD2 (M6.mneL hB6)⟩
      · rw [upd_same, List.map_append]
        all_goals rfl
      · rw [List.length_append, List.length_singleton, hj2]
      · intro y hy
        rcases List.mem_append.mp hy with q | q
        · exact hbb y q
        · rw [List.mem_singleton.mp q]
          exact hr
    · rintro H4 ⟨bs, n', hB, hj2, hbb, hn', M4, nl4, e4⟩
      obtain ⟨hA4, nlA⟩ := e4.lst M2 hA nl
      refine ⟨D2, _, rfl, .inl ⟨SqL.of hB, fun t ht => ?_⟩⟩
      have s5 := same_upd ht (.tup (bs.map V.int))
      have hA5 := s5 _ _ hA4
      have M5 := M4.same s5
      have e5 := e4.trans (Ef.ofSame M4 s5)
      have nl5 : ¬ Lf (upd H4 t (.tup (bs.map V.int))) m D := fun w => nlA (w.upd (M4.mne ht))
      have hlx := hX.len
      rw [List.length_map] at hlx
      have hla : acc.length = i := by
        have q := congrArg List.length hm
        rw [List.length_map, List.length_take] at q
        omega
      refine ⟨D, xs, _, rfl, rfl, hA5, small1000 (by omega), ?_⟩
      refine ⟨acc ++ [bs], xs ++ [.ref t], n', _, rfl, upd_same, ?_, ?_, ?_, by omega, M5.upd hA5 nl5, fun w => nl5 (w.upd (M5.mneL hA5)), (e2.trans e5).upd ?_ (M5.mneL hA5)⟩
      · rw [List.map_append]
        have tk : TK K H3 (upd (upd H4 t (.tup (bs.map V.int))) D (.lst (xs ++ [.ref t]))) := (e5.tk M2).trans (tk_upd hA5)
        refine (DpAll.keepT tk _ _ (to_loops acc) hX).app (.cons (Dp.ofInts ?_) .nil)
        exact (tk_upd hA5) _ _ (SqT.of upd_same)
      · rw [List.map_append, hm, take_more hz1]
        have q : (bs.length : Int) = z := by omega
        show _ = _
        simp [q]
      · intro l hl' y hy
        rcases List.mem_append.mp hl' with q | q
        · exact hb l q y hy
        · rw [List.mem_singleton.mp q] at hy
          exact hbb y hy
      · exact hD
  · rintro σ H2 ⟨acc, xs, n1, vl, rfl, hA, hX, hm, hb, hn1, M2, nl, e2⟩
    rw [List.length_map] at hm hn1
    rw [List.take_length] at hm
    refine ⟨_, rfl, D, _, rfl, .inl ⟨SqL.of hA, fun t ht => ?_⟩⟩
    have s3 := same_upd ht (.tup xs)
    refine k _ acc n1 _ (.tup (SqT.of upd_same) (DpAll.same s3 _ _ hX)) hm hb (by omega) (M2.same s3) (e2.trans (Ef.ofSame M2 s3))
end
section
variable {P : Program} {w : World} {K : PySem.W.Frag} {mg : Str → Option Value} {base : Heap}
theorem ok__law_outcome (T : Top K mg) : FnG P w K mg base 4 T.a__law_outcome T.d__law_outcome ["thing"] (sp__law_outcome K) := by
  refine T.F__law_outcome.okG sc__law_outcome (fun vs H Q E h => ?_) (fun cdv A outer s H vs Q E hr hG h => ?_)
  · obtain ⟨v, d, rfl, hv, k⟩ := h
    rfl
  obtain ⟨v, d, rfl, hv, k⟩ := h
  refine ⟨_, (pss_cons (ps_set (i := 1) sc__law_outcome.nd rfl (Or.inl rfl) pe_str)
      (pss_cons (ps_try_as (i := 2) (tb := (fun W => tAsg (tIf (tTest (tOp rEq (tCB (rReprA K) (tCons (tCallS (sp_need_loopsX K T.x_BadLoops.C) (WE W) (tCons (tVar 0) tNil)) tNil)) (tCB (rReprA K) (tCons (tVar 0) tNil)))) (tC .non) (tC (.str "another"))) (gName 1))) (ts := (fun a cls d => tAsg (tLst (tCons (tXf a cls d T.x_BadLoops.C "place" (tVar 2)) tNil)) (gName 1))) (Wout := fun _ _ _ _ => False) rfl rfl sc__law_outcome.nd rfl rfl ⟨rfl, by decide, Or.inl T.x_BadLoops.m⟩ takes0 (fun W pn xe tk _ => pss_one (ps_set (i := 1) sc__law_outcome.nd rfl (Or.inl rfl) (by exact (pe_ifExp (pt_cmpR op_eq (pe_callB (k_reprA (K := K) hr.units hG) (by rfl) T.z_repr bt_repr (pa_cons (by exact (pe_callS (okX_need_loops T) (hr.mono (by decide)) (by rfl) T.m_need_loops T.F_need_loops.kp T.b_need_loops (fun σ => passAt tk σ) (by exact (pa_cons (pv 0) pa_nil)))) pa_nil)) (pe_callB (k_reprA (K := K) hr.units hG) (by rfl) T.z_repr bt_repr (pa_cons (pv 0) pa_nil)) (nomark _)) pe_non pe_str)))) (fun a oe cls d pn hz hf => pss_one (ps_set (i := 1) sc__law_outcome.nd rfl (Or.inl rfl) (by exact (pe_lst (pa_cons (pe_xf T.x_BadLoops.xf T.x_BadLoops.nf hz hf (pv 2)) pa_nil))))))
      (pss_one (ps_ret (pv 1))))), ?_⟩
  refine ⟨_, rfl, v, d, rfl, hv, fun e0 H1 s1 => ?_, fun p e1 dd w H1 s1 hd hw => ?_⟩
  · obtain ⟨ls, hD, okl, hz⟩ := valid_dp (hv.same s1) e0
    have tl := tells_loops (ls := ls) 40 64 (by decide) (by decide) hz (fun l hl => (okl.2 l hl).2) (by have := okl.1; omega)
    refine ⟨v, dLoops ls, rfl, hD, .inl tl, _, rfl, v, dLoops ls, rfl, hD, .inl tl, rfl, _, rfl, iteP rfl ?_⟩
    refine ⟨_, rfl, k .non H1 s1 ?_⟩
    unfold outD
    rw [e0]
    exact .non
  · refine ⟨true, T.x_BadLoops.te, fun _ a ha => ?_, fun q => Bool.noConfusion q⟩
    refine ⟨_, rfl, rfl, rfl, dd, [("place", w)], w, rfl, hd, by simp [List.lookup], (by show 1 ≤ sizeLine; decide), fun p' hp' => ?_⟩
    have s2 := same_upd hp' (.lst [w])
    refine ⟨_, rfl, k (.ref p') _ (s1.trans s2) ?_⟩
    unfold outD
    rw [e1]
    exact .lst (SqL.of upd_same) (.cons (hw.same_at s2) .nil)
end
end My

namespace My
open PySem PySem.Spec PyProof.Rows L2
theorem loopsT_get {ls : List (List Int)} {j : Nat} {y : Dt} (h : (loopsT ls)[j]? = some y) : ∃ l, ls[j]? = some l ∧ y = .tup (l.map Dt.int) := by
  unfold loopsT at h
  rw [List.getElem?_map] at h
  cases e : ls[j]? with
  | none =>
    rw [e] at h
    cases h
  | some l =>
    rw [e] at h
    exact ⟨l, rfl, (Option.some.inj h).symm⟩
theorem valid_loops {ls : List (List Int)} (h : OkL ls) : faultOf (.tup (loopsT ls)) = none := by
  refine fault0 (by unfold loopsT; rw [List.length_map]; have := h.1; omega) (fun j y hy => ?_) (fun j y hy => ?_)
  · obtain ⟨l, hl, rfl⟩ := loopsT_get hy
    obtain ⟨a, b⟩ := h.2 l (List.mem_of_getElem? hl)
    show (!(decide (1 ≤ (l.map Dt.int).length) && decide ((l.map Dt.int).length ≤ 64))) = false
    rw [List.length_map, decide_eq_true a, decide_eq_true b]
    rfl
  · obtain ⟨l, hl, rfl⟩ := loopsT_get hy
    refine fi_none fun k z hz => ?_
    rw [List.getElem?_map] at hz
    cases e : l[k]? with
    | none =>
      rw [e] at hz
      cases hz
    | some i =>
      rw [e] at hz
      cases hz
      rfl
theorem loopsT_bd {ls : List (List Int)} (h : OkL ls) : Bd 6 (loopsT ls) := by
  refine ⟨by unfold loopsT; rw [List.length_map]; exact h.1, fun e he fs hf => ?_⟩
  obtain ⟨l, hl, rfl⟩ := List.mem_map.mp he
  cases hf
  rw [List.length_map]
  have := (h.2 l hl).2
  omega
theorem fi_lt {p : Dt → Bool} {xs : List Dt} {i : Nat} (h : xs.findIdx? p = some i) : i < xs.length := (List.findIdx?_eq_some_iff_getElem.mp h).1
theorem fault_small {d : Dt} {p : List Nat} (h : faultOf d = some p) : p.length ≤ 2 ∧ ∀ n ∈ p, n < 100 := by
  cases d with
  | int i =>
    cases h
    exact ⟨by decide, by intro n hn; cases hn⟩
  | oth i =>
    cases h
    exact ⟨by decide, by intro n hn; cases hn⟩
  | tup ds =>
    rw [fault_eq] at h
    by_cases h6 : 6 < ds.length
    · rw [if_pos h6] at h
      cases h
      exact ⟨by decide, by intro n hn; cases hn⟩
    rw [if_neg h6] at h
    cases e1 : ds.findIdx? badLoop with
    | some k =>
      rw [e1] at h
      cases h
      have := fi_lt e1
      exact ⟨by simp, by intro n hn; rw [List.mem_singleton.mp hn]; omega⟩
    | none =>
      rw [e1] at h
      simp only at h
      cases e2 : ds.findIdx? (fun d => (firstBad d).isSome) with
      | none =>
        rw [e2] at h
        cases h
      | some k =>
        rw [e2] at h
        simp only at h
        have hk := fi_lt e2
        rw [List.getElem?_eq_getElem hk] at h
        have gb := List.findIdx?_eq_none_iff.mp e1 ds[k] (List.getElem_mem hk)
        cases h
        refine ⟨by simp, ?_⟩
        intro n hn
        simp at hn
        rcases hn with q | q
        · omega
        · rw [q]
          cases ed : ds[k] with
          | int i => rw [ed] at gb; simp [badLoop] at gb
          | oth i => rw [ed] at gb; simp [badLoop] at gb
          | tup es =>
            rw [ed] at gb
            simp [badLoop] at gb
            show (((firstBad (.tup es)).getD 0)) < 100
            cases e3 : firstBad (.tup es) with
            | none => show 0 < 100; decide
            | some j =>
              have e3' : es.findIdx? badNum = some j := e3
              have := fi_lt e3'
              show j < 100
              omega
theorem out_tells (d : Dt) : TellsA (outD d) := by
  unfold outD
  cases e : faultOf d with
  | none => exact .inr (.inl rfl)
  | some p =>
    obtain ⟨h1, h2⟩ := fault_small e
    refine .inl (tells 40 (by decide) (by decide) rfl ?_ ?_ ?_)
    · show (fits.go 40 ((p.map fun n : Nat => (n : Int)).map PyData.int) && true) = true
      rw [fits_ints]
      · rfl
      · intro z hz
        obtain ⟨n, hn, rfl⟩ := List.mem_map.mp hz
        have := h2 n hn
        have g : (100 : Nat) ≤ 10 ^ 40 := by decide
        omega
    · show max (PyData.depthAll ((p.map fun n : Nat => (n : Int)).map PyData.int) + 1) 0 + 1 ≤ 8
      rw [depth_ints]
      decide
    · show room.go 40 ((p.map fun n : Nat => (n : Int)).map PyData.int) + 4 + 2 + 0 + 4 ≤ 16000000
      rw [room_ints, List.length_map]
      omega
theorem first_eq : PyData.eqv (.list [.list [placeD [1]], .list [placeD [1]]]) (.list [.list [dInts [1]], .list [dInts [1]]]) = true := by decide +kernel
section
variable {P : Program} {w : World} {K : PySem.W.Frag} {mg : Str → Option Value} {base : Heap}
theorem ok_law (T : Top K mg) : FnG P w K mg base 5 T.a_law T.d_law ["script"] (sp_law K) := by
  refine T.F_law.okG sc_law (fun vs H Q E h => ?_) (fun cdv A outer s H vs Q E hr hG h => ?_)
  · obtain ⟨a, ns, rfl, hS, hl, q⟩ := h
    rfl
  obtain ⟨a, ns, rfl, hS, hl, q⟩ := h
  refine ⟨_, (pss_cons (ps_set (i := 1) sc_law.nd rfl (Or.inl rfl) (pe_call (ok__law_begun T) (hr.mono (by decide)) (by rfl) T.m__law_begun T.F__law_begun.kp T.b__law_begun .nil pass0 (pa_cons (pv 0) pa_nil)))
      (pss_cons (ps_if (pt_cmpR (k_neD (K := K) hr.units) (pe_lst (pa_cons (pe_callG (ok__law_outcome T) (hr.mono (by decide)) hG (by rfl) T.m__law_outcome T.F__law_outcome.kp T.b__law_outcome .nil pass0 (pa_cons (pe_tup (pa_cons (pe_tup (pa_cons pe_int (pa_cons pe_non pa_nil))) (pa_cons pe_int pa_nil))) pa_nil)) (pa_cons (pe_callG (ok__law_outcome T) (hr.mono (by decide)) hG (by rfl) T.m__law_outcome T.F__law_outcome.kp T.b__law_outcome .nil pass0 (pa_cons (pe_tup (pa_cons (pe_tup (pa_cons pe_non pa_nil)) (pa_cons (pe_tup pa_nil) (pa_cons (pe_op (op_repA (K := K)) (pe_tup (pa_cons pe_int pa_nil)) pe_int) pa_nil)))) pa_nil)) pa_nil))) (pe_lst (pa_cons (pe_lst (pa_cons (pe_tup (pa_cons pe_int pa_nil)) pa_nil)) (pa_cons (pe_lst (pa_cons (pe_tup (pa_cons pe_int pa_nil)) pa_nil)) pa_nil))) (nomark _)) (pss_one (ps_ret pe_bl)) pss_nil)
      (pss_cons (ps_for PassesOwn.never rfl (pi_range1 (by rfl) T.z_range (pa_cons (pe_op op_add pe_int (pe_callB (call_min2 rfl) (by rfl) T.z_min bt_min (pa_cons (pe_callB (k_len (K := K)) (by rfl) T.z_len bt_len (pa_cons (pv 0) pa_nil)) (pa_cons pe_int pa_nil)))) pa_nil)) (pg_name (i := 2) sc_law.nd rfl (Or.inl rfl)) (pss_cons (ps_set (i := 3) sc_law.nd rfl (Or.inl rfl) (pe_call (ok__law_loops_of T) (hr.mono (by decide)) (by rfl) T.m__law_loops_of T.F__law_loops_of.kp T.b__law_loops_of .nil pass0 (pa_cons (pv 1) (pa_cons (pe_call (ok__law_lengths T) (hr.mono (by decide)) (by rfl) T.m__law_lengths T.F__law_lengths.kp T.b__law_lengths .nil pass0 (pa_cons (pv 1) (pa_cons pe_int (pa_cons (pe_ix (k_ixL (K := K)) (pe_lst (pa_cons pe_int (pa_cons pe_int pa_nil))) (pe_call (ok__law_next T) (hr.mono (by decide)) (by rfl) T.m__law_next T.F__law_next.kp T.b__law_next .nil pass0 (pa_cons (pv 1) (pa_cons pe_int pa_nil))) (fun _ _ => rfl)) pa_nil)))) pa_nil))))
      (pss_cons (ps_if (PW.pt (pw_or (pt_cmpR op_notN (pe_callG (ok__law_outcome T) (hr.mono (by decide)) hG (by rfl) T.m__law_outcome T.F__law_outcome.kp T.b__law_outcome .nil pass0 (pa_cons (pv 3) pa_nil)) pe_non (nomark _)) (pw_or1 (pt_cmpR (k_neD (K := K) hr.units) (pe_call (ok_lengths_of T) (hr.mono (by decide)) (by rfl) T.m_lengths_of T.F_lengths_of.kp T.b_lengths_of .nil pass0 (pa_cons (pv 3) pa_nil)) (pe_callTy (k_tuple (K := K)) (by rfl) T.z_tuple bt_tuple (pa_cons (pe_lc (own := [("loop", 6)]) rfl sc_law.nd (k_piT (K := K) (pv 3)) (blkOk_by (own := [("loop", 6)]) (N := ["script", "m", "turn", "loops", "thing", "k", "loop"]) (sc := defScope s_law) (by decide +kernel)) (fun _ _ _ _ _ => (pg_name (i := 6) sc_law.nd rfl (Or.inl rfl))) (fun _ _ _ _ _ => pts_nil) (fun _ _ _ _ _ => (pe_callB (k_len (K := K)) (by rfl) T.z_len bt_len (pa_cons (pv 6) pa_nil)))) pa_nil)) (nomark _))))) (pss_one (ps_ret pe_bl)) pss_nil)
      (pss_cons (ps_set (i := 4) sc_law.nd rfl (Or.inl rfl) (pv 3))
      (pss_one (ps_for PassesOwn.never rfl (pi_range1 (by rfl) T.z_range (pa_cons pe_int pa_nil)) (pg_name (i := 5) sc_law.nd rfl (Or.inl rfl)) (Evl.pss_cut (ps_if (pt_val (pe_callB (k_isi (K := K)) (by rfl) T.z_isinstance bt_isinstance (pa_cons (pv 4) (pa_cons (pe_bltn (v := .ty "tuple") (by rfl) T.z_tuple bt_tuple rfl) pa_nil)))) (pss_one (ps_set (i := 4) sc_law.nd rfl (Or.inl rfl) (pe_call (ok__law_spoiled T) (hr.mono (by decide)) (by rfl) T.m__law_spoiled T.F__law_spoiled.kp T.b__law_spoiled .nil pass0 (pa_cons (pv 1) (pa_cons (pv 4) pa_nil))))) pss_nil)
      (pss_one (ps_if (pt_cmpR op_ne (pe_callB (k_reprA (K := K) hr.units hG) (by rfl) T.z_repr bt_repr (pa_cons (pe_callG (ok__law_outcome T) (hr.mono (by decide)) hG (by rfl) T.m__law_outcome T.F__law_outcome.kp T.b__law_outcome .nil pass0 (pa_cons (pv 4) pa_nil)) pa_nil)) (pe_callB (k_reprA (K := K) hr.units hG) (by rfl) T.z_repr bt_repr (pa_cons (pe_call (ok__law_fault T) (hr.mono (by decide)) (by rfl) T.m__law_fault T.F__law_fault.kp T.b__law_fault .nil pass0 (pa_cons (pv 4) pa_nil)) pa_nil)) (nomark _)) (pss_one (ps_ret pe_bl)) pss_nil)))))))))
      (pss_one (ps_ret pe_bl))))), ?_⟩
  refine ⟨_, rfl, a, ns, rfl, hS, hl, fun m H1 s1 M1 => ?_⟩
  refine ⟨(by show 2 ≤ sizeLine; decide), fun p1 hp1 => ⟨(by show 2 ≤ sizeLine; decide), fun p2 hp2 => ?_⟩⟩
  have r1 : Rp K _ (fun _ => True) (.ref p1) (.tup [.int 1, .oth "NoneType"]) := Rp.new hp1 (.cons (.int 1 (by decide)) (.cons .non .nil))
  have r2 : Rp K _ (fun _ => True) (.ref p2) (.tup [.tup [.int 1, .oth "NoneType"], .int 5]) := Rp.new hp2 (.cons r1 (.cons (.int 5 (by decide)) .nil))
  have t2 := (same_upd hp1 (.tup [.int 1, .non])).trans (same_upd hp2 (.tup [.ref p1, .int 5]))
  refine ⟨.ref p2, _, rfl, r2, fun w3 H3 s3 hw3 => ?_⟩
  refine ⟨(by show 1 ≤ sizeLine; decide), fun p4 hp4 => ⟨(by show 0 ≤ sizeLine; decide), fun p5 hp5 => ⟨(by show 1 ≤ sizeLine; decide), fun p6 hp6 => ?_⟩⟩⟩
  have r4 : Rp K _ (fun _ => True) (.ref p4) (.tup [.oth "NoneType"]) := Rp.new hp4 (.cons .non .nil)
  have r5 : Rp K _ (fun _ => True) (.ref p5) (.tup []) := Rp.new hp5 .nil
  have r6 : Rp K _ (fun _ => True) (.ref p6) (.tup [.int 0]) := Rp.new hp6 (.cons (.int 0 (by decide)) .nil)
  have s5 := same_upd hp5 (.tup [])
  have s6 := same_upd hp6 (.tup [.int 0])
  dsimp only [tC]
  refine rd_repR r6 (by decide) (by decide) (by decide) fun v7 H7 s7 hv7 => ⟨(by show 3 ≤ sizeLine; decide), fun p8 hp8 => ?_⟩
  have r8 : Rp K _ (fun _ => True) (.ref p8) (.tup [.tup [.oth "NoneType"], .tup [], .tup (List.replicate (65 : Int).toNat [Dt.int 0]).flatten]) := Rp.new hp8 (.cons (r4.same (s5.trans (s6.trans s7))) (.cons (r5.same (s6.trans s7)) (.cons hv7 .nil)))
  have s8 := same_upd hp8 (.tup [.ref p4, .ref p5, v7])
  refine ⟨.ref p8, _, rfl, r8, fun w9 H9 s9 hw9 => ⟨(by show 2 ≤ sizeLine; decide), fun l hl => ?_⟩⟩
  have t9 := (same_upd hp4 (.tup [.non])).trans (s5.trans (s6.trans (s7.trans (s8.trans s9))))
  have hw3' := hw3.same_at t9
  have dl : Dp K _ (.ref l) (.list [.list [placeD [1]], .list [placeD [1]]]) := .lst (SqL.of upd_same) (.cons (hw3'.same_at (same_upd hl (.lst [w3, w9]))) (.cons (hw9.same_at (same_upd hl (.lst [w3, w9]))) .nil))
  refine ⟨(by show 1 ≤ sizeLine; decide), fun q1 hq1 => ⟨(by show 1 ≤ sizeLine; decide), fun q2 hq2 => ⟨(by show 1 ≤ sizeLine; decide), fun q3 hq3 => ⟨(by show 1 ≤ sizeLine; decide), fun q4 hq4 => ⟨(by show 2 ≤ sizeLine; decide), fun q5 hq5 => ?_⟩⟩⟩⟩⟩
  have z1 := same_upd hq1 (.tup [.int 1])
  have z2 := same_upd hq2 (.lst [.ref q1])
  have z3 := same_upd hq3 (.tup [.int 1])
  have z4 := same_upd hq4 (.lst [.ref q3])
  have z5 := same_upd hq5 (.lst [.ref q2, .ref q4])
  have d2 : Dp K _ (.ref q2) (.list [dInts [1]]) := .lst (SqL.of upd_same) (.cons (Dp.ofInts (ns := [1]) (SqT.of (z2 _ _ upd_same))) .nil)
  have d4 : Dp K _ (.ref q4) (.list [dInts [1]]) := .lst (SqL.of upd_same) (.cons (Dp.ofInts (ns := [1]) (SqT.of (z4 _ _ upd_same))) .nil)
  have d5 : Dp K _ (.ref q5) (.list [.list [dInts [1]], .list [dInts [1]]]) := .lst (SqL.of upd_same) (.cons (d2.same_at (z3.trans (z4.trans z5))) (.cons (d4.same_at z5) .nil))
  refine ⟨_, _, dl.same_at (z1.trans (z2.trans (z3.trans (z4.trans z5)))), d5, by decide +kernel, by decide +kernel, _, rfl, iteB first_eq ?_⟩
  have T := t2.trans (s3.trans (t9.trans ((same_upd hl (.lst [w3, w9])).trans (z1.trans (z2.trans (z3.trans (z4.trans z5)))))))
  have MT := M1.same T
  have hmin := min4 (((ns.map V.int).length : Nat) : Int) (by omega)
  refine ⟨_, rfl, a, _, rfl, .inl ((s1.trans T).seq hS), _, _, rfl, _, _, rfl, rfl, _, rfl, by omega, by omega, ?_⟩
  refine for_it walk_range (fun i σ H' => ∃ (n : Nat) (w2 w3 w4 w5 w6 : Option V), σ = [some (.ref a), some (.ref m), w2, w3, w4, w5, w6] ∧ MS H' m n ∧ n ≤ 300000 * i)
    ⟨0, none, none, none, none, none, rfl, MT, by omega⟩ (fun _ _ _ _ _ => trivial) ?_ ?_
  · rintro i x σ H2 H3 hi ⟨n, w2, w3, w4, w5, w6, rfl, M2, hn⟩ ⟨rfl, rfl⟩
    have hi6 : i < 6 := by omega
    refine ⟨_, rfl, _, rfl, (by show 2 ≤ sizeLine; decide), fun p hp => ?_⟩
    have s3 := same_upd hp (.lst ([(12 : Int), 64].map V.int))
    have M3 := M2.same s3
    refine ⟨_, rfl, m, 2, n, rfl, M3, by decide, by decide, by omega, fun r n4 H4 r0 r2 hn4 M4 e4 => ?_⟩
    obtain ⟨hp4, _⟩ := e4.lst M3 upd_same (fun z => M2.notLf hp (z.upd (M2.mne hp)))
    obtain ⟨b, hb, hb2⟩ := pick2 (x := 12) (y := 64) r0 r2
    refine ⟨p, _, r, .int b, rfl, rfl, SqL.of hp4, hb, ?_⟩
    refine ⟨m, 6, b, n4, rfl, M4, by decide, by decide, by omega, by omega, by omega, fun v5 lens n5 H5 hd5 hl5 hb5 hn5 M5 e5 => ?_⟩
    refine ⟨m, v5, lens, n5, rfl, hd5, by omega, fun z hz => by have := hb5 z hz; omega, M5, by omega, fun v6 ls n6 H6 hd6 hm6 hb6 hn6 M6 e6 => ?_⟩
    have ok6 : OkL ls := by
      have e := congrArg List.length hm6
      rw [List.length_map] at e
      refine ⟨by omega, fun l hl => ?_⟩
      have := hb5 _ (hm6 ▸ List.mem_map_of_mem hl : (l.length : Int) ∈ lens)
      omega
    obtain ⟨la, xs, rfl, hT, hX⟩ := hd6.tuple
    have hlen := hX.len
    rw [List.length_map] at hlen
    have hR6 : ∀ ok, Rp K H6 ok (.ref la) (.tup (loopsT ls)) := fun ok => .tup hT (loops_rp hX fun l hl z hz => nb_small (hb6 l hl z hz))
    refine ⟨_, rfl, .ref la, _, rfl, hR6 _, fun w7 H7 s7 hw7 => ?_⟩
    have o7 : outD (.tup (loopsT ls)) = .none := by
      unfold outD
      rw [valid_loops ok6]
    rw [o7] at hw7
    cases hw7
    refine ⟨rfl, _, rfl, iteF ?_⟩
    refine ⟨_, rfl, .ref la, ls, rfl, hd6.same_at s7, ok6, fun w8 H8 s8 hw8 => ?_⟩
    have t8 := s7.trans s8
    have hT8 := Same.tk t8 _ _ hT
    have hX8 := DpAll.same t8 _ _ hX
    refine ⟨_, rfl, la, rfl, ⟨_, hT8⟩, fun D hD => ?_⟩
    refine lc_it walk_tup (fun i H' => H' D = some (.lst ((lensI (ls.take i)).map V.int)) ∧ Same H8 H') ⟨upd_same, same_upd hD _⟩ (fun i H' _ p => Same.tk p.2 _ _ hT8) ?_ ?_
    · rintro i x H9 H10 hi ⟨hA, s9⟩ ⟨rfl, hx⟩
      obtain ⟨l, b, hl, rfl, hB⟩ := loops_get hX8 hx
      have hB1 := Same.tk s9 _ _ hB
      refine ⟨rfl, ?_⟩
      refine ⟨_, rfl, b, _, rfl, .inr hB1, ?_⟩
      refine ⟨_, hA, by unfold lensI; rw [List.length_map, List.length_map, List.length_take]; exact small1000 (by have := ok6.1; omega), ?_, ?_⟩
      · rw [upd_same, take_more hl]
        simp [lensI]
      · exact fun b' o q => by
          rw [upd_ne (ne_of_none q hD)]
          exact s9 _ _ q
    rintro H9 ⟨hA, s9⟩
    rw [hlen, List.take_length] at hA
    refine ⟨D, _, rfl, .inl ⟨SqL.of hA, fun t ht => ?_⟩⟩
    have s10 := same_upd ht (.tup ((lensI ls).map V.int))
    refine ⟨_, _, hw8.same_at (s9.trans s10), Dp.ofInts (SqT.of upd_same), shaped_dInts _, shaped_dInts _, _, rfl, ?_⟩
    have eq8 : PyData.eqv (dInts (lensI ls)) (dInts (lensI ls)) = true := by
      rw [eqv_dInts]
      exact decide_eq_true rfl
    rw [eq8]
    refine iteF ?_
    have t10 := t8.trans (s9.trans s10)
    have M10 := M6.same t10
    refine ⟨_, rfl, 2, rfl, by decide, by decide, ?_⟩
    refine for_it walk_range (fun k σ H' => ∃ (n' : Nat) (v : V) (d : Dt) (w5 w6 : Option V), σ = [some (.ref a), some (.ref m), some (.int (0 + (i : Nat))), some (.ref la), some v, w5, w6] ∧ MS H' m n' ∧ n' ≤ n6 + 4 * k ∧
        Rp K H' (off H' m) v d ∧ (k < 2 → ∀ es, d = .tup es → Bd (6 + 50 * k) es))
      ⟨n6, .ref la, .tup (loopsT ls), _, _, rfl, M10, Nat.le_refl _, (hR6 _).same t10, fun _ es he => by cases he; exact loopsT_bd ok6⟩ (fun _ _ _ _ _ => trivial) ?_ ?_
    · rintro kk x σ H11 H12 hk ⟨n', v, d, w5, w6, rfl, M11, hn11, hR, hB⟩ ⟨rfl, rfl⟩
      have hk2 : kk < 2 := hk
      refine ⟨fun σ' H' => ∃ (n2 : Nat) (v2 : V) (d2 : Dt), σ' = [some (.ref a), some (.ref m), some (.int (0 + (i : Nat))), some (.ref la), some v2, some (.int (0 + (kk : Nat))), w6] ∧ MS H' m n2 ∧ n2 ≤ n' + 4 ∧
        Rp K H' (off H' m) v2 d2 ∧ (kk + 1 < 2 → ∀ es, d2 = .tup es → Bd (6 + 50 * (kk + 1)) es), ?_, ?_⟩
      · refine ⟨_, rfl, v, _, _, _, isTup d, rfl, ClsV.ty _, hR.ty, hR.kitTup, isTup d, rfl, ?_⟩
        cases d with
        | int i' => exact iteF ⟨n', v, .int i', rfl, M11, by omega, hR, fun _ es he => by cases he⟩
        | oth i' => exact iteF ⟨n', v, .oth i', rfl, M11, by omega, hR, fun _ es he => by cases he⟩
        | tup es =>
          have bd := hB hk2 es rfl
          refine iteT ?_
          refine ⟨_, rfl, _, rfl, m, v, es, n', rfl, M11, hR, by have := bd.1; omega, bd.mono (by omega), by omega, fun w13 d13 n13 H13 hR13 hB13 hn13 M13 e13 => ?_⟩
          refine ⟨n13, w13, d13, rfl, M13, by omega, hR13, fun hk3 es' he' => ?_⟩
          have := hB13 es' he'
          have l6 := bd.1
          have k0 : kk = 0 := by omega
          subst k0
          exact this.mono (by omega)
      · rintro σ H13 ⟨n2, v2, d2, rfl, M13, hn13, hR13, hB13⟩
        refine ⟨_, rfl, v2, d2, rfl, hR13.any, fun w14 H14 s14 hw14 => ?_⟩
        refine ⟨w14, _, rfl, hw14, out_tells d2, ?_⟩
        refine ⟨_, rfl, v2, d2, rfl, (hR13.any).same s14, fun w15 H15 s15 hw15 => ?_⟩
        refine ⟨w15, _, rfl, hw15, out_tells d2, rfl, _, rfl, iteNS rfl ?_⟩
        have t15 := s14.trans s15
        exact ⟨n2, v2, d2, _, _, rfl, M13.same t15, by omega, hR13.ef M13 (Ef.ofSame M13 t15), hB13⟩
    · rintro σ H11 ⟨n', v, d, w5, w6, rfl, M11, hn11, hR, hB⟩
      have hn11' : n' ≤ n6 + 4 * 2 := hn11
      exact ⟨n', _, _, _, _, _, rfl, M11, by omega⟩
  · rintro σ H2 ⟨n, w2, w3, w4, w5, w6, rfl, M2, hn⟩
    exact q H2
end
end My

namespace My
open PySem PySem.Spec PyProof.Rows L2
theorem all_mk {P : Program} {w : World} {K : PySem.W.Frag} {h : Heap} {mg : Str → Option Value} {fa : Addr} (X : K.In h) (G : h.Ns mainGlobals mg) (hfa : mg "law" = some (.ref fa))
    {f0 f1 f2 f3 f4 f5 f6 f7 f8 f9 f10 f11 f12 f13 : Addr} {od0 an0 od1 an1 od2 an2 od3 an3 od4 an4 od5 an5 od6 an6 od7 an7 od8 an8 od9 an9 od10 an10 od11 an11 od12 an12 od13 an13 : Option Addr} {sl0 sl1 sl2 sl3 sl4 sl5 sl6 sl7 sl8 sl9 sl10 sl11 sl12 sl13 : Array (Option Value)}
    {oc0 kV0 dc0 pm0 cd0 ct0 oc1 kV1 dc1 pm1 cd1 ct1 oc2 kV2 dc2 pm2 cd2 ct2 oc3 kV3 dc3 pm3 cd3 ct3 oc4 kV4 dc4 pm4 cd4 ct4 oc5 kV5 dc5 pm5 cd5 ct5 oc6 kV6 dc6 pm6 cd6 ct6 oc7 kV7 dc7 pm7 cd7 ct7 oc8 kV8 dc8 pm8 cd8 ct8 oc9 kV9 dc9 pm9 cd9 ct9 oc10 kV10 dc10 pm10 cd10 ct10 oc11 kV11 dc11 pm11 cd11 ct11 oc12 kV12 dc12 pm12 cd12 ct12 oc13 kV13 dc13 pm13 cd13 ct13 : Value}
    {tk_MOST_LOOPS tk_MOST_THINGS : Tok}
    (a0 : PySem.W.nsIn K mainGlobals "is_whole" = some (some (.ref f0)))
    (l0 : K.lookup f0 = some ⟨oc0, od0, .func (PySem.W.fnOf "is_whole" "is_whole" (defArgs s_is_whole) (defBody s_is_whole) (defScope s_is_whole) .none kV0 dc0 pm0 an0 cd0 ct0), sl0⟩)
    (c0 : PySem.W.codeIn K cd0 "is_whole" = true) (k0 : PySem.W.keepIn K (.ref f0) = true)
    (a1 : PySem.W.nsIn K mainGlobals "need_loops" = some (some (.ref f1)))
    (l1 : K.lookup f1 = some ⟨oc1, od1, .func (PySem.W.fnOf "need_loops" "need_loops" (defArgs s_need_loops) (defBody s_need_loops) (defScope s_need_loops) .none kV1 dc1 pm1 an1 cd1 ct1), sl1⟩)
    (c1 : PySem.W.codeIn K cd1 "need_loops" = true) (k1 : PySem.W.keepIn K (.ref f1) = true)
    (a2 : PySem.W.nsIn K mainGlobals "lengths_of" = some (some (.ref f2)))
    (l2 : K.lookup f2 = some ⟨oc2, od2, .func (PySem.W.fnOf "lengths_of" "lengths_of" (defArgs s_lengths_of) (defBody s_lengths_of) (defScope s_lengths_of) .none kV2 dc2 pm2 an2 cd2 ct2), sl2⟩)
    (c2 : PySem.W.codeIn K cd2 "lengths_of" = true) (k2 : PySem.W.keepIn K (.ref f2) = true)
    (a3 : PySem.W.nsIn K mainGlobals "_law_begun" = some (some (.ref f3)))
    (l3 : K.lookup f3 = some ⟨oc3, od3, .func (PySem.W.fnOf "_law_begun" "_law_begun" (defArgs s__law_begun) (defBody s__law_begun) (defScope s__law_begun) .none kV3 dc3 pm3 an3 cd3 ct3), sl3⟩)
    (c3 : PySem.W.codeIn K cd3 "_law_begun" = true) (k3 : PySem.W.keepIn K (.ref f3) = true)
    (a4 : PySem.W.nsIn K mainGlobals "_law_next" = some (some (.ref f4)))
    (l4 : K.lookup f4 = some ⟨oc4, od4, .func (PySem.W.fnOf "_law_next" "_law_next" (defArgs s__law_next) (defBody s__law_next) (defScope s__law_next) .none kV4 dc4 pm4 an4 cd4 ct4), sl4⟩)
    (c4 : PySem.W.codeIn K cd4 "_law_next" = true) (k4 : PySem.W.keepIn K (.ref f4) = true)
    (a5 : PySem.W.nsIn K mainGlobals "_law_number" = some (some (.ref f5)))
    (l5 : K.lookup f5 = some ⟨oc5, od5, .func (PySem.W.fnOf "_law_number" "_law_number" (defArgs s__law_number) (defBody s__law_number) (defScope s__law_number) .none kV5 dc5 pm5 an5 cd5 ct5), sl5⟩)
    (c5 : PySem.W.codeIn K cd5 "_law_number" = true) (k5 : PySem.W.keepIn K (.ref f5) = true)
    (a6 : PySem.W.nsIn K mainGlobals "_law_lengths" = some (some (.ref f6)))
    (l6 : K.lookup f6 = some ⟨oc6, od6, .func (PySem.W.fnOf "_law_lengths" "_law_lengths" (defArgs s__law_lengths) (defBody s__law_lengths) (defScope s__law_lengths) .none kV6 dc6 pm6 an6 cd6 ct6), sl6⟩)
    (c6 : PySem.W.codeIn K cd6 "_law_lengths" = true) (k6 : PySem.W.keepIn K (.ref f6) = true)
    (a7 : PySem.W.nsIn K mainGlobals "_law_loops_of" = some (some (.ref f7)))
    (l7 : K.lookup f7 = some ⟨oc7, od7, .func (PySem.W.fnOf "_law_loops_of" "_law_loops_of" (defArgs s__law_loops_of) (defBody s__law_loops_of) (defScope s__law_loops_of) .none kV7 dc7 pm7 an7 cd7 ct7), sl7⟩)
    (c7 : PySem.W.codeIn K cd7 "_law_loops_of" = true) (k7 : PySem.W.keepIn K (.ref f7) = true)
    (a8 : PySem.W.nsIn K mainGlobals "_law_is_number" = some (some (.ref f8)))
    (l8 : K.lookup f8 = some ⟨oc8, od8, .func (PySem.W.fnOf "_law_is_number" "_law_is_number" (defArgs s__law_is_number) (defBody s__law_is_number) (defScope s__law_is_number) .none kV8 dc8 pm8 an8 cd8 ct8), sl8⟩)
    (c8 : PySem.W.codeIn K cd8 "_law_is_number" = true) (k8 : PySem.W.keepIn K (.ref f8) = true)
    (a9 : PySem.W.nsIn K mainGlobals "_law_outcome" = some (some (.ref f9)))
    (l9 : K.lookup f9 = some ⟨oc9, od9, .func (PySem.W.fnOf "_law_outcome" "_law_outcome" (defArgs s__law_outcome) (defBody s__law_outcome) (defScope s__law_outcome) .none kV9 dc9 pm9 an9 cd9 ct9), sl9⟩)
    (c9 : PySem.W.codeIn K cd9 "_law_outcome" = true) (k9 : PySem.W.keepIn K (.ref f9) = true)
    (a10 : PySem.W.nsIn K mainGlobals "_law_fault" = some (some (.ref f10)))
    (l10 : K.lookup f10 = some ⟨oc10, od10, .func (PySem.W.fnOf "_law_fault" "_law_fault" (defArgs s__law_fault) (defBody s__law_fault) (defScope s__law_fault) .none kV10 dc10 pm10 an10 cd10 ct10), sl10⟩)
    (c10 : PySem.W.codeIn K cd10 "_law_fault" = true) (k10 : PySem.W.keepIn K (.ref f10) = true)
    (a11 : PySem.W.nsIn K mainGlobals "_law_put" = some (some (.ref f11)))
    (l11 : K.lookup f11 = some ⟨oc11, od11, .func (PySem.W.fnOf "_law_put" "_law_put" (defArgs s__law_put) (defBody s__law_put) (defScope s__law_put) .none kV11 dc11 pm11 an11 cd11 ct11), sl11⟩)
    (c11 : PySem.W.codeIn K cd11 "_law_put" = true) (k11 : PySem.W.keepIn K (.ref f11) = true)
    (a12 : PySem.W.nsIn K mainGlobals "_law_spoiled" = some (some (.ref f12)))
    (l12 : K.lookup f12 = some ⟨oc12, od12, .func (PySem.W.fnOf "_law_spoiled" "_law_spoiled" (defArgs s__law_spoiled) (defBody s__law_spoiled) (defScope s__law_spoiled) .none kV12 dc12 pm12 an12 cd12 ct12), sl12⟩)
    (c12 : PySem.W.codeIn K cd12 "_law_spoiled" = true) (k12 : PySem.W.keepIn K (.ref f12) = true)
    (a13 : PySem.W.nsIn K mainGlobals "law" = some (some (.ref f13)))
    (l13 : K.lookup f13 = some ⟨oc13, od13, .func (PySem.W.fnOf "law" "law" (defArgs s_law) (defBody s_law) (defScope s_law) .none kV13 dc13 pm13 an13 cd13 ct13), sl13⟩)
    (c13 : PySem.W.codeIn K cd13 "law" = true) (k13 : PySem.W.keepIn K (.ref f13) = true)
    {C_BadLoops f_BadLoops N_BadLoops : Addr} {nm_BadLoops q_BadLoops : Str} {bs_BadLoops sub_BadLoops : List Value} {sn_BadLoops : List Str} {ab_BadLoops : Bool} {col_BadLoops : Option Bool} {dd_BadLoops od_BadLoops an_BadLoops : Option Addr} {m0_BadLoops m1_BadLoops m2_BadLoops m3_BadLoops m5_BadLoops : Option Value}
    {sl_BadLoops : Array (Option Value)} {oc_BadLoops kV_BadLoops dc_BadLoops pm_BadLoops cd_BadLoops ct_BadLoops : Value}
    (aC_BadLoops : PySem.W.nsIn K mainGlobals "BadLoops" = some (some (.ref C_BadLoops)))
    (xL_BadLoops : K.lookup C_BadLoops = some (excClassObj nm_BadLoops q_BadLoops C_BadLoops N_BadLoops bs_BadLoops [.type "ValueError", .type "Exception", .type "BaseException", .type "object"] true sn_BadLoops sub_BadLoops ab_BadLoops col_BadLoops dd_BadLoops m0_BadLoops m1_BadLoops m2_BadLoops m3_BadLoops m5_BadLoops "ValueError.__new__"))
    (sa_BadLoops : PySem.W.findIn K (.ref C_BadLoops) "__setattr__" = some (some (.builtin "object.__setattr__")))
    (ga_BadLoops : PySem.W.findIn K (.ref C_BadLoops) "__getattribute__" = some (some (.builtin "BaseException.__getattribute__")))
    (gg_BadLoops : PySem.W.findIn K (.ref C_BadLoops) "__getattr__" = some none)
    (nb_BadLoops : PySem.W.findIn K (.ref C_BadLoops) "place" = some none)
    (ai_BadLoops : PySem.W.findIn K (.ref C_BadLoops) "__init__" = some (some (.ref f_BadLoops)))
    (ti_BadLoops : PySem.W.typeIn K (.ref f_BadLoops) = some (.type "function"))
    (kC_BadLoops : PySem.W.keepIn K (.ref C_BadLoops) = true)
    (eC_BadLoops : PySem.W.subIn K (.ref C_BadLoops) (.type "BaseException") = some true)
    (tC_BadLoops : PySem.W.typeIn K (.ref C_BadLoops) = some (.type "type"))
    (hC_BadLoops : PySem.W.hasDictIn K C_BadLoops = true)
    (iC_BadLoops : PySem.W.isClsIn K C_BadLoops = true)
    (sC_BadLoops : PySem.W.subIn K (.ref C_BadLoops) (.ref C_BadLoops) = some true)
    (ki_BadLoops : PySem.W.keepIn K (.ref f_BadLoops) = true)
    (li_BadLoops : K.lookup f_BadLoops = some ⟨oc_BadLoops, od_BadLoops, .func (PySem.W.fnOf "__init__" "BadLoops.__init__" (defArgs s_BadLoops_init) (defBody s_BadLoops_init) (defScope s_BadLoops_init) .none kV_BadLoops dc_BadLoops pm_BadLoops an_BadLoops cd_BadLoops ct_BadLoops), sl_BadLoops⟩)
    (ci_BadLoops : PySem.W.codeIn K cd_BadLoops "BadLoops.__init__" = true)
    (z_ValueError : PySem.W.nsIn K mainGlobals "ValueError" = some none)
    (v_ValueError : PySem.W.findCls K (.type "ValueError") (.type "type") "__init__" = some (.val (.builtin "ValueError.__init__")))
    (z_isinstance : PySem.W.nsIn K mainGlobals "isinstance" = some none)
    (z_int : PySem.W.nsIn K mainGlobals "int" = some none)
    (z_bool : PySem.W.nsIn K mainGlobals "bool" = some none)
    (z_enumerate : PySem.W.nsIn K mainGlobals "enumerate" = some none)
    (z_tuple : PySem.W.nsIn K mainGlobals "tuple" = some none)
    (z_len : PySem.W.nsIn K mainGlobals "len" = some none)
    (z_list : PySem.W.nsIn K mainGlobals "list" = some none)
    (z_range : PySem.W.nsIn K mainGlobals "range" = some none)
    (z_repr : PySem.W.nsIn K mainGlobals "repr" = some none)
    (z_max : PySem.W.nsIn K mainGlobals "max" = some none)
    (z_min : PySem.W.nsIn K mainGlobals "min" = some none)
    (g_MOST_LOOPS : PySem.W.nsIn K mainGlobals "MOST_LOOPS" = some (some (.int 6 tk_MOST_LOOPS)))
    (g_MOST_THINGS : PySem.W.nsIn K mainGlobals "MOST_THINGS" = some (some (.int 64 tk_MOST_THINGS)))
    : ∃ fd : FuncData, (∀ (s : Shared) (v : Value), BindsTo s fd ⟨[v], []⟩ [("script", v)]) ∧
      ∀ base : Heap, K.In base → base.Ns mainGlobals mg → FnG P w K mg base 5 fa fd ["script"] (sp_law K) := by
  have e := hfa.symm.trans (PySem.W.mg_of X G a13)
  cases e
  have F0 := fun_mk (st := s_is_whole) l0 c0 k0
  have b0 := F0.binds (ps := ["thing"]) fun _ _ _ _ _ _ us hl => match us, hl with | [_], _ => rfl
  have F1 := fun_mk (st := s_need_loops) l1 c1 k1
  have b1 := F1.binds (ps := ["thing"]) fun _ _ _ _ _ _ us hl => match us, hl with | [_], _ => rfl
  have F2 := fun_mk (st := s_lengths_of) l2 c2 k2
  have b2 := F2.binds (ps := ["loops"]) fun _ _ _ _ _ _ us hl => match us, hl with | [_], _ => rfl
  have F3 := fun_mk (st := s__law_begun) l3 c3 k3
  have b3 := F3.binds (ps := ["script"]) fun _ _ _ _ _ _ us hl => match us, hl with | [_], _ => rfl
  have F4 := fun_mk (st := s__law_next) l4 c4 k4
  have b4 := F4.binds (ps := ["m", "many"]) fun _ _ _ _ _ _ us hl => match us, hl with | [_, _], _ => rfl
  have F5 := fun_mk (st := s__law_number) l5 c5 k5
  have b5 := F5.binds (ps := ["m"]) fun _ _ _ _ _ _ us hl => match us, hl with | [_], _ => rfl
  have F6 := fun_mk (st := s__law_lengths) l6 c6 k6
  have b6 := F6.binds (ps := ["m", "many", "most"]) fun _ _ _ _ _ _ us hl => match us, hl with | [_, _, _], _ => rfl
  have F7 := fun_mk (st := s__law_loops_of) l7 c7 k7
  have b7 := F7.binds (ps := ["m", "lengths"]) fun _ _ _ _ _ _ us hl => match us, hl with | [_, _], _ => rfl
  have F8 := fun_mk (st := s__law_is_number) l8 c8 k8
  have b8 := F8.binds (ps := ["thing"]) fun _ _ _ _ _ _ us hl => match us, hl with | [_], _ => rfl
  have F9 := fun_mk (st := s__law_outcome) l9 c9 k9
  have b9 := F9.binds (ps := ["thing"]) fun _ _ _ _ _ _ us hl => match us, hl with | [_], _ => rfl
  have F10 := fun_mk (st := s__law_fault) l10 c10 k10
  have b10 := F10.binds (ps := ["thing"]) fun _ _ _ _ _ _ us hl => match us, hl with | [_], _ => rfl
  have F11 := fun_mk (st := s__law_put) l11 c11 k11
  have b11 := F11.binds (ps := ["row", "at", "thing"]) fun _ _ _ _ _ _ us hl => match us, hl with | [_, _, _], _ => rfl
  have F12 := fun_mk (st := s__law_spoiled) l12 c12 k12
  have b12 := F12.binds (ps := ["m", "loops"]) fun _ _ _ _ _ _ us hl => match us, hl with | [_, _], _ => rfl
  have F13 := fun_mk (st := s_law) l13 c13 k13
  have b13 := F13.binds (ps := ["script"]) fun _ _ _ _ _ _ us hl => match us, hl with | [_], _ => rfl
  have Fi_BadLoops := fun_mk (st := s_BadLoops_init) li_BadLoops ci_BadLoops ki_BadLoops
  have bi_BadLoops := Fi_BadLoops.binds (ps := ["self", "place"]) fun _ _ _ _ _ _ us hl => match us, hl with | [_, _], _ => rfl
  refine ⟨PySem.W.fnOf "law" "law" (defArgs s_law) (defBody s_law) (defScope s_law) .none kV13 dc13 pm13 an13 cd13 ct13, fun s v => .of_eq rfl, fun base _ _ => ?_⟩
  let T : Top K mg := {
      a_is_whole := f0
      d_is_whole := _
      F_is_whole := F0
      m_is_whole := PySem.W.mg_of X G a0
      b_is_whole := b0
      a_need_loops := f1
      d_need_loops := _
      F_need_loops := F1
      m_need_loops := PySem.W.mg_of X G a1
      b_need_loops := b1
      a_lengths_of := f2
      d_lengths_of := _
      F_lengths_of := F2
      m_lengths_of := PySem.W.mg_of X G a2
      b_lengths_of := b2
      a__law_begun := f3
      d__law_begun := _
      F__law_begun := F3
      m__law_begun := PySem.W.mg_of X G a3
      b__law_begun := b3
      a__law_next := f4
      d__law_next := _
      F__law_next := F4
      m__law_next := PySem.W.mg_of X G a4
      b__law_next := b4
      a__law_number := f5
      d__law_number := _
      F__law_number := F5
      m__law_number := PySem.W.mg_of X G a5
      b__law_number := b5
      a__law_lengths := f6
      d__law_lengths := _
      F__law_lengths := F6
      m__law_lengths := PySem.W.mg_of X G a6
      b__law_lengths := b6
      a__law_loops_of := f7
      d__law_loops_of := _
      F__law_loops_of := F7
      m__law_loops_of := PySem.W.mg_of X G a7
      b__law_loops_of := b7
      a__law_is_number := f8
      d__law_is_number := _
      F__law_is_number := F8
      m__law_is_number := PySem.W.mg_of X G a8
      b__law_is_number := b8
      a__law_outcome := f9
      d__law_outcome := _
      F__law_outcome := F9
      m__law_outcome := PySem.W.mg_of X G a9
      b__law_outcome := b9
      a__law_fault := f10
      d__law_fault := _
      F__law_fault := F10
      m__law_fault := PySem.W.mg_of X G a10
      b__law_fault := b10
      a__law_put := f11
      d__law_put := _
      F__law_put := F11
      m__law_put := PySem.W.mg_of X G a11
      b__law_put := b11
      a__law_spoiled := f12
      d__law_spoiled := _
      F__law_spoiled := F12
      m__law_spoiled := PySem.W.mg_of X G a12
      b__law_spoiled := b12
      a_law := fa
      d_law := _
      F_law := F13
      m_law := PySem.W.mg_of X G a13
      b_law := b13
      x_BadLoops := exc_mk X G Fi_BadLoops bi_BadLoops aC_BadLoops xL_BadLoops sa_BadLoops ga_BadLoops gg_BadLoops nb_BadLoops ai_BadLoops ti_BadLoops kC_BadLoops eC_BadLoops tC_BadLoops hC_BadLoops iC_BadLoops sC_BadLoops
      z_ValueError := PySem.W.mg_none_of X G z_ValueError
      v_ValueError := v_ValueError
      z_isinstance := PySem.W.mg_none_of X G z_isinstance
      z_int := PySem.W.mg_none_of X G z_int
      z_bool := PySem.W.mg_none_of X G z_bool
      z_enumerate := PySem.W.mg_none_of X G z_enumerate
      z_tuple := PySem.W.mg_none_of X G z_tuple
      z_len := PySem.W.mg_none_of X G z_len
      z_list := PySem.W.mg_none_of X G z_list
      z_range := PySem.W.mg_none_of X G z_range
      z_repr := PySem.W.mg_none_of X G z_repr
      z_max := PySem.W.mg_none_of X G z_max
      z_min := PySem.W.mg_none_of X G z_min
      t_MOST_LOOPS := tk_MOST_LOOPS
      c_MOST_LOOPS := PySem.W.mg_of X G g_MOST_LOOPS
      t_MOST_THINGS := tk_MOST_THINGS
      c_MOST_THINGS := PySem.W.mg_of X G g_MOST_THINGS }
  exact ok_law T
end My
open PySem PySem.W PyProof.Rows
set_option maxRecDepth 100000 in
set_option maxHeartbeats 0 in
theorem PySem.Challenge.cw_pedalrounds_k02_whole_faults_of_loops_holds : PySem.Challenge.rw_pedalrounds_k02_whole_faults_of_loops.Holds := by
  w_on; o_law; k_head; (case hw => w_witness2)
  k_fill
  refine L2.my_walk (l := PySem.Challenge.rw_pedalrounds_k02_whole_faults_of_loops) (k := 5) (sp := My.sp_law) rfl rfl ⟨rfl, by decide, by decide⟩ (fun w h Y => PySem.W.kIn_of Y) ?F (fun K H a ns hl hS => ⟨a, ns, rfl, hS, hl, fun _ => rfl⟩)
  case F =>
    intro w mg fa h KX G hmg
    refine' My.all_mk KX G hmg ?a0 ?l0 ?c0 ?k0 ?a1 ?l1 ?c1 ?k1 ?a2 ?l2 ?c2 ?k2 ?a3 ?l3 ?c3 ?k3 ?a4 ?l4 ?c4 ?k4 ?a5 ?l5 ?c5 ?k5 ?a6 ?l6 ?c6 ?k6 ?a7 ?l7 ?c7 ?k7 ?a8 ?l8 ?c8 ?k8 ?a9 ?l9 ?c9 ?k9 ?a10 ?l10 ?c10 ?k10 ?a11 ?l11 ?c11 ?k11 ?a12 ?l12 ?c12 ?k12 ?a13 ?l13 ?c13 ?k13 ?aC_BadLoops ?xL_BadLoops ?sa_BadLoops ?ga_BadLoops ?gg_BadLoops ?nb_BadLoops ?ai_BadLoops ?ti_BadLoops ?kC_BadLoops ?eC_BadLoops ?tC_BadLoops ?hC_BadLoops ?iC_BadLoops ?sC_BadLoops ?ki_BadLoops ?li_BadLoops ?ci_BadLoops ?z_ValueError ?v_ValueError ?z_isinstance ?z_int ?z_bool ?z_enumerate ?z_tuple ?z_len ?z_list ?z_range ?z_repr ?z_max ?z_min ?g_MOST_LOOPS ?g_MOST_THINGS
    (case a0 => k_is)
    (case l0 => k_is)
    (case c0 => k_is)
    (case k0 => k_is)
    (case a1 => k_is)
    (case l1 => k_is)
    (case c1 => k_is)
    (case k1 => k_is)
    (case a2 => k_is)
    (case l2 => k_is)
    (case c2 => k_is)
    (case k2 => k_is)
    (case a3 => k_is)
    (case l3 => k_is)
    (case c3 => k_is)
    (case k3 => k_is)
    (case a4 => k_is)
    (case l4 => k_is)
    (case c4 => k_is)
    (case k4 => k_is)
    (case a5 => k_is)
    (case l5 => k_is)
    (case c5 => k_is)
    (case k5 => k_is)
    (case a6 => k_is)
    (case l6 => k_is)
    (case c6 => k_is)
    (case k6 => k_is)
    (case a7 => k_is)
    (case l7 => k_is)
    (case c7 => k_is)
    (case k7 => k_is)
    (case a8 => k_is)
    (case l8 => k_is)
    (case c8 => k_is)
    (case k8 => k_is)
    (case a9 => k_is)
    (case l9 => k_is)
    (case c9 => k_is)
    (case k9 => k_is)
    (case a10 => k_is)
    (case l10 => k_is)
    (case c10 => k_is)
    (case k10 => k_is)
    (case a11 => k_is)
    (case l11 => k_is)
    (case c11 => k_is)
    (case k11 => k_is)
    (case a12 => k_is)
    (case l12 => k_is)
    (case c12 => k_is)
    (case k12 => k_is)
    (case a13 => k_is)
    (case l13 => k_is)
    (case c13 => k_is)
    (case k13 => k_is)
    (case aC_BadLoops => k_is)
    (case xL_BadLoops => k_is)
    (case sa_BadLoops => k_is)
    (case ga_BadLoops => k_is)
    (case gg_BadLoops => k_is)
    (case nb_BadLoops => k_is)
    (case ai_BadLoops => k_is)
    (case ti_BadLoops => k_is)
    (case kC_BadLoops => k_is)
    (case eC_BadLoops => k_is)
    (case tC_BadLoops => k_is)
    (case hC_BadLoops => k_is)
    (case iC_BadLoops => k_is)
    (case sC_BadLoops => first | rfl | k_is)
    (case ki_BadLoops => k_is)
    (case li_BadLoops => k_is)
    (case ci_BadLoops => k_is)
    (case z_ValueError => k_is)
    (case v_ValueError => k_is)
    (case z_isinstance => k_is)
    (case z_int => k_is)
    (case z_bool => k_is)
    (case z_enumerate => k_is)
    (case z_tuple => k_is)
    (case z_len => k_is)
    (case z_list => k_is)
    (case z_range => k_is)
    (case z_repr => k_is)
    (case z_max => k_is)
    (case z_min => k_is)
    (case g_MOST_LOOPS => k_is)
    (case g_MOST_THINGS => k_is)

