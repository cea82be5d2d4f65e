import PyProof.Rows.All
import Wide.All
import OpenK.AllK
import Wide.FinOn
import HandS.ForMost
import HandS.Walk
import HandS.WideBits
import HandS.IsInst
import HandS.RaiseMore
import KE.GoesEnum
import HandS.TupAny
import HandS.Evl
import HandS.TupMul
import HandS.ExcInit
import HandS.ExcField
import HandS.ExcOwn
import HandS.TryOnly
import HandS.ForExc
import HandS.Strs
import HandS.SetBool
import HandS.TupLen
import HandS.Zip
import HandS.Deep
import PySem.Challenge.RW_pedalrounds_k23_whole_meetings_judged
set_option Elab.async false
set_option linter.all false
set_option maxRecDepth 100000
set_option maxHeartbeats 4000000
/-! Rules of my own for the laws of Pedalrounds: repr of data, enumerate of a tuple, great powers. -/
namespace PySem
section
open PySem.Spec PyProof.Rows Builtin
/-- enumerate(t), t a tuple: the two new cells -/
abbrev myIt (t : Addr) : Obj := { cls := .type "tuple_iterator", data := .fields #[.ref t, .int 0 0] }
abbrev myEn (i : Addr) : Obj := { cls := .type "enumerate", data := .fields #[.none, .bool false, .ref i, rawInt 0, .none, .none] }
theorem my_enum_meets (t : Addr) (items : Array Value) :
    Meets (Builtin.«enumerate.__new__» ⟨[.type "enumerate", .ref t], []⟩)
      (fun _ R s => s.heap.IsTuple t items ∧ R (.ok (.ret (.ref (s.heap.push (myIt t)).objs.size))) { s with heap := (s.heap.push (myIt t)).push (myEn s.heap.objs.size) }) :=
  .of_wp fun prog w A R s hh => by
    obtain ⟨hp, g, dd, tk, os⟩ := s
    obtain ⟨hT, hR⟩ := hh
    have hsub := sub_enumerate
    have go : ∀ {A' : Around} {E Q : Value → Shared → Prop},
        Q (.ref hp.objs.size) ⟨hp.push (myIt t), g, dd, tk, os⟩ → wpAny (model prog w) A' (pyIter (.ref t)) Q E ⟨hp, g, dd, tk, os⟩ :=
      fun q => (begins_tuple t items).iter prog w _ _ ⟨hp, g, dd, tk, os⟩ _ hT q
    wp_walk using go
    refine wpAny_stack_any fun st => wpAny_pure ?_
    split
    · rename_i cc _ _ _ _ _
      cases (cc == Value.type "enumerate") <;> (wp_walk using go; exact ⟨_, rfl, hR⟩)
    · wp_walk using go
      exact ⟨_, rfl, hR⟩
variable {prog : Program} {w : World} {A : Around} {E : Value → Shared → Prop} {s : Shared}
theorem my_call_enum {t : Addr} {items : Array Value} {Q : Value → Shared → Prop} (hT : s.heap.IsTuple t items)
    (k : ∀ h', IsEnum h' (s.heap.objs.size + 1) s.heap.objs.size 0 .none → h'.IsTupleIter s.heap.objs.size t 0 →
      (∀ b o, s.heap.get? b = some o → h'.get? b = some o) → Q (.ref (s.heap.objs.size + 1)) { s with heap := h' }) :
    wpAny (model prog w) A (call (.type "enumerate") [.ref t]) Q E s := by
  refine callType_new F.called_enumerate (by decide) (F.typeCall_enumerate_1 _) (F.newCall_enumerate_1 _)
    (fun obj => F.args_object_init_2 obj _) F.entry_enumerate_new (my_enum_meets t items) ⟨hT, ?_⟩
  have hz : (s.heap.push (myIt t)).objs.size = s.heap.objs.size + 1 := Heap.size_push ..
  show _ ∧ _
  rw [hz]
  have he : IsEnum ((s.heap.push (myIt t)).push (myEn s.heap.objs.size)) (s.heap.objs.size + 1) s.heap.objs.size 0 .none := by
    have q := Heap.get?_push_size (s.heap.push (myIt t)) (o := myEn s.heap.objs.size) rfl
    rw [hz] at q
    exact q
  have hi : ((s.heap.push (myIt t)).push (myEn s.heap.objs.size)).IsTupleIter s.heap.objs.size t 0 := by
    refine ⟨myIt t, ?_, rfl, rfl⟩
    exact Heap.get?_push_of_some _ (Heap.get?_push_size _ rfl)
  refine ⟨⟨_, he, rfl⟩, k _ he hi ?_⟩
  intro b o x
  exact Heap.get?_push_of_some _ (Heap.get?_push_of_some _ x)
end
end PySem
namespace L2
open PySem PySem.Spec PyProof.Rows
/-! ### repr of data -/
theorem my_repr {X : Cx} (hu : X.A.units + 64 < cLine) (hg : X.A.guards = some []) :
    CallR X (.builtin "repr") (fun xs H Q => ∃ x d, xs = [x] ∧ Dp X.K H x d ∧ (isDisplay d = true ∧ d.showable = true ∧ d.hasDict = false ∧ d.depth ≤ 8 ∧ d.shown.length ≤ sizeLine) ∧ Q (.str d.shown) H) := by
  intro pins s σ H xs us Q I r h
  obtain ⟨x, d, rfl, hd, ⟨h1, h2, h3, h4, h5⟩, q⟩ := h
  obtain ⟨u, rfl, ru⟩ := vals1 r
  obtain ⟨as, rd⟩ := Dp.reads I d x u hd ru
  obtain ⟨a, rfl⟩ := isRef_of_reads rd h1
  refine repr_of_reads' rd h2 (PyData.noDict_hsm h3) hg (by omega) (fun _ _ e => e) (fun h' v tk hk => ?_) h5
  exact ⟨.str _, H, I.kept hk, ⟨_, rfl⟩, q⟩
/-! ### great powers -/
def CPowX (i j : Int) : Prop := 0 ≤ j ∧ (Builtin.Int.intBits i : Int) * j ≤ 2 ^ 27
theorem op_powX {X : Cx} : OpR X (binaryOp .Pow) (rI CPowX fun i j => .int (i ^ j.toNat)) :=
  opI fun _ _ _ _ _ _ _ hc q => pow_int hc.1 hc.2 q
/-! ### the built-in names -/
theorem bt_range : bootBuiltins "range" = some (.type "range") := by decide +kernel
theorem bt_int : bootBuiltins "int" = some (.type "int") := by decide +kernel
theorem bt_list : bootBuiltins "list" = some (.type "list") := by decide +kernel
theorem bt_tuple : bootBuiltins "tuple" = some (.type "tuple") := by decide +kernel
theorem bt_bool : bootBuiltins "bool" = some (.type "bool") := by decide +kernel
theorem bt_enumerate : bootBuiltins "enumerate" = some (.type "enumerate") := by decide +kernel
theorem bt_zip : bootBuiltins "zip" = some (.type "zip") := by decide +kernel
theorem bt_str : bootBuiltins "str" = some (.type "str") := by decide +kernel
theorem bt_dict : bootBuiltins "dict" = some (.type "dict") := by decide +kernel
theorem bt_set : bootBuiltins "set" = some (.type "set") := by decide +kernel
theorem bt_len : bootBuiltins "len" = some (.builtin "len") := by decide +kernel
theorem bt_min : bootBuiltins "min" = some (.builtin "min") := by decide +kernel
theorem bt_max : bootBuiltins "max" = some (.builtin "max") := by decide +kernel
theorem bt_repr : bootBuiltins "repr" = some (.builtin "repr") := by decide +kernel
theorem bt_sum : bootBuiltins "sum" = some (.builtin "sum") := by decide +kernel
theorem bt_isinstance : bootBuiltins "isinstance" = some (.builtin "isinstance") := by decide +kernel
theorem bt_any : bootBuiltins "any" = some (.builtin "any") := by decide +kernel
theorem bt_all : bootBuiltins "all" = some (.builtin "all") := by decide +kernel
theorem bt_sorted : bootBuiltins "sorted" = some (.builtin "sorted") := by decide +kernel
theorem bt_abs : bootBuiltins "abs" = some (.builtin "abs") := by decide +kernel
end L2

namespace L2
open PySem PySem.Spec PyProof.Rows
/-! ### enumerate of a tuple, walked -/
def ItE (K : PySem.W.Frag) (a : Addr) : It where
  go := fun i H => ∃ (xs : List V) (x : V), SqT K H a xs ∧ xs[i]? = some x
  yld := fun i H v H' => ∃ T x, v = .ref T ∧ H T = none ∧ H' = upd H T (.tup [.int (i : Nat), x]) ∧
    ∀ xs, SqT K H a xs → xs[i]? = some x
  stop := fun i H => ∃ xs : List V, SqT K H a xs ∧ xs.length = i
def tnE (a e it : Addr) (i : Nat) (h : Heap) : Prop :=
  (∃ old, IsEnum h e it ((i : Nat) : Int) old) ∧ h.IsTupleIter it a i ∧ e ≠ it ∧ a ≠ it ∧ a ≠ e
theorem turn_enumT {P : Program} {w : World} {K : PySem.W.Frag} {elts : List Expr} {kk : Nat} {tpos : Pos} (a e it : Addr) :
    Turn P w K (.Tuple elts kk tpos) (ItE K a) [e, it] e (tnE a e it) where
  mem := by simp
  obj := fun i h st b hb => by
    obtain ⟨⟨old, he⟩, ⟨o, ho, _, hd⟩, _⟩ := st
    rcases (by simpa using hb : b = e ∨ b = it) with z | z <;> subst z
    · exact ⟨_, he, fun v q => nomatch q⟩
    · refine ⟨o, ho, fun v q => ?_⟩
      rw [hd] at q
      cases q
  keep := fun i h h' st k => by
    obtain ⟨⟨old, he⟩, hi, r⟩ := st
    exact ⟨⟨old, k e (by simp) _ he⟩, hi.at (fun o q => k it (by simp) o q), r⟩
  item := by
    intro X hP hw hK hc i pins s σ H E I hf st hg
    subst hP hw hK
    obtain ⟨⟨old, he⟩, hit, hne, hai, hae⟩ := st
    obtain ⟨xs, x, hq, hx⟩ := hg
    obtain ⟨its, rv, p, hz⟩ := I.tuple hq
    obtain ⟨u, hu, ru⟩ := rv.get hx
    have hTu : s.heap.IsTuple a its.toArray := p
    have hel : e < s.heap.objs.size := Heap.lt_size he
    have hil : it < s.heap.objs.size := by
      obtain ⟨_, q, _⟩ := hit
      exact Heap.lt_size q
    have hlt : i < its.toArray.size := by
      have := (List.getElem?_eq_some_iff.mp hu).1
      simpa using this
    have D := Draws.tuple (prog := X.prog) (w := X.w) (A := X.A.in1) (I.ok.hd hc) it a hai its.toArray
    refine wpAny_pyNext_enum_itemD D he ⟨hit, hTu⟩ hlt hne (by simp; exact ⟨hne, Ne.symm hae⟩) fun y h' tk hy ho st' hT hsz hk => ?_
    have ey : y = u := by
      have q : its.toArray[i]? = some u := by simpa using hu
      exact Option.some.inj (hy.symm.trans q)
    subst ey
    refine ⟨_, rfl, wpAny_letOwnedTupleGo_enum (s := { s with heap := h', toks := tk + 1 }) ho fun g he' sb => ?_⟩
    have hT2 : g.get? s.heap.objs.size = some { cls := .type "tuple", data := .seq #[.int i tk, y] } :=
      (sb.2 _ (Nat.ne_of_gt hel)).trans hT
    have new : ObjOk X.prog X.w (upd H s.heap.objs.size (.tup [.int (i : Nat), x])) g s.heap.objs.size (.tup [.int (i : Nat), x]) :=
      ⟨by show 2 ≤ sizeLine; decide, [.int i tk, y], .cons ⟨_, rfl⟩ (.cons ru .nil), ⟨_, hT2, rfl, _, rfl⟩⟩
    have kk : ∀ b ob, b ∉ [e, it] → s.heap.get? b = some ob → g.get? b = some ob := fun b ob hb q => by
      have b1 : b ≠ e := fun z => hb (by simp [z])
      have b2 : b ≠ it := fun z => hb (by simp [z])
      exact (sb.2 b b1).trans (hk b ob b1 b2 q)
    have I1 := I.turnedNew (t' := tk + 1) kk hf (Nat.le_refl _) new
    refine ⟨.ref s.heap.objs.size, _, I1, rfl, ⟨_, x, rfl, I.hok.fresh (Nat.le_refl _), rfl, fun ys hy => ?_⟩, ?_, fun b hb => ?_⟩
    · rw [I.tuple_inj hy hq]
      exact hx
    · refine ⟨⟨y, ?_⟩, st'.1.at (fun o q => (sb.2 it (Ne.symm hne)).trans q), hne, hai, hae⟩
      have e1 : ((i + 1 : Nat) : Int) = (i : Int) + 1 := by omega
      rw [e1]
      exact he'
    · have hb' : b < s.heap.objs.size := by
        rcases (by simpa using hb : b = e ∨ b = it) with z | z <;> (rw [z]; assumption)
      rw [upd_ne (Nat.ne_of_lt hb')]
      exact (hf b hb).1
  done := by
    intro X hP hw hK hc i pins s σ H E I hf st hg
    subst hP hw hK
    obtain ⟨⟨old, he⟩, hit, hne, hai, hae⟩ := st
    obtain ⟨xs, hq, hx⟩ := hg
    obtain ⟨its, rv, p, hz⟩ := I.tuple hq
    obtain ⟨f0, f1, f2, f3, f4, f5⟩ := hf it (by simp)
    have hTu : s.heap.IsTuple a its.toArray := p
    have hn : i = its.toArray.size := by
      have hl := rv.length
      simp
      omega
    have D := Draws.tuple (prog := X.prog) (w := X.w) (A := X.A.in1) (I.ok.hd hc) it a hai its.toArray
    refine wpAny_pyNext_enum_endD D he ⟨hn ▸ hit, hTu⟩ fun h' eb => ?_
    exact ⟨rfl, I.turned (t' := s.toks) (fun b o hb q => eb b o hb q) f0 f1 f3 f4 f5⟩
  self := fun A i s Q E st h => by
    obtain ⟨⟨old, he⟩, _⟩ := st
    exact wpAny_pyIter_enum he h
/-- enumerate(t) is walked -/
def iEnumT (K : PySem.W.Frag) (ta : TA) : TI := fun σ H R => ta σ H fun vs H1 => ∃ a xs, vs = [.ref a] ∧ SqT K H1 a xs ∧ R (ItE K a) H1
theorem pi_enumT {X : Cx} {e : Expr} {ta : TA} {p pos tpos : Pos} {elts : List Expr} {kk : Nat} (hg : Gl X "enumerate")
    (hm : X.mg "enumerate" = none) (ha : PA X [e] ta) (hs : starEach [e] X.env = [(false, eval e X.env)] := by rfl) :
    PI X (.Tuple elts kk tpos) (.Call (.Name "enumerate" p) [e] [] pos) (iEnumT X.K ta) := by
  refine ⟨fun pins s σ H R I h => ?_⟩
  have body : ∀ us s1, AP X pins σ (fun vs H1 => ∃ a xs, vs = [.ref a] ∧ SqT X.K H1 a xs ∧ R (ItE X.K a) H1) us s1 →
      wpAny (model X.prog X.w) X.A (call (.type "enumerate") us) (fun v s2 => wpAny (model X.prog X.w) X.A (pyIter v) (PIE X pins σ (.Tuple elts kk tpos) R) X.xe s2) X.xe s1 := by
    rintro us s1 ⟨vs, H1, I1, r1, a, xs, rfl, hq, q⟩
    obtain ⟨u, rfl, ru⟩ := vals1 r1
    cases ru
    obtain ⟨its, rv, p', hz⟩ := I1.tuple hq
    have hTu : s1.heap.IsTuple a its.toArray := p'
    obtain ⟨oa, hoa, _⟩ := id hTu
    have hal : a < s1.heap.objs.size := Heap.lt_size hoa
    refine my_call_enum hTu fun h' he hit hk => wpAny_pyIter_enum he ?_
    have I2 : Inv X pins σ H1 { s1 with heap := h' } := I1.kept (t' := s1.toks) hk
    refine ⟨s1.heap.objs.size + 1, [s1.heap.objs.size + 1, s1.heap.objs.size], _, _, H1, rfl, I2, turn_enumT a (s1.heap.objs.size + 1) s1.heap.objs.size, ?_, fun b hb => ?_, q⟩
    · exact ⟨⟨.none, he⟩, hit, Nat.succ_ne_self _, Nat.ne_of_lt hal, Nat.ne_of_lt (Nat.lt_succ_of_lt hal)⟩
    · have hle : s1.heap.objs.size ≤ b := by
        rcases (by simpa using hb : b = s1.heap.objs.size + 1 ∨ b = s1.heap.objs.size) with z | z <;> rw [z]
        · exact Nat.le_add_right _ _
        · exact Nat.le_refl _
      exact I1.fpOk hle (I1.hok.fresh hle)
  exact Call_ (ld_blt I hg hm boot_enumerate (PyProof.Rows.callWith_type1 (thn (ha.run pos pins s σ H _ I h) fun us s1 q => body us s1 q) hs rfl))
theorem walk_enumT {K : PySem.W.Frag} {a : Addr} {xs : List V} :
    Walk (ItE K a) xs.length (fun H => SqT K H a xs) (YPair (fun i => some (.int (i : Nat))) (fun i => xs[i]?)) where
  goes := fun i _ hi q => ⟨xs, xs[i], q, by simp [hi]⟩
  stops := fun _ q => ⟨xs, q, rfl⟩
  yields := by
    rintro i H v H' _ q ⟨T, x, h1, h2, h3, h4⟩
    exact ⟨T, .int (i : Nat), x, h1, h2, h3, rfl, h4 xs q⟩
end L2

namespace L2
open PySem PySem.Spec PyProof.Rows
/-! ### data that stand in a heap, and what keeps them -/
/-- tuples stay -/
def TK (K : PySem.W.Frag) (H H' : Hp) : Prop := ∀ a xs, SqT K H a xs → SqT K H' a xs
theorem TK.refl {K : PySem.W.Frag} {H : Hp} : TK K H H := fun _ _ h => h
theorem TK.trans {K : PySem.W.Frag} {H H1 H2 : Hp} (a : TK K H H1) (b : TK K H1 H2) : TK K H H2 := fun c xs h => b c xs (a c xs h)
theorem Same.tk {K : PySem.W.Frag} {H H' : Hp} (e : Same H H') : TK K H H' := fun a xs h => by
  rcases h with (h | ⟨o, h⟩) | h
  · exact .inl (.inl (e _ _ h))
  · exact .inl (.inr ⟨o, e _ _ h⟩)
  · exact .inr h
theorem same_upd {H : Hp} {p : Addr} (h : H p = none) (o : HO) : Same H (upd H p o) := fun b u q => by
  rw [upd_ne (ne_of_none q h)]
  exact q
theorem same_step {H H1 : Hp} {p : Addr} (e : Same H H1) (h : H1 p = none) (o : HO) : Same H (upd H1 p o) := e.trans (same_upd h o)
/-- only tuples, no lists -/
def tupOnly : PyData → Bool
  | .list _ => false
  | .dict _ => false
  | .tuple xs => go xs
  | _ => true
where go : List PyData → Bool
  | [] => true
  | x :: r => tupOnly x && go r
mutual
theorem Dp.keepT {K : PySem.W.Frag} {H H' : Hp} (k : TK K H H') : ∀ (d : PyData) (v : V), tupOnly d = true → Dp K H v d → Dp K H' v d
  | .none, _, _, h => by cases h; exact .non
  | .bool b, _, _, h => by cases h; exact .bl b
  | .int i, _, _, h => by cases h; exact .int i
  | .str x, _, _, h => by cases h; exact .str x
  | .list _, _, t, _ => by cases t
  | .dict _, _, t, _ => by cases t
  | .tuple ds, _, t, h => by
    cases h with
    | tup hs ha => exact .tup (k _ _ hs) (DpAll.keepT k ds _ t ha)
theorem DpAll.keepT {K : PySem.W.Frag} {H H' : Hp} (k : TK K H H') : ∀ (ds : List PyData) (vs : List V), tupOnly.go ds = true → DpAll K H vs ds → DpAll K H' vs ds
  | [], _, _, h => by cases h; exact .nil
  | d :: r, _, t, h => by
    cases h with
    | cons h1 h2 =>
      have t' := Bool.and_eq_true_iff.mp t
      exact .cons (Dp.keepT k d _ t'.1 h1) (DpAll.keepT k r _ t'.2 h2)
end
mutual
theorem Dp.same {K : PySem.W.Frag} {H H' : Hp} (e : Same H H') : ∀ (d : PyData) (v : V), Dp K H v d → Dp K H' v d
  | .none, _, h => by cases h; exact .non
  | .bool b, _, h => by cases h; exact .bl b
  | .int i, _, h => by cases h; exact .int i
  | .str x, _, h => by cases h; exact .str x
  | .dict _, _, h => by cases h
  | .list ds, _, h => by
    cases h with
    | lst hs ha => exact .lst (e.seq hs) (DpAll.same e ds _ ha)
  | .tuple ds, _, h => by
    cases h with
    | tup hs ha => exact .tup (Same.tk e _ _ hs) (DpAll.same e ds _ ha)
theorem DpAll.same {K : PySem.W.Frag} {H H' : Hp} (e : Same H H') : ∀ (ds : List PyData) (vs : List V), DpAll K H vs ds → DpAll K H' vs ds
  | [], _, h => by cases h; exact .nil
  | d :: r, _, h => by
    cases h with
    | cons h1 h2 => exact .cons (Dp.same e d _ h1) (DpAll.same e r _ h2)
end
theorem DpAll.len {K : PySem.W.Frag} {H : Hp} : ∀ {vs : List V} {ds : List PyData}, DpAll K H vs ds → vs.length = ds.length
  | _, _, .nil => rfl
  | _, _, .cons _ h => by simp [DpAll.len h]
theorem DpAll.get {K : PySem.W.Frag} {H : Hp} : ∀ {vs : List V} {ds : List PyData} {i : Nat} {v : V}, DpAll K H vs ds → vs[i]? = some v → ∃ d, ds[i]? = some d ∧ Dp K H v d
  | _, _, _, _, .nil, h => by cases h
  | _, _, 0, _, .cons h1 _, h => by
    cases h
    exact ⟨_, rfl, h1⟩
  | _, _, i + 1, _, .cons _ h2, h => DpAll.get (i := i) h2 h
theorem DpAll.app {K : PySem.W.Frag} {H : Hp} : ∀ {vs us : List V} {ds es : List PyData}, DpAll K H vs ds → DpAll K H us es → DpAll K H (vs ++ us) (ds ++ es)
  | _, _, _, _, .nil, h => h
  | _, _, _, _, .cons h1 h2, h => .cons h1 (DpAll.app h2 h)
theorem DpAll.ints {K : PySem.W.Frag} {H : Hp} : ∀ (ns : List Int), DpAll K H (ns.map V.int) (ns.map PyData.int)
  | [] => .nil
  | n :: r => .cons (.int n) (DpAll.ints r)
theorem DpAll.ints_inv {K : PySem.W.Frag} {H : Hp} : ∀ {ns : List Int} {vs : List V}, DpAll K H vs (ns.map PyData.int) → vs = ns.map V.int
  | [], _, h => by cases h; rfl
  | n :: r, _, h => by
    cases h with
    | cons h1 h2 =>
      cases h1
      rw [DpAll.ints_inv h2]
      rfl
/-- a tuple of ints -/
abbrev dInts (ns : List Int) : PyData := .tuple (ns.map PyData.int)
/-- loops -/
abbrev dLoops (ls : List (List Int)) : PyData := .tuple (ls.map dInts)
theorem Dp.ints {K : PySem.W.Frag} {H : Hp} {v : V} {ns : List Int} (h : Dp K H v (dInts ns)) : ∃ a, v = .ref a ∧ SqT K H a (ns.map V.int) := by
  cases h with
  | tup hs ha =>
    rw [DpAll.ints_inv ha] at hs
    exact ⟨_, rfl, hs⟩
theorem Dp.ofInts {K : PySem.W.Frag} {H : Hp} {a : Addr} {ns : List Int} (h : SqT K H a (ns.map V.int)) : Dp K H (.ref a) (dInts ns) := .tup h (DpAll.ints ns)
theorem Dp.tuple {K : PySem.W.Frag} {H : Hp} {v : V} {ds : List PyData} (h : Dp K H v (.tuple ds)) : ∃ a xs, v = .ref a ∧ SqT K H a xs ∧ DpAll K H xs ds := by
  cases h with
  | tup hs ha => exact ⟨_, _, rfl, hs, ha⟩
theorem to_ints : ∀ ns : List Int, tupOnly.go (ns.map PyData.int) = true
  | [] => rfl
  | n :: r => by
    show (true && tupOnly.go (r.map PyData.int)) = true
    rw [to_ints r]
    rfl
theorem to_loops : ∀ ls : List (List Int), tupOnly.go (ls.map dInts) = true
  | [] => rfl
  | l :: r => by
    show (tupOnly.go (l.map PyData.int) && tupOnly.go (r.map dInts)) = true
    rw [to_loops r, to_ints l]
    rfl
theorem SqT.ty {K : PySem.W.Frag} {H : Hp} {a : Addr} {xs : List V} (h : SqT K H a xs) : TyX K H (.ref a) (.type "tuple") := by
  rcases h with (h | ⟨o, h⟩) | ⟨o, its, n, h1, h2, _⟩
  · exact .base (.tup h)
  · exact .fTuple h
  · exact .kTuple h1 h2
/-! ### the rules with the written part named -/
section
variable {X : Cx} {K : PySem.W.Frag}
theorem k_len (e : X.K = K := by rfl) : CallR X (.builtin "len") (Evl.rLenS K) := by
  subst e
  exact call_len_seq
def rTupS (K : PySem.W.Frag) : List V → Hp → VK → Prop := fun xs H Q => ∃ p ys, xs = [.ref p] ∧ ((SqL K H p ys ∧ ∀ l, H l = none → Q (.ref l) (upd H l (.tup ys))) ∨ (SqT K H p ys ∧ Q (.ref p) H))
theorem k_tuple (e : X.K = K := by rfl) : CallR X (.type "tuple") (rTupS K) := by
  subst e
  exact call_tuple_of
theorem k_list (e : X.K = K := by rfl) : CallR X (.type "list") (Evl.rListS K) := by
  subst e
  exact call_list_of
theorem k_sum (hc : X.calm = true) (e : X.K = K := by rfl) : CallR X (.builtin "sum") (rSum K) := by
  subst e
  exact cr_sum hc
theorem k_isi (e : X.K = K := by rfl) : CallR X (.builtin "isinstance") (rIsi K) := by
  subst e
  exact call_isi
theorem k_slL (e : X.K = K := by rfl) : SlR X (rSlL K) := by
  subst e
  exact sl_list
theorem k_slT (e : X.K = K := by rfl) : SlR X (rSlA K) := by
  subst e
  exact sl_tupA
theorem k_ixL (e : X.K = K := by rfl) : IxR X (rIxL K) := by
  subst e
  exact ix_list
theorem k_ixT (e : X.K = K := by rfl) : IxR X (rIxT K) := by
  subst e
  exact ix_tup
theorem k_eqD (hu : X.A.units + 64 < cLine) (e : X.K = K := by rfl) : OpR X (compareOp .Eq) (rEqD K) := by
  subst e
  exact op_eqD hu
theorem k_neD (hu : X.A.units + 64 < cLine) (e : X.K = K := by rfl) : OpR X (compareOp .NotEq) (rNeD K) := by
  subst e
  exact op_neD hu
theorem k_catT (e : X.K = K := by rfl) : OpR X (binaryOp .Add) (rCatA K) := by
  subst e
  exact op_catA
def rReprD (K : PySem.W.Frag) : List V → Hp → VK → Prop := fun xs H Q => ∃ x d, xs = [x] ∧ Dp K H x d ∧ (isDisplay d = true ∧ d.showable = true ∧ d.hasDict = false ∧ d.depth ≤ 8 ∧ d.shown.length ≤ sizeLine) ∧ Q (.str d.shown) H
theorem k_repr (hu : X.A.units + 64 < cLine) (hg : X.A.guards = some []) (e : X.K = K := by rfl) : CallR X (.builtin "repr") (rReprD K) := by
  subst e
  exact my_repr hu hg
theorem k_piL {tg l : Expr} {tl : TE} (hl : PE X l tl) (e : X.K = K := by rfl) : PI X tg l (iList K tl) := by
  subst e
  exact pi_list hl
theorem k_piT {tg l : Expr} {tl : TE} (hl : PE X l tl) (e : X.K = K := by rfl) : PI X tg l (iTup K tl) := by
  subst e
  exact pi_tup hl
theorem k_piET {e : Expr} {ta : TA} {p pos tpos : Pos} {elts : List Expr} {kk : Nat} (hg : Gl X "enumerate")
    (hm : X.mg "enumerate" = none) (ha : PA X [e] ta) (hs : starEach [e] X.env = [(false, eval e X.env)] := by rfl) (ek : X.K = K := by rfl) :
    PI X (.Tuple elts kk tpos) (.Call (.Name "enumerate" p) [e] [] pos) (iEnumT K ta) := by
  subst ek
  exact pi_enumT hg hm ha hs
theorem k_piEL {e : Expr} {ta : TA} {p pos tpos : Pos} {elts : List Expr} {kk : Nat} (hg : Gl X "enumerate")
    (hm : X.mg "enumerate" = none) (ha : PA X [e] ta) (hs : starEach [e] X.env = [(false, eval e X.env)] := by rfl) (ek : X.K = K := by rfl) :
    PI X (.Tuple elts kk tpos) (.Call (.Name "enumerate" p) [e] [] pos) (iEnum K ta) := by
  subst ek
  exact pi_enum hg hm ha hs
end
end L2
namespace My
open PySem PySem.Spec PyProof.Rows L2
/-! ### the state of the draws -/

abbrev kCells : Key := .inr "cells"
abbrev kLeft : Key := .inr "left"
abbrev kAt : Key := .inr "at"
def mKvs (c l : Addr) (n : Nat) : List (Key × V) := [(kCells, .ref c), (kLeft, .ref l), (kAt, .int (n : Int))]
structure MAt (H : Hp) (m c l : Addr) (n : Nat) : Prop where
  dk : H m = some (.dK (mKvs c l n))
  cs : ∃ cs : List Int, H c = some (.lst (cs.map V.int)) ∧ cs.length ≤ 63
  ls : ∃ ls : List Int, H l = some (.lst (ls.map V.int)) ∧ ls.length ≤ 63 ∧ ∀ z ∈ ls, 0 ≤ z
  cl : c ≠ l
/-- b is a part of the state: the list of the cells, or that of what is left -/
def Lf (H : Hp) (m b : Addr) : Prop := ∃ kvs k, H m = some (.dK kvs) ∧ valV kvs k = some (.ref b)
/-- the state of the draws stands at m, n mixed numbers drawn -/
def MS (H : Hp) (m : Addr) (n : Nat) : Prop := ∃ c l, MAt H m c l n
theorem e12 : ¬ (Str.ofString "cells" = Str.ofString "left") := by decide +kernel
theorem e13 : ¬ (Str.ofString "cells" = Str.ofString "at") := by decide +kernel
theorem e23 : ¬ (Str.ofString "left" = Str.ofString "at") := by decide +kernel
theorem e21 : ¬ (Str.ofString "left" = Str.ofString "cells") := by decide +kernel
theorem e31 : ¬ (Str.ofString "at" = Str.ofString "cells") := by decide +kernel
theorem e32 : ¬ (Str.ofString "at" = Str.ofString "left") := by decide +kernel
theorem k12 : ¬ kCells = kLeft := by decide +kernel
theorem k13 : ¬ kCells = kAt := by decide +kernel
theorem k23 : ¬ kLeft = kAt := by decide +kernel
theorem k21 : ¬ kLeft = kCells := by decide +kernel
theorem k31 : ¬ kAt = kCells := by decide +kernel
theorem k32 : ¬ kAt = kLeft := by decide +kernel
theorem mKvs_cells (c l : Addr) (n : Nat) : valV (mKvs c l n) kCells = some (.ref c) := by
  unfold mKvs
  rw [valV_pos rfl]
theorem mKvs_left (c l : Addr) (n : Nat) : valV (mKvs c l n) kLeft = some (.ref l) := by
  unfold mKvs
  rw [valV_neg k12, valV_pos rfl]
theorem mKvs_at (c l : Addr) (n : Nat) : valV (mKvs c l n) kAt = some (.int (n : Int)) := by
  unfold mKvs
  rw [valV_neg k13, valV_neg k23, valV_pos rfl]
theorem put3_2 {x y z w : V} : putK [(kCells, x), (kLeft, y), (kAt, z)] kLeft w = [(kCells, x), (kLeft, w), (kAt, z)] := by
  simp [putK, e12, e21, e23, e32]
theorem put3_3 {x y z w : V} : putK [(kCells, x), (kLeft, y), (kAt, z)] kAt w = [(kCells, x), (kLeft, y), (kAt, w)] := by
  simp [putK, e13, e31, e23, e32]
theorem merge3 {x y z : V} : mergeK [] [(kCells, x), (kLeft, y), (kAt, z)] = [(kCells, x), (kLeft, y), (kAt, z)] := by
  simp [mergeK, putK, e12, e21, e13, e31, e23, e32]
theorem mKvs_ref {c l b : Addr} {n : Nat} {k : Key} (h : valV (mKvs c l n) k = some (.ref b)) : b = c ∨ b = l := by
  unfold mKvs at h
  by_cases h1 : kCells = k
  · rw [valV_pos h1] at h
    cases h
    exact .inl rfl
  · rw [valV_neg h1] at h
    by_cases h2 : kLeft = k
    · rw [valV_pos h2] at h
      cases h
      exact .inr rfl
    · rw [valV_neg h2] at h
      by_cases h3 : kAt = k
      · rw [valV_pos h3] at h
        cases h
      · rw [valV_neg h3] at h
        cases h
theorem MAt.lf {H : Hp} {m c l : Addr} {n : Nat} (M : MAt H m c l n) {b : Addr} (h : Lf H m b) : b = c ∨ b = l := by
  obtain ⟨kvs, k, h1, h2⟩ := h
  rw [M.dk] at h1
  cases h1
  exact mKvs_ref h2
theorem MAt.ownC {H : Hp} {m c l : Addr} {n : Nat} (M : MAt H m c l n) : Lf H m c := ⟨_, kCells, M.dk, mKvs_cells c l n⟩
theorem MAt.ownL {H : Hp} {m c l : Addr} {n : Nat} (M : MAt H m c l n) : Lf H m l := ⟨_, kLeft, M.dk, mKvs_left c l n⟩
/-- what a draw may change: the state itself and what is left -/
structure Ef (m : Addr) (H H' : Hp) : Prop where
  keep : ∀ b o, H b = some o → b ≠ m → ¬ Lf H m b → H' b = some o
  new : ∀ b, Lf H' m b → Lf H m b ∨ H b = none
  st : ∀ o, H m = some o → ∃ o', H' m = some o'
theorem Ef.trans {m : Addr} {H H1 H2 : Hp} (a : Ef m H H1) (b : Ef m H1 H2) : Ef m H H2 where
  keep := fun c o h h1 h2 => b.keep c o (a.keep c o h h1 h2) h1 fun z => by
    rcases a.new c z with q | q
    · exact h2 q
    · rw [h] at q
      cases q
  new := fun c z => by
    rcases b.new c z with q | q
    · exact a.new c q
    · cases e : H c with
      | none => exact .inr rfl
      | some o =>
        refine .inl (Classical.byContradiction fun w => ?_)
        by_cases cm : c = m
        · subst cm
          obtain ⟨o', e'⟩ := a.st o e
          rw [q] at e'
          cases e'
        · rw [a.keep c o e cm w] at q
          cases q
  st := fun o h => by
    obtain ⟨o1, h1⟩ := a.st o h
    exact b.st o1 h1
theorem Ef.refl {m : Addr} {H : Hp} : Ef m H H := ⟨fun _ _ h _ _ => h, fun _ h => .inl h, fun o h => ⟨o, h⟩⟩
theorem Ef.ofSame {m : Addr} {H H' : Hp} {n : Nat} (M : MS H m n) (e : Same H H') : Ef m H H' where
  keep := fun b o h _ _ => e b o h
  new := fun b z => by
    obtain ⟨c, l, M⟩ := M
    obtain ⟨kvs, k, h1, h2⟩ := z
    rw [e _ _ M.dk] at h1
    cases h1
    exact .inl ⟨_, k, M.dk, h2⟩
  st := fun o h => ⟨o, e _ _ h⟩
theorem MS.same {m : Addr} {H H' : Hp} {n : Nat} (M : MS H m n) (e : Same H H') : MS H' m n := by
  obtain ⟨c, l, dk, ⟨cs, h1, h2⟩, ⟨ls, h3, h4, h5⟩, cl⟩ := M
  exact ⟨c, l, e _ _ dk, ⟨cs, e _ _ h1, h2⟩, ⟨ls, e _ _ h3, h4, h5⟩, cl⟩
theorem Ef.tk {K : PySem.W.Frag} {m : Addr} {H H' : Hp} {n : Nat} (e : Ef m H H') (M : MS H m n) : TK K H H' := fun a xs h => by
  obtain ⟨c, l, M⟩ := M
  obtain ⟨ls, hl, _⟩ := M.ls
  obtain ⟨cs, hc, _⟩ := M.cs
  have go : ∀ u : HO, H a = some u → (∀ kvs, u ≠ .dK kvs) → (∀ ys, u ≠ .lst ys) → H' a = some u := fun u hu h1 h2 => by
    refine e.keep a u hu (fun z => ?_) (fun z => ?_)
    · subst z
      rw [M.dk] at hu
      exact h1 _ (Option.some.inj hu).symm
    · rcases M.lf z with q | q
      · rw [q, hc] at hu
        exact h2 _ (Option.some.inj hu).symm
      · rw [q, hl] at hu
        exact h2 _ (Option.some.inj hu).symm
  rcases h with (h | ⟨o, h⟩) | h
  · exact .inl (.inl (go _ h (by intro _ z; cases z) (by intro _ z; cases z)))
  · exact .inl (.inr ⟨o, go _ h (by intro _ z; cases z) (by intro _ z; cases z)⟩)
  · exact .inr h
theorem Ef.lst {m : Addr} {H H' : Hp} {p : Addr} {xs : List V} {n : Nat} (e : Ef m H H') (M : MS H m n) (h : H p = some (.lst xs)) (nl : ¬ Lf H m p) : H' p = some (.lst xs) ∧ ¬ Lf H' m p := by
  have pm : p ≠ m := fun z => by
    obtain ⟨c, l, M⟩ := M
    rw [z, M.dk] at h
    cases h
  refine ⟨e.keep _ _ h pm nl, fun z => ?_⟩
  rcases e.new _ z with q | q
  · exact nl q
  · rw [h] at q
    cases q
theorem MS.notLf {m : Addr} {H : Hp} {n : Nat} (M : MS H m n) {p : Addr} (h : H p = none) : ¬ Lf H m p := fun z => by
  obtain ⟨c, l, M⟩ := M
  obtain ⟨ls, hl, _⟩ := M.ls
  obtain ⟨cs, hc, _⟩ := M.cs
  rcases M.lf z with q | q
  · rw [q, hc] at h
    cases h
  · rw [q, hl] at h
    cases h
theorem map_int_get {ns : List Int} {i : Nat} {x : V} (h : (ns.map V.int)[i]? = some x) : ∃ z, ns[i]? = some z ∧ x = V.int z := by
  rw [List.getElem?_map] at h
  cases e : ns[i]? with
  | none =>
    rw [e] at h
    cases h
  | some z =>
    rw [e] at h
    exact ⟨z, rfl, (Option.some.inj h).symm⟩
theorem MAt.left {H : Hp} {m c l : Addr} {n : Nat} (M : MAt H m c l n) : DGet H m (.str "left") (some (.ref l)) := by
  have h := DGet.k (k := kLeft) M.dk
  rw [mKvs_left] at h
  exact h
theorem MAt.cells {H : Hp} {m c l : Addr} {n : Nat} (M : MAt H m c l n) : DGet H m (.str "cells") (some (.ref c)) := by
  have h := DGet.k (k := kCells) M.dk
  rw [mKvs_cells] at h
  exact h
theorem MAt.at {H : Hp} {m c l : Addr} {n : Nat} (M : MAt H m c l n) : DGet H m (.str "at") (some (.int (n : Int))) := by
  have h := DGet.k (k := kAt) M.dk
  rw [mKvs_at] at h
  exact h
theorem eqv_nil : ∀ ls : List Int, PyData.eqv (.list (ls.map PyData.int)) (.list []) = ls.isEmpty
  | [] => rfl
  | _ :: _ => rfl
/-- xs != [] -/
theorem rd_ne_nil {K : PySem.W.Frag} {H : Hp} {l : Addr} {ls : List Int} {σ : L2.St} {Q : VK} (hl : H l = some (.lst (ls.map V.int)))
    (k : ∀ p, H p = none → Q (.bl (!ls.isEmpty)) (upd H p (.lst []))) : tLst tNil σ H fun y H2 => rNeD K (.ref l) y H2 Q := by
  refine ⟨(by show 0 ≤ sizeLine; decide), fun p hp => ?_⟩
  have lp : l ≠ p := ne_of_none hl hp
  refine ⟨.list (ls.map PyData.int), .list [], .lst (SqL.of (by rw [upd_ne lp]; exact hl)) (DpAll.ints ls), .lst (SqL.of upd_same) .nil, PySem.W.shaped_ints ls, by decide +kernel, ?_⟩
  rw [eqv_nil]
  exact k p hp
theorem cut_tail (z : Int) (r : List Int) : cutV ((z :: r).map V.int) (some 1) none = r.map V.int := by
  simp only [cutV, HT.sIx, List.map_cons, List.length_cons, List.length_map]
  rw [if_neg (by omega)]
  have e : min (1 : Int).toNat (r.length + 1) = 1 := by
    show min 1 (r.length + 1) = 1
    omega
  rw [e]
  show ((r.map V.int).take (r.length + 1 - 1)) = _
  rw [List.take_of_length_le (by rw [List.length_map]; omega)]
theorem map_int_inj : ∀ {xs ys : List Int}, xs.map V.int = ys.map V.int → xs = ys
  | [], [], _ => rfl
  | [], _ :: _, h => by simp at h
  | _ :: _, [], h => by simp at h
  | x :: xs, y :: ys, h => by
    simp only [List.map_cons, List.cons.injEq, V.int.injEq] at h
    rw [h.1, map_int_inj h.2]
theorem at_zero {x : V} {r : List V} : atI (x :: r) 0 = some x := at_of (j := 0) rfl rfl
/-- what is known of a value and its heap, for all that follows -/
theorem te_cut {te : TE} {σ : L2.St} {H : Hp} {Q : VK} (R : V → Hp → Prop) (h : ∀ Q', (∀ v H', R v H' → Q' v H') → te σ H Q') (k : ∀ v H', R v H' → Q v H') : te σ H Q := h Q k
theorem tt_cut {tt : TT} {σ : L2.St} {H : Hp} {Q : Bool → Hp → Prop} (R : Bool → Hp → Prop) (h : ∀ Q', (∀ b H', R b H' → Q' b H') → tt σ H Q') (k : ∀ b H', R b H' → Q b H') : tt σ H Q := h Q k
theorem MAt.same {m c l : Addr} {H H' : Hp} {n : Nat} (M : MAt H m c l n) (e : Same H H') : MAt H' m c l n := by
  obtain ⟨dk, ⟨cs, h1, h2⟩, ⟨ls, h3, h4, h5⟩, cl⟩ := M
  exact ⟨e _ _ dk, ⟨cs, e _ _ h1, h2⟩, ⟨ls, e _ _ h3, h4, h5⟩, cl⟩
theorem at_mod (k : Int) {xs : List Int} (h : (0 : Int) < ((xs.map V.int).length : Int)) : ∃ v : Int, atI (xs.map V.int) (k.fmod ((xs.map V.int).length : Int)) = some (.int v) := by
  have h1 := Int.fmod_nonneg_of_pos k h
  have h2 := Int.fmod_lt_of_pos k h
  rw [List.length_map] at h h1 h2 ⊢
  have hk : (k.fmod (xs.length : Int)).toNat < xs.length := by omega
  refine ⟨xs[(k.fmod (xs.length : Int)).toNat], at_of (j := (k.fmod (xs.length : Int)).toNat) (by omega) ?_⟩
  rw [List.getElem?_map, List.getElem?_eq_getElem hk]
  all_goals rfl
theorem seq_asg {te : TE} {g : TG} {u : TS} {D : Ends} {σ : L2.St} {H : Hp} (h : te σ H fun x H1 => g x σ H1 (u D)) : tSeq (tAsg te g) u D σ H := h
/-- name = e, what is known of the value told once -/
theorem seq_cut {te : TE} {g : TG} {u : TS} {D : Ends} {σ : L2.St} {H : Hp} (R : V → Hp → Prop) (h : ∀ Q', (∀ v H', R v H' → Q' v H') → te σ H Q')
    (k : ∀ v H', R v H' → g v σ H' (u D)) : tSeq (tAsg te g) u D σ H := h _ k
theorem ret_cut {te : TE} {D : Ends} {σ : L2.St} {H : Hp} (R : V → Hp → Prop) (h : ∀ Q', (∀ v H', R v H' → Q' v H') → te σ H Q') (k : ∀ v H', R v H' → D.rt v H') : tRet te D σ H := h _ k
/-- another list than those of the state is written -/
theorem MS.upd {m : Addr} {H : Hp} {n : Nat} {D : Addr} {xs : List V} {o : HO} (M : MS H m n) (h : H D = some (.lst xs)) (nl : ¬ Lf H m D) : MS (upd H D o) m n := by
  obtain ⟨c, l, M⟩ := M
  have Dm : m ≠ D := fun z => by
    rw [← z, M.dk] at h
    cases h
  have Dc : c ≠ D := fun z => nl (z ▸ M.ownC)
  have Dl : l ≠ D := fun z => nl (z ▸ M.ownL)
  obtain ⟨dk, ⟨cs, h1, h2⟩, ⟨ls, h3, h4, h5⟩, cl⟩ := M
  exact ⟨c, l, by rw [upd_ne Dm]; exact dk, ⟨cs, by rw [upd_ne Dc]; exact h1, h2⟩, ⟨ls, by rw [upd_ne Dl]; exact h3, h4, h5⟩, cl⟩
theorem Lf.upd {m : Addr} {H : Hp} {D b : Addr} {o : HO} (Dm : m ≠ D) (h : Lf (upd H D o) m b) : Lf H m b := by
  obtain ⟨kvs, k, h1, h2⟩ := h
  rw [upd_ne Dm] at h1
  exact ⟨kvs, k, h1, h2⟩
/-- a list that was new at H0 is written -/
theorem Ef.upd {m : Addr} {H0 H : Hp} {D : Addr} {o : HO} (e : Ef m H0 H) (h0 : H0 D = none) (Dm : m ≠ D) : Ef m H0 (upd H D o) where
  keep := fun b u h h1 h2 => by
    rw [upd_ne (ne_of_none h h0)]
    exact e.keep b u h h1 h2
  new := fun b z => e.new b (z.upd Dm)
  st := fun u h => by
    rw [upd_ne Dm]
    exact e.st u h
theorem log_ok {many : Int} (h0 : 0 < many) (h : many ≤ 10 ^ 31) : many.natAbs.log2 < 9000 := by
  have e : many.natAbs < 2 ^ 104 := by
    have : (10 : Int) ^ 31 < 2 ^ 104 := by decide
    omega
  have := (Nat.log2_lt (by omega)).mpr e
  omega
theorem MS.mne {m : Addr} {H : Hp} {n : Nat} (M : MS H m n) {D : Addr} (h : H D = none) : m ≠ D := fun z => by
  obtain ⟨c, l, M⟩ := M
  rw [← z, M.dk] at h
  cases h
theorem MS.mneL {m : Addr} {H : Hp} {n : Nat} (M : MS H m n) {D : Addr} {xs : List V} (h : H D = some (.lst xs)) : m ≠ D := fun z => by
  obtain ⟨c, l, M⟩ := M
  rw [← z, M.dk] at h
  cases h
/-- a list is written: tuples stay -/
theorem tk_upd {K : PySem.W.Frag} {H : Hp} {D : Addr} {xs : List V} {o : HO} (h : H D = some (.lst xs)) : TK K H (upd H D o) := fun a ys q => by
  rcases q with (q | ⟨u, q⟩) | q
  · exact .inl (.inl (by rw [upd_ne (ne_of q h (by intro w; cases w))]; exact q))
  · exact .inl (.inr ⟨u, by rw [upd_ne (ne_of q h (by intro w; cases w))]; exact q⟩)
  · exact .inr q
theorem take_more {α : Type} {l : List α} {i : Nat} {x : α} (h : l[i]? = some x) : l.take (i + 1) = l.take i ++ [x] := by
  rw [List.take_add_one, h]
  rfl
end My

/-! Which data repr tells, and how long its text may be. -/
namespace L2
open PySem PySem.Spec PyProof.Rows
/-- ints of at most k digits, no dict -/
def fits (k : Nat) : PyData → Bool
  | .int i => decide (i.natAbs < 10 ^ k)
  | .none => true
  | .bool _ => true
  | .str x => decide ((reprText x).length ≤ 1000)
  | .list xs => go xs
  | .tuple xs => go xs
  | .dict _ => false
where go : List PyData → Bool
  | [] => true
  | x :: r => fits k x && go r
/-- a bound of the text's length -/
def room (k : Nat) : PyData → Nat
  | .int _ => k + 1
  | .none => 10
  | .bool _ => 10
  | .str _ => 1000
  | .list xs => go xs + 4
  | .tuple xs => go xs + 4
  | .dict _ => 0
where go : List PyData → Nat
  | [] => 0
  | x :: r => room k x + 2 + go r
theorem list_text_le (ts : List Str) : (listText ts).length ≤ piled ts + 4 := by
  cases ts with
  | nil => decide +kernel
  | cons t r =>
    have h := textFrom_length_pos r 1 (("[" : Str) ++ (if (0 : Nat) > 0 then ", " else "" : String) ++ t) (Nat.succ_pos 0)
    have e : (("[" : Str) ++ (if (0 : Nat) > 0 then ", " else "" : String) ++ t).length = 1 + t.length := by
      rw [strLen_append, strLen_append]
      rfl
    have f : (listText (t :: r)).length = (textFrom 1 (("[" : Str) ++ (if (0 : Nat) > 0 then ", " else "" : String) ++ t) r).length + 1 := by
      show (textFrom 0 "[" (t :: r) ++ "]").length = _
      rw [strLen_append]
      rfl
    rw [f, h, e, piled_cons]
    omega
theorem tuple_text_le (ts : List Str) : (tupleText ts).length ≤ piled ts + 4 := by
  have e : (tupleText ts).length ≤ (Str.join ", " ts).length + 3 := by
    unfold tupleText
    rw [strLen_append, strLen_append]
    have e1 : (("(" : String) : Str).length = 1 := by decide +kernel
    have e2 : ((if (ts.length == 1) = true then ",)" else ")" : String) : Str).length ≤ 2 := by
      split
      · decide +kernel
      · decide +kernel
    omega
  cases ts with
  | nil => exact Nat.le_trans e (by decide +kernel)
  | cons t r =>
    have q := join_length_add (t :: r) (by simp)
    omega
mutual
theorem room_ok {k : Nat} (hk : 0 < k) : ∀ d : PyData, fits k d = true → d.shown.length ≤ room k d
  | .none, _ => (by decide +kernel : PyData.none.shown.length ≤ 10)
  | .bool true, _ => (by decide +kernel : (PyData.bool true).shown.length ≤ 10)
  | .bool false, _ => (by decide +kernel : (PyData.bool false).shown.length ≤ 10)
  | .int i, h => by
    have q := int_text_length_le10 hk (of_decide_eq_true h)
    show (Str.ofString (toString i)).length ≤ k + 1
    rw [PySem.ofString_length]
    exact q
  | .str x, h => of_decide_eq_true h
  | .list xs, h => by
    have q := rooms_ok hk xs h
    exact Nat.le_trans (list_text_le _) (Nat.add_le_add_right q 4)
  | .tuple xs, h => by
    have q := rooms_ok hk xs h
    exact Nat.le_trans (tuple_text_le _) (Nat.add_le_add_right q 4)
  | .dict _, h => by cases h
theorem rooms_ok {k : Nat} (hk : 0 < k) : ∀ ds : List PyData, fits.go k ds = true → piled (PyData.shownAll ds) ≤ room.go k ds
  | [], _ => Nat.le_refl _
  | d :: r, h => by
    have h' := Bool.and_eq_true_iff.mp h
    have q1 := room_ok hk d h'.1
    have q2 := rooms_ok hk r h'.2
    show piled (d.shown :: PyData.shownAll r) ≤ room k d + 2 + room.go k r
    rw [piled_cons]
    omega
end
mutual
theorem fits_show {k : Nat} (hk : k ≤ 500) : ∀ d : PyData, fits k d = true → d.showable = true ∧ d.hasDict = false
  | .none, _ => ⟨rfl, rfl⟩
  | .bool _, _ => ⟨rfl, rfl⟩
  | .int i, h => by
    refine ⟨decide_eq_true ?_, rfl⟩
    have h1 : i.natAbs < 10 ^ k := of_decide_eq_true h
    have h2 : (10 : Nat) ^ k ≤ 10 ^ 500 := Nat.pow_le_pow_right (by decide) hk
    have h3 : (10 : Nat) ^ 500 < 2 ^ 1900 := by decide +kernel
    by_cases z : i.natAbs = 0
    · rw [z]
      decide
    · have := (Nat.log2_lt z).mpr (Nat.lt_trans (Nat.lt_of_lt_of_le h1 h2) h3)
      omega
  | .str _, _ => ⟨rfl, rfl⟩
  | .list xs, h => fits_shows hk xs h
  | .tuple xs, h => fits_shows hk xs h
  | .dict _, h => by cases h
theorem fits_shows {k : Nat} (hk : k ≤ 500) : ∀ ds : List PyData, fits.go k ds = true → PyData.showableAll ds = true ∧ PyData.hasDictAll ds = false
  | [], _ => ⟨rfl, rfl⟩
  | d :: r, h => by
    have h' := Bool.and_eq_true_iff.mp h
    obtain ⟨a, b⟩ := fits_show hk d h'.1
    obtain ⟨a', b'⟩ := fits_shows hk r h'.2
    refine ⟨?_, ?_⟩
    · show (d.showable && PyData.showableAll r) = true
      rw [a, a']
      rfl
    · show (d.hasDict || PyData.hasDictAll r) = false
      rw [b, b']
      rfl
end
/-- what repr asks -/
abbrev Tells (d : PyData) : Prop := isDisplay d = true ∧ d.showable = true ∧ d.hasDict = false ∧ d.depth ≤ 8 ∧ d.shown.length ≤ sizeLine
theorem tells (k : Nat) {d : PyData} (h0 : 0 < k) (h1 : k ≤ 500) (hd : isDisplay d = true) (hf : fits k d = true) (hp : d.depth ≤ 8) (hr : room k d ≤ 16000000) :
    Tells d := by
  obtain ⟨a, b⟩ := fits_show h1 d hf
  refine ⟨hd, a, b, hp, Nat.le_trans (room_ok h0 d hf) (Nat.le_trans hr ?_)⟩
  rw [sizeLine_eq]
  decide
/-! ### ints and loops -/
theorem fits_ints {k : Nat} : ∀ {ns : List Int}, (∀ z ∈ ns, z.natAbs < 10 ^ k) → fits.go k (ns.map PyData.int) = true
  | [], _ => rfl
  | n :: r, h => by
    have q := fits_ints (k := k) (ns := r) fun z hz => h z (List.mem_cons_of_mem _ hz)
    show (decide (n.natAbs < 10 ^ k) && fits.go k (r.map PyData.int)) = true
    rw [q, decide_eq_true (h n List.mem_cons_self)]
    rfl
theorem room_ints (k : Nat) : ∀ ns : List Int, room.go k (ns.map PyData.int) = (k + 3) * ns.length
  | [] => rfl
  | n :: r => by
    have q := room_ints k r
    show (k + 1) + 2 + room.go k (r.map PyData.int) = (k + 3) * (r.length + 1)
    rw [q, Nat.mul_add]
    omega
theorem depth_ints : ∀ ns : List Int, PyData.depthAll (ns.map PyData.int) = 0
  | [] => rfl
  | n :: r => by
    show max 0 (PyData.depthAll (r.map PyData.int)) = 0
    rw [depth_ints r]
    rfl
theorem tells_ints (k : Nat) {ns : List Int} (h0 : 0 < k) (h1 : k ≤ 500) (hz : ∀ z ∈ ns, z.natAbs < 10 ^ k) (hl : (k + 3) * ns.length + 4 ≤ 16000000) :
    Tells (dInts ns) := by
  refine tells k h0 h1 rfl (fits_ints hz) ?_ ?_
  · show PyData.depthAll (ns.map PyData.int) + 1 ≤ 8
    rw [depth_ints]
    decide
  · show room.go k (ns.map PyData.int) + 4 ≤ _
    rw [room_ints]
    exact hl
abbrev dList (ns : List Int) : PyData := .list (ns.map PyData.int)
theorem tells_list (k : Nat) {ns : List Int} (h0 : 0 < k) (h1 : k ≤ 500) (hz : ∀ z ∈ ns, z.natAbs < 10 ^ k) (hl : (k + 3) * ns.length + 4 ≤ 16000000) :
    Tells (dList ns) := by
  refine tells k h0 h1 rfl (fits_ints hz) ?_ ?_
  · show PyData.depthAll (ns.map PyData.int) + 1 ≤ 8
    rw [depth_ints]
    decide
  · show room.go k (ns.map PyData.int) + 4 ≤ _
    rw [room_ints]
    exact hl
theorem fits_loops {k : Nat} : ∀ {ls : List (List Int)}, (∀ l ∈ ls, ∀ z ∈ l, z.natAbs < 10 ^ k) → fits.go k (ls.map dInts) = true
  | [], _ => rfl
  | l :: r, h => by
    have q := fits_loops (k := k) (ls := r) fun z hz => h z (List.mem_cons_of_mem _ hz)
    show (fits.go k (l.map PyData.int) && fits.go k (r.map dInts)) = true
    rw [q, fits_ints (h l List.mem_cons_self)]
    rfl
theorem room_loops (k b : Nat) : ∀ ls : List (List Int), (∀ l ∈ ls, l.length ≤ b) → room.go k (ls.map dInts) ≤ ((k + 3) * b + 6) * ls.length
  | [], _ => Nat.le_refl _
  | l :: r, h => by
    have q := room_loops k b r fun z hz => h z (List.mem_cons_of_mem _ hz)
    have e := Nat.mul_le_mul_left (k + 3) (h l List.mem_cons_self)
    show room.go k (l.map PyData.int) + 4 + 2 + room.go k (r.map dInts) ≤ ((k + 3) * b + 6) * (r.length + 1)
    rw [room_ints, Nat.mul_add]
    omega
theorem depth_loops : ∀ ls : List (List Int), PyData.depthAll (ls.map dInts) ≤ 1
  | [] => by decide
  | l :: r => by
    have q := depth_loops r
    show max (PyData.depthAll (l.map PyData.int) + 1) (PyData.depthAll (r.map dInts)) ≤ 1
    rw [depth_ints]
    omega
theorem tells_loops (k b : Nat) {ls : List (List Int)} (h0 : 0 < k) (h1 : k ≤ 500) (hz : ∀ l ∈ ls, ∀ z ∈ l, z.natAbs < 10 ^ k) (hb : ∀ l ∈ ls, l.length ≤ b) (hl : ((k + 3) * b + 6) * ls.length + 4 ≤ 16000000) :
    Tells (dLoops ls) := by
  refine tells k h0 h1 rfl (fits_loops hz) ?_ ?_
  · have q := depth_loops ls
    show PyData.depthAll (ls.map dInts) + 1 ≤ 8
    omega
  · have q := room_loops k b ls hb
    show room.go k (ls.map dInts) + 4 ≤ _
    omega
end L2

/-! Defs that ask repr of a container: they are called where no repr is under way. -/
namespace L2
open PySem PySem.Spec PyProof.Rows
/-- as FnOk, where no guard stands -/
structure FnG (P : Program) (w : World) (K : PySem.W.Frag) (mg : Str → Option Value) (base : Heap) (k : Nat) (f : Addr) (fd : FuncData)
    (ps : List Str) (sp : Sp) : Prop where
  len : ∀ vs H Q E, sp vs H Q E → vs.length = ps.length
  go : ∀ (A : Around) (outer : List Env) (s : Shared) (H : Hp) (args : Args) (us : List Value) (vs : List V) (Q : VK) (E : XK),
    Room k A → A.guards = some [] → Env0 P w K mg base A outer s H → BindsTo s fd args (ps.zip us) → Vals vs us → sp vs H Q E →
    codeAny (model P w) A (.call (.ref f) args) (CR CX0 outer P w H s Q E) s
section
variable {P : Program} {w : World} {K : PySem.W.Frag} {mg : Str → Option Value} {base : Heap}
/-- a def whose body asks for no guard -/
theorem _root_.L2.Fun.okG {x qual : Str} {st : Stmt} {f : Addr} {fd : FuncData} {N ps : List Str} {k : Nat} {sp : Sp} (F : Fun K x qual st f fd)
    (S : FnScope N ps (defScope st)) (len : ∀ vs H Q E, sp vs H Q E → vs.length = ps.length)
    (body : ∀ (cdv : Value) (A : Around) (outer : List Env) (s : Shared) (H : Hp) (vs : List V) (Q : VK) (E : XK),
      Room k (A.deeper (envOfC qual (defScope st) s.heap.objs.size f cdv)) → A.guards = some [] → sp vs H Q E →
      ∃ t, PSs (cxOf CX0 P w K mg base N qual (defScope st) f cdv A outer s H E).nox (defBody st) t ∧
        t { nx := fun _ H' => Q .non H', rt := Q } (start N vs) H) : FnG P w K mg base (k + 1) f fd ps sp := by
  obtain ⟨oc, od, kV, doc, pm, an, cdv, ct, osl, rfl, lk, hcd⟩ := F.ex
  constructor
  · exact len
  intro A outer s H args us vs Q E room hg env binds rel ask
  have room' := room.deeper (envOfC qual (defScope st) s.heap.objs.size f cdv)
  obtain ⟨t, walk, want⟩ := body cdv A outer s H vs Q E room' hg ask
  have kin : K.In s.heap := env.mod.kin.keeps fun b o e => (env.bs b o e).1
  have kinds : ∀ y ∈ ps.zip us, (defScope st).names.lookup y.1 = some .local ∨
      ((defScope st).names.lookup y.1 = some .cell ∧ ((cellsFrom (s.heap.objs.size + 1) (defScope st).names []).lookup y.1).isSome = true) := by
    rintro ⟨n, v⟩ hy
    have hn := S.par n (List.of_mem_zip hy).1
    rcases hn with q | q
    · exact Or.inl q
    · exact Or.inr ⟨q, PySem.W.cellsFrom_some _ _ _ (Or.inl q)⟩
  refine codeAny_call_function room.depth (kin _ _ lk) rfl S.co S.gen rfl (PySem.W.codeRec_of kin hcd) (binds _ _ _ _ ?_)
  refine wpAny_newFunctionEnv_cells S.kind kinds fun e he s1 begun => ?_
  subst he
  have lim : s.heap.NoLimit := env.mod.nolimit.keeps fun b o e => (env.bs b o e).1
  refine And.intro (lim.keeps begun.toInCall.keep) (codeAny_func ?_)
  have inv := inv_start (CX := CX0) (E := E) S room.hd env (len _ _ _ _ ask) rel begun
  have over : ∀ {σ' : St} {H' : Hp} {v : V} {u : Value} {s' : Shared},
      Inv (cxOf CX0 P w K mg base N qual (defScope st) f cdv A outer s H E) [] σ' H' s' → RelV v u → Q v H' → CE outer P w H s Q u s' :=
    fun J r q => ⟨_, _, J.os, J.bare, J.base, J.hok, r, q⟩
  refine wpAny_mono (walk.nox.run [] s1 (start N vs) H _ inv want) ?_ (fun _ _ z => z)
  intro fl s' ends
  cases fl with
  | next =>
    obtain ⟨_, _, J, q⟩ := ends
    exact over (v := V.non) (u := Value.none) J rfl q
  | ret u =>
    obtain ⟨_, _, _, J, r, q⟩ := ends
    exact over J r q
  | brk =>
    obtain ⟨_, _, _, q⟩ := ends
    cases q
  | cont =>
    obtain ⟨_, _, _, q⟩ := ends
    cases q
/-- a def that keeps a promise everywhere keeps it where no guard stands -/
theorem FnOk.toG {k : Nat} {f : Addr} {fd : FuncData} {ps : List Str} {sp : Sp} (F : FnOk P w K mg base CX0 k f fd ps sp) : FnG P w K mg base k f fd ps sp :=
  ⟨F.len, fun A outer s H args us vs Q E r _ => F.run A outer s H args us vs Q E r⟩
end
section
variable {X : Cx} {k : Nat} {f : Addr} {fd : FuncData} {ps : List Str} {sp : Sp} {dvs : List V} {ds : List Value} {E : XK} {x : Str}
/-- f(e, ..), f such a def -/
theorem pe_callG {p pos : Pos} {e : Expr} {es : List Expr} {t : TA} (F : FnG X.prog X.w X.K X.mg X.base k f fd ps sp) (hr : Room k X.A) (hG : X.A.guards = some [])
    (hg : Gl X x) (hm : X.mg x = some (.ref f)) (hk : PySem.W.keepIn X.K (.ref f) = true) (hb : Binds X.K fd ps ds) (hd : Vals dvs ds) (hx : Passes CX0 X E)
    (ha : PA X (e :: es) t) (hdb : (x == ("__debug__" : Str)) = false := by decide)
    (he : starEach (e :: es) X.env = (false, eval e X.env) :: starEach es X.env := by rfl) (hpl : (backTo pos (starEach es X.env)).any (·.1) = false := by rfl) :
    PE X (.Call (.Name x p) (e :: es) [] pos) (tCall sp dvs E t) := by
  constructor
  intro pins s σ H Q I h
  have run : ∀ us s1, AP X pins σ (fun vs H1 => sp (vs ++ dvs) H1 Q E) us s1 →
      X.K.In s1.heap ∧ wpAny (model X.prog X.w) X.A (call (.ref f) us) (EP X pins σ Q) X.xe s1 := by
    rintro us s1 ⟨vs, H1, I1, r, q⟩
    have r2 := r.append hd
    have hl : (us ++ ds).length = ps.length := by
      rw [← r2.length]
      exact F.len _ _ _ _ q
    refine ⟨I1.kIn, wpAny_call (codeAny_mono (F.go X.A X.stack s1 H1 ⟨us, []⟩ (us ++ ds) (vs ++ dvs) Q E hr hG I1.env0 (hb s1 us I1.kIn hl) r2 q) ?_)⟩
    intro res s2 z
    cases res with
    | error er => exact hx pins σ H1 s1 er s2 I1 z
    | ok fl =>
      cases fl with
      | ret u => exact I1.after z
      | next => cases z
      | brk => cases z
      | cont => cases z
  exact wpAny_Call_Name_kw (ld_glob I hg hm (PySem.W.callWith_K (h₀ := X.base) I.ok.mod.kin hk
    (thn (ha.run pos pins s σ H _ I h) fun us s1 q => run us s1 q) he hpl) hdb)
end
end L2

/-! A law's end where its def asks repr of a container. -/
namespace L2
open PySem PySem.Spec PyProof.Rows
section
variable {P : Program} {w : World} {K : PySem.W.Frag} {mg mb : Str → Option Value} {k : Nat} {fa a : Addr} {fd : FuncData} {x : Str} {sp : Sp}
  {z : Shared} {vs : List Value} {ns : List Int}
def endsTrue (z : Shared) (r : Result) (s' : Shared) : Prop :=
  r = .ok (.ret (.bool true)) ∧ OldK z.heap s'.heap ∧ s'.os = z.os ∧ AllBare s'.gens
/-- from an abstract heap that tracks the script at most -/
theorem my_core (kin : K.In z.heap) (hns : z.heap.Ns mainGlobals mg) (hb : z.heap.Ns builtinsNs mb) (hbb : ∀ x : Str, x ≠ "__name__" → mb x = bootBuiltins x)
    (hlim : z.heap.NoLimit) (hg : z.gens = #[]) (ha : z.heap.get? a = some { cls := .type "list", data := .seq vs.toArray }) (hr : Room k callerA)
    (F : ∀ base : Heap, K.In base → base.Ns mainGlobals mg → FnG P w K mg base k fa fd [x] sp) (bind : ∀ (s : Shared) (u : Value), BindsTo s fd ⟨[u], []⟩ [(x, u)])
    (H : Hp) (ask : sp [.ref a] H (fun v _ => v = .bl true) fun _ _ _ => False) (ok : HOk P w H z.heap) (only : Only H) (atA : ∀ b, H b ≠ none → b = a)
    (notK : H a ≠ none → K.lookup a = none) : codeAny (model P w) callerA (.call (.ref fa) ⟨[.ref a], []⟩) (endsTrue z) z := by
  -- the base: all that H does not track
  have stays : ∀ {b : Addr} {o : Obj}, z.heap.get? b = some o → (b ≠ a ∨ H a = none) → (hidT z.heap H).get? b = some o := by
    intro b o e h
    refine hidT_get e ?_
    cases q : H b with
    | none => rfl
    | some u =>
      have eb := atA b (by rw [q]; exact Option.some_ne_none u)
      rcases h with h | h
      · exact absurd eb h
      · rw [eb, h] at q
        cases q
  have names : ∀ {b : Addr} {m : Str → Option Value}, z.heap.Ns b m → (hidT z.heap H).Ns b m := by
    rintro b m ⟨o, es, ep, e, d, r⟩
    refine ⟨o, es, ep, stays e (.inl fun eb => ?_), d, r⟩
    rw [eb, ha] at e
    cases e
    cases d
  have kinB : K.In (hidT z.heap H) := by
    intro b o e
    refine stays (kin b o e) ?_
    by_cases eb : b = a
    · refine .inr ?_
      cases q : H a with
      | none => rfl
      | some u =>
        rw [eb, notK (by rw [q]; exact Option.some_ne_none u)] at e
        cases e
    · exact .inl eb
  obtain ⟨mc, l1, l2⟩ := hlim
  have M : Mod K mg (hidT z.heap H) := ⟨kinB, names hns, ⟨mb, names hb, hbb⟩, ⟨mc, names l1, l2⟩⟩
  have env : Env0 P w K mg (hidT z.heap H) callerA [] z H := by
    refine ⟨rfl, M, fun b o e => of_hidT e, Nat.le_of_eq (hidT_size _ _), trivial, ?_, ok, .of_eq hg⟩
    intro b hm
    cases hm
  refine codeAny_mono ((F _ kinB (names hns)).go callerA [] z H ⟨[.ref a], []⟩ [.ref a] [.ref a] _ _ hr rfl env (bind z (.ref a)) (.cons rfl .nil) ask) ?_
  intro r s' res
  cases r with
  | error e => cases res
  | ok fl =>
    cases fl with
    | ret u =>
      obtain ⟨v, H', os, bare, un, ok', rel, ev⟩ := res
      have ev' : v = .bl true := ev
      subst ev'
      have eu : u = Value.bool true := rel
      subst eu
      refine ⟨rfl, OldK.of_keep fun b o e => ?_, os, bare⟩
      rcases only b with q | ⟨ob, xs, q⟩
      · exact un.keep b o e q (fun m => by cases m) (fun m => by cases m)
      · obtain ⟨e1, _⟩ := ok b _ q
        obtain ⟨e2, _⟩ := ok' b _ (un.frzs b ob _ q)
        rw [e] at e1
        cases e1
        exact e2
    | next => cases res
    | brk => cases res
    | cont => cases res
theorem my_law_call (kin : K.In z.heap) (hns : z.heap.Ns mainGlobals mg) (hb : z.heap.Ns builtinsNs mb) (hbb : ∀ x : Str, x ≠ "__name__" → mb x = bootBuiltins x)
    (hlim : z.heap.NoLimit) (hg : z.gens = #[]) (ha : z.heap.get? a = some { cls := .type "list", data := .seq vs.toArray }) (hi : IntsAre vs ns) (hl : ns.length ≤ sizeLine)
    (hr : Room k callerA) (F : ∀ base : Heap, K.In base → base.Ns mainGlobals mg → FnG P w K mg base k fa fd [x] sp)
    (bind : ∀ (s : Shared) (u : Value), BindsTo s fd ⟨[u], []⟩ [(x, u)])
    (ask : ∀ H : Hp, Only H → SqL K H a (ns.map V.int) → sp [.ref a] H (fun v _ => v = .bl true) fun _ _ _ => False) :
    codeAny (model P w) callerA (.call (.ref fa) ⟨[.ref a], []⟩) (endsTrue z) z := by
  have rv := vals_ints hi
  have lv := hi.length
  cases hk : K.lookup a with
  | none =>
    let H0 : Hp := fun b => if b = a then some (.frz { cls := .type "list", data := .seq vs.toArray } (.lst (ns.map V.int))) else none
    have at0 : H0 a = some (.frz { cls := .type "list", data := .seq vs.toArray } (.lst (ns.map V.int))) := if_pos rfl
    have else0 : ∀ b, b ≠ a → H0 b = none := fun b h => if_neg h
    have only : Only H0 := fun b => by
      by_cases h : b = a
      · rw [h]
        exact .inr ⟨_, _, at0⟩
      · exact .inl (else0 b h)
    refine my_core kin hns hb hbb hlim hg ha hr F bind H0 (ask H0 only (.inl (.inr ⟨_, at0⟩))) ?_ only ?_ (fun _ => hk)
    · intro b u h
      by_cases hba : b = a
      · subst hba
        rw [at0] at h
        cases h
        exact ⟨ha, by rw [List.length_map]; exact hl, vs, _, rv, ha⟩
      · rw [else0 b hba] at h
        cases h
    · intro b h
      exact Classical.byContradiction fun n => h (else0 b n)
  | some o =>
    have e := kin a o hk
    rw [ha] at e
    cases e
    have only : Only fun _ => none := fun _ => .inl rfl
    refine my_core kin hns hb hbb hlim hg ha hr F bind (fun _ => none) (ask _ only ?_) ?_ only ?_ ?_
    · exact .inr ⟨_, vs.toArray, _, hk, rfl, rfl, rfl, by rw [List.size_toArray, lv]; exact hl, by simpa using rv⟩
    · intro b u h
      cases h
    · intro b h
      exact absurd rfl h
    · intro h
      exact absurd rfl h
end
theorem my_walk {l : PySem.W.OpenLaw} {k : Nat} {q : Program} {loose : List Str} {XP : (Str → Option Value) → Heap → Prop} {YP : World → Heap → Prop} {d : DefRec}
    {K : Params → PySem.W.Frag} {sp : PySem.W.Frag → Sp} (hn : l.most = some 63) (hdf : d.params.defaults = []) (hr : Room k callerA)
    (hY : ∀ (w : World) (h : Heap), YP w h → (K w.params).In h)
    (F : ∀ (w : World) (mg : Str → Option Value) (fa : Addr) (h : Heap), (K w.params).In h → h.Ns mainGlobals mg → mg d.name = some (.ref fa) →
      ∃ fd : FuncData, (∀ (s : Shared) (u : Value), BindsTo s fd ⟨[u], []⟩ [("script", u)]) ∧
        ∀ base : Heap, (K w.params).In base → base.Ns mainGlobals mg → FnG l.prog w (K w.params) mg base k fa fd ["script"] (sp (K w.params)))
    (ask : ∀ (K : PySem.W.Frag) (H : Hp) (a : Addr) (ns : List Int), ns.length ≤ 63 → SqL K H a (ns.map V.int) → sp K [.ref a] H (fun v _ => v = .bl true) fun _ _ _ => False) :
    PySem.W.WalkO q loose XP YP l.row.toRowW d [] (fun f vs => PySem.call f vs) := by
  refine Att.attach_call hn hdf fun w s0 z mg mb fa o pm cd doc a vs ns G Y ho hd hcd hmg hobj hints hlen hg => ?_
  have kin := hY w _ Y
  obtain ⟨fd, bind, hF⟩ := F w mg fa _ kin G.T.g hmg
  exact my_law_call kin G.T.g G.T.b G.T.builtins G.T.nolimit hg hobj hints (Nat.le_trans hlen (by decide)) hr hF bind
    fun H only hS => ask (K w.params) H a ns hlen hS
end L2

/-! Data compared, cut, and told. -/
namespace L2
open PySem PySem.Spec PyProof.Rows
theorem eqv_ints : ∀ xs ys : List Int, PyData.eqvAll (xs.map PyData.int) (ys.map PyData.int) = decide (xs = ys)
  | [], [] => rfl
  | [], _ :: _ => rfl
  | _ :: _, [] => rfl
  | x :: xs, y :: ys => by
    have q := eqv_ints xs ys
    show ((x == y) && PyData.eqvAll (xs.map PyData.int) (ys.map PyData.int)) = decide (x :: xs = y :: ys)
    rw [q]
    by_cases h : x = y
    · subst h
      by_cases h2 : xs = ys
      · subst h2
        simp
      · simp [h2]
    · simp [h]
theorem eqv_dInts (xs ys : List Int) : PyData.eqv (dInts xs) (dInts ys) = decide (xs = ys) := eqv_ints xs ys
theorem shaped_dInts (ns : List Int) : SeqAt.shaped (dInts ns) = true := by
  have e : SeqAt.shaped (dInts ns) = SeqAt.shaped (.list (ns.map PyData.int)) := rfl
  rw [e]
  exact PySem.W.shaped_ints ns
/-- a list of ints that stands -/
theorem Dp.ofList {K : PySem.W.Frag} {H : Hp} {a : Addr} {ns : List Int} (h : H a = some (.lst (ns.map V.int))) : Dp K H (.ref a) (dList ns) :=
  .lst (SqL.of h) (DpAll.ints ns)
def cutD (ds : List PyData) (lo hi : Option Int) : List PyData := (ds.drop (HT.sIx ds.length 0 lo)).take (HT.sIx ds.length ds.length hi - HT.sIx ds.length 0 lo)
theorem DpAll.drop {K : PySem.W.Frag} {H : Hp} : ∀ {vs : List V} {ds : List PyData} (n : Nat), DpAll K H vs ds → DpAll K H (vs.drop n) (ds.drop n)
  | _, _, 0, h => h
  | _, _, _ + 1, .nil => .nil
  | _, _, n + 1, .cons _ h => DpAll.drop n h
theorem DpAll.take {K : PySem.W.Frag} {H : Hp} : ∀ {vs : List V} {ds : List PyData} (n : Nat), DpAll K H vs ds → DpAll K H (vs.take n) (ds.take n)
  | _, _, 0, _ => .nil
  | _, _, _ + 1, .nil => .nil
  | _, _, n + 1, .cons h1 h => .cons h1 (DpAll.take n h)
/-- t[lo:hi] of a tuple of data -/
theorem rd_cut {K : PySem.W.Frag} {H : Hp} {v : V} {ds : List PyData} {lo hi : Option Int} {Q : VK} (h : Dp K H v (.tuple ds))
    (k : ∀ w H', Same H H' → Dp K H' w (.tuple (cutD ds lo hi)) → Q w H') : rSlA K v lo hi H Q := by
  obtain ⟨a, xs, rfl, hT, hX⟩ := h.tuple
  have hl := hX.len
  have hc : DpAll K H (cutV xs lo hi) (cutD ds lo hi) := by
    unfold cutV cutD
    rw [← hl]
    exact (hX.drop _).take _
  refine ⟨a, xs, rfl, hT, fun w => ?_, fun _ p hp => ?_⟩
  · refine k _ H (Same.refl H) (.tup hT ?_)
    have e : cutV xs lo hi = xs := by
      unfold cutV
      rw [w.1, w.2, List.drop_zero, Nat.sub_zero, List.take_length]
    rw [e] at hc
    exact hc
  · exact k _ _ (same_upd hp _) (.tup (SqT.of upd_same) (DpAll.same (same_upd hp _) _ _ hc))
theorem cutD_map {α : Type} (f : α → PyData) (xs : List α) (n : Nat) : cutD (xs.map f) none (some (n : Int)) = (xs.take n).map f := by
  unfold cutD
  rw [HT.sIx_none, HT.sIx_nat, List.drop_zero, Nat.sub_zero, List.length_map, ← List.map_take]
  congr 1
  by_cases h : n ≤ xs.length
  · rw [Nat.min_eq_left h]
  · rw [Nat.min_eq_right (by omega), List.take_length, List.take_of_length_le (by omega)]
end L2

/-! The promises of the defs that several laws share, and what is known of them. -/
namespace My
open PySem PySem.Spec PyProof.Rows L2
def sp__law_begun (K : PySem.W.Frag) : Sp := fun vs H Q _ => ∃ (a : Addr) (ns : List Int), vs = [.ref a] ∧ SqL K H a (ns.map V.int) ∧ ns.length ≤ 63 ∧
  ∀ m H', Same H H' → MS H' m 0 → Q (.ref m) H'
def sp__law_next (K : PySem.W.Frag) : Sp := fun vs H Q _ => ∃ (m : Addr) (many : Int) (n : Nat), vs = [.ref m, .int many] ∧ MS H m n ∧ 0 < many ∧ many ≤ 10 ^ 31 ∧ n < 2 ^ 40 ∧
  ∀ (r : Int) (n' : Nat) H', 0 ≤ r → r < many → n' ≤ n + 1 → MS H' m n' → Ef m H H' → Q (.int r) H'
def NB (r : Int) : Prop := -(10 ^ 30) ≤ r ∧ r ≤ 10 ^ 30
def sp__law_number (K : PySem.W.Frag) : Sp := fun vs H Q _ => ∃ (m : Addr) (n : Nat), vs = [.ref m] ∧ MS H m n ∧ n + 2 ≤ 2 ^ 40 ∧
  ∀ (r : Int) (n' : Nat) H', NB r → n' ≤ n + 2 → MS H' m n' → Ef m H H' → Q (.int r) H'
def sp__law_lengths (K : PySem.W.Frag) : Sp := fun vs H Q _ => ∃ (m : Addr) (many most : Int) (n : Nat), vs = [.ref m, .int many, .int most] ∧ MS H m n ∧ 0 ≤ many ∧ many ≤ 100 ∧ 1 ≤ most ∧ most ≤ 1000 ∧ n + 200 ≤ 2 ^ 40 ∧
  ∀ (v : V) (ls : List Int) (n' : Nat) H', Dp K H' v (dInts ls) → (ls.length : Int) ≤ many → (∀ z ∈ ls, 1 ≤ z ∧ z ≤ most) → n' ≤ n + 200 → MS H' m n' → Ef m H H' → Q v H'
def sp__law_loops_of (K : PySem.W.Frag) : Sp := fun vs H Q _ => ∃ (m : Addr) (v : V) (lens : List Int) (n : Nat), vs = [.ref m, v] ∧ Dp K H v (dInts lens) ∧ lens.length ≤ 100 ∧ (∀ z ∈ lens, 0 ≤ z ∧ z ≤ 1000) ∧ MS H m n ∧ n + 300000 ≤ 2 ^ 40 ∧
  ∀ (v : V) (ls : List (List Int)) (n' : Nat) H', Dp K H' v (dLoops ls) → ls.map (fun l => (l.length : Int)) = lens → (∀ l ∈ ls, ∀ z ∈ l, NB z) → n' ≤ n + 200000 → MS H' m n' → Ef m H H' → Q v H'
def sp_is_whole (K : PySem.W.Frag) : Sp := fun vs H Q _ => ∃ (x : V) (t : Value) (b1 b2 : Bool), vs = [x] ∧ TyX K H x t ∧ PySem.W.kitOne K t (.type "int") = some b1 ∧ PySem.W.kitOne K t (.type "bool") = some b2 ∧ Q (.bl (b1 && !b2)) H
def sp_is_tick (K : PySem.W.Frag) : Sp := fun vs H Q _ => ∃ (i : Int), vs = [.int i] ∧ Q (.bl (decide (0 ≤ i) && decide (i ≤ 10 ^ 30))) H
def sp_need_tick (K : PySem.W.Frag) : Sp := fun vs H Q _ => ∃ (i : Int), vs = [.int i] ∧ 0 ≤ i ∧ i ≤ 10 ^ 30 ∧ Q .non H
def sp_need_many (K : PySem.W.Frag) : Sp := fun vs H Q _ => ∃ (i : Int), vs = [.int i] ∧ 0 ≤ i ∧ i ≤ 1000 ∧ Q .non H
def OkL (ls : List (List Int)) : Prop := ls.length ≤ 6 ∧ ∀ l ∈ ls, 1 ≤ l.length ∧ l.length ≤ 64
def sp_need_loops (K : PySem.W.Frag) : Sp := fun vs H Q _ => ∃ (v : V) (ls : List (List Int)), vs = [v] ∧ Dp K H v (dLoops ls) ∧ OkL ls ∧ ∀ H', Same H H' → Q v H'
def hAt (l : List Int) (t : Int) : Int := l.getD (t.fmod (l.length : Int)).toNat 0
def hd (ls : List (List Int)) (t : Int) : Int := (ls.map fun l => hAt l t).sum
def hrow (ls : List (List Int)) (t : Int) (n : Nat) : List Int := (List.range n).map fun i => hd ls (t + (i : Nat))
def sp_sum_at (K : PySem.W.Frag) : Sp := fun vs H Q _ => ∃ (v : V) (ls : List (List Int)) (t : Int), vs = [v, .int t] ∧ Dp K H v (dLoops ls) ∧ OkL ls ∧ ∀ H', Same H H' → Q (.int (hd ls t)) H'
def sp__law_heard (K : PySem.W.Frag) : Sp := fun vs H Q _ => ∃ (v : V) (ls : List (List Int)) (t : Int), vs = [v, .int t] ∧ Dp K H v (dLoops ls) ∧ OkL ls ∧ ∀ H', Same H H' → Q (.int (hd ls t)) H'
def sp_heard (K : PySem.W.Frag) : Sp := fun vs H Q _ => ∃ (v : V) (ls : List (List Int)) (t : Int), vs = [v, .int t] ∧ Dp K H v (dLoops ls) ∧ OkL ls ∧ 0 ≤ t ∧ t ≤ 10 ^ 30 ∧ ∀ H', Same H H' → Q (.int (hd ls t)) H'
def sp_heard_row (K : PySem.W.Frag) : Sp := fun vs H Q _ => ∃ (v : V) (ls : List (List Int)) (t n : Int), vs = [v, .int t, .int n] ∧ Dp K H v (dLoops ls) ∧ OkL ls ∧ 0 ≤ t ∧ t ≤ 10 ^ 30 ∧ 0 ≤ n ∧ n ≤ 1000 ∧
  ∀ w H', Same H H' → Dp K H' w (dInts (hrow ls t n.toNat)) → Q w H'
def sp__law_heard_row (K : PySem.W.Frag) : Sp := fun vs H Q _ => ∃ (v : V) (ls : List (List Int)) (t n : Int), vs = [v, .int t, .int n] ∧ Dp K H v (dLoops ls) ∧ OkL ls ∧ 0 ≤ n ∧ n ≤ 1000 ∧
  ∀ w H', Same H H' → Dp K H' w (dInts (hrow ls t n.toNat)) → Q w H'
theorem loops_get {K : PySem.W.Frag} {H : Hp} {xs : List V} {ls : List (List Int)} {i : Nat} {x : V} (h : DpAll K H xs (ls.map dInts)) (hx : xs[i]? = some x) :
    ∃ l a, ls[i]? = some l ∧ x = .ref a ∧ SqT K H a (l.map V.int) := by
  obtain ⟨d, hd, hD⟩ := h.get hx
  rw [List.getElem?_map] at hd
  cases e : ls[i]? with
  | none =>
    rw [e] at hd
    cases hd
  | some l =>
    rw [e] at hd
    cases hd
    obtain ⟨a, rfl, hT⟩ := hD.ints
    exact ⟨l, a, rfl, rfl, hT⟩
theorem iteP {p A B : Prop} [Decidable p] (h : p) (a : A) : if decide p = true then A else B := by
  rw [decide_eq_true h]
  exact iteT a
theorem iteN {p A B : Prop} [Decidable p] (h : ¬ p) (b : B) : if decide p = true then A else B := by
  rw [decide_eq_false h]
  exact iteF b
theorem kit_ii {K : PySem.W.Frag} : PySem.W.kitOne K (.type "int") (.type "int") = some true := kit_ty (by decide +kernel)
theorem kit_ib {K : PySem.W.Frag} : PySem.W.kitOne K (.type "int") (.type "bool") = some false := kit_ty (by decide +kernel)
theorem kit_tt {K : PySem.W.Frag} : PySem.W.kitOne K (.type "tuple") (.type "tuple") = some true := kit_ty (by decide +kernel)
theorem _root_.L2.Dp.same_at {K : PySem.W.Frag} {H H' : Hp} {v : V} {d : PyData} (h : Dp K H v d) (e : Same H H') : Dp K H' v d := Dp.same e d v h
theorem hAt_ix {l : List Int} (t : Int) (h : 1 ≤ l.length) : atI (l.map V.int) (t.fmod ((l.map V.int).length : Int)) = some (.int (hAt l t)) := by
  rw [List.length_map]
  have hp : (0 : Int) < (l.length : Int) := by omega
  have h1 := Int.fmod_nonneg_of_pos t hp
  have h2 := Int.fmod_lt_of_pos t hp
  have hk : (t.fmod (l.length : Int)).toNat < l.length := by omega
  refine at_of (j := (t.fmod (l.length : Int)).toNat) (by omega) ?_
  rw [List.getElem?_map, List.getElem?_eq_getElem hk]
  unfold hAt
  rw [List.getD_eq_getElem?_getD, List.getElem?_eq_getElem hk]
  rfl
theorem hrow_len (ls : List (List Int)) (t : Int) (n : Nat) : (hrow ls t n).length = n := by
  unfold hrow
  rw [List.length_map, List.length_range]
theorem hrow_more (ls : List (List Int)) (t : Int) (n : Nat) : hrow ls t (n + 1) = hrow ls t n ++ [hd ls (t + (0 + (n : Int)))] := by
  unfold hrow
  rw [List.range_succ, List.map_append, Int.zero_add]
  rfl
def sp_law (K : PySem.W.Frag) : Sp := fun vs H Q _ => ∃ (a : Addr) (ns : List Int), vs = [.ref a] ∧ SqL K H a (ns.map V.int) ∧ ns.length ≤ 63 ∧ ∀ H', Q (.bl true) H'
def NBL (ls : List (List Int)) : Prop := ∀ l ∈ ls, ∀ z ∈ l, NB z
theorem hAt_nb {l : List Int} (t : Int) (h : ∀ z ∈ l, NB z) : NB (hAt l t) := by
  unfold hAt
  rw [List.getD_eq_getElem?_getD]
  cases e : l[(t.fmod (l.length : Int)).toNat]? with
  | none => exact ⟨by decide, by decide⟩
  | some z => exact h z (List.mem_of_getElem? e)
theorem hd_nb : ∀ {ls : List (List Int)} (t : Int), NBL ls → -(10 ^ 30) * (ls.length : Int) ≤ hd ls t ∧ hd ls t ≤ 10 ^ 30 * (ls.length : Int)
  | [], _, _ => ⟨(by decide : -(10 ^ 30) * ((0 : Nat) : Int) ≤ 0), (by decide : (0 : Int) ≤ 10 ^ 30 * ((0 : Nat) : Int))⟩
  | l :: r, t, h => by
    have q := hd_nb (ls := r) t fun x hx => h x (List.mem_cons_of_mem _ hx)
    have e : hd (l :: r) t = hAt l t + hd r t := by
      unfold hd
      rw [List.map_cons, List.sum_cons]
    obtain ⟨a, b⟩ := hAt_nb t (h l List.mem_cons_self)
    rw [e, List.length_cons]
    obtain ⟨c, d⟩ := q
    constructor <;> omega
theorem hd_small {ls : List (List Int)} (t : Int) (h : NBL ls) (hl : ls.length ≤ 6) : (hd ls t).natAbs < 10 ^ 40 := by
  obtain ⟨a, b⟩ := hd_nb t h
  have c : ((ls.length : Nat) : Int) ≤ 6 := by omega
  have e : (10 : Int) ^ 30 * (ls.length : Int) ≤ 10 ^ 31 := by omega
  have f : -(10 ^ 31) ≤ -(10 : Int) ^ 30 * (ls.length : Int) := by omega
  have g : (10 : Nat) ^ 40 = 10000000000000000000000000000000000000000 := by decide
  omega
theorem hrow_small {ls : List (List Int)} (t : Int) (n : Nat) (h : NBL ls) (hl : ls.length ≤ 6) : ∀ z ∈ hrow ls t n, z.natAbs < 10 ^ 40 := by
  intro z hz
  unfold hrow at hz
  obtain ⟨i, _, rfl⟩ := List.mem_map.mp hz
  exact hd_small _ h hl
theorem nb_small {z : Int} (h : NB z) : z.natAbs < 10 ^ 40 := by
  obtain ⟨a, b⟩ := h
  have g : (10 : Nat) ^ 40 = 10000000000000000000000000000000000000000 := by decide
  omega
theorem tells_row {ls : List (List Int)} (t : Int) (n : Nat) (h : NBL ls) (hl : ls.length ≤ 6) (hn : n ≤ 1000) : Tells (dInts (hrow ls t n)) :=
  tells_ints (ns := hrow ls t n) 40 (by decide) (by decide) (hrow_small t n h hl) (by rw [hrow_len]; omega)
theorem tells_two {x : Int} (h : x.natAbs < 10 ^ 40) : Tells (dList [x, x]) := tells_list (ns := [x, x]) 40 (by decide) (by decide)
  (by intro z hz; simp at hz; rw [hz]; exact h) (by show (40 + 3) * 2 + 4 ≤ 16000000; decide)
theorem tells_ok {ls : List (List Int)} (h : NBL ls) (ok : OkL ls) : Tells (dLoops ls) := tells_loops (ls := ls) 40 64 (by decide) (by decide)
  (fun l hl z hz => nb_small (h l hl z hz)) (fun l hl => (ok.2 l hl).2) (by have := ok.1; omega)
/-- one of two -/
theorem pick2 {x y : Int} {r : Int} (h0 : 0 ≤ r) (h1 : r < 2) : ∃ b : Int, atI ([x, y].map V.int) r = some (.int b) ∧ (b = x ∨ b = y) := by
  rcases (by omega : r = 0 ∨ r = 1) with e | e
  · rw [e]
    exact ⟨x, at_of (j := 0) rfl rfl, .inl rfl⟩
  · rw [e]
    exact ⟨y, at_of (j := 1) rfl rfl, .inr rfl⟩
theorem pick3 {x y w : Int} {r : Int} (h0 : 0 ≤ r) (h1 : r < 3) : ∃ b : Int, atI ([x, y, w].map V.int) r = some (.int b) ∧ (b = x ∨ b = y ∨ b = w) := by
  rcases (by omega : r = 0 ∨ r = 1 ∨ r = 2) with e | e | e
  · rw [e]
    exact ⟨x, at_of (j := 0) rfl rfl, .inl rfl⟩
  · rw [e]
    exact ⟨y, at_of (j := 1) rfl rfl, .inr (.inl rfl)⟩
  · rw [e]
    exact ⟨w, at_of (j := 2) rfl rfl, .inr (.inr rfl)⟩
theorem min4 (z : Int) (h : 0 ≤ z) : 0 ≤ (if (4 : Int) < z then 4 else z) ∧ (if (4 : Int) < z then 4 else z) ≤ 4 := by
  split <;> omega
abbrev farL : List (List Int) := [[(10 ^ 62) ^ 16, 1 - (10 ^ 62) ^ 16], [5]]
theorem far_row : hrow farL (10 ^ 30) 2 = [(10 ^ 62) ^ 16 + 5, 6 - (10 ^ 62) ^ 16] := by decide +kernel
theorem iteB {b : Bool} {A B : Prop} (h : b = true) (k : B) : if (!b) = true then A else B := by
  rw [h]
  exact iteF k
theorem far_eq : PyData.eqv (dInts (hrow farL (10 ^ 30) 2)) (dInts [(10 ^ 62) ^ 16 + 5, 6 - (10 ^ 62) ^ 16]) = true := by
  rw [eqv_dInts, far_row]
  exact decide_eq_true rfl
theorem far_ok : OkL farL := by
  refine ⟨by decide, fun l hl => ?_⟩
  simp at hl
  rcases hl with h | h <;> (rw [h]; decide)
theorem OkL.take {ls : List (List Int)} (h : OkL ls) (n : Nat) : OkL (ls.take n) :=
  ⟨by rw [List.length_take]; have := h.1; omega, fun l hl => h.2 l (List.mem_of_mem_take hl)⟩
theorem NBL.take {ls : List (List Int)} (h : NBL ls) (n : Nat) : NBL (ls.take n) := fun l hl => h l (List.mem_of_mem_take hl)
/-! ### loops turned -/
def turnL (l : List Int) (k : Nat) : List Int := l.drop k ++ l.take k
def lat (ls : List (List Int)) (t : Int) : List (List Int) := ls.map fun l => turnL l (t.fmod (l.length : Int)).toNat
def lensI (ls : List (List Int)) : List Int := ls.map fun l => (l.length : Int)
def sp_lengths_of (K : PySem.W.Frag) : Sp := fun vs H Q _ => ∃ (v : V) (ls : List (List Int)), vs = [v] ∧ Dp K H v (dLoops ls) ∧ OkL ls ∧ ∀ w H', Same H H' → Dp K H' w (dInts (lensI ls)) → Q w H'
def sp_begun_at (K : PySem.W.Frag) : Sp := fun vs H Q _ => ∃ (v : V) (l : List Int) (i : Int), vs = [v, .int i] ∧ Dp K H v (dInts l) ∧ 0 ≤ i ∧ i < (l.length : Int) ∧ l.length ≤ 64 ∧ ∀ w H', Same H H' → Dp K H' w (dInts (turnL l i.toNat)) → Q w H'
def sp__law_turned (K : PySem.W.Frag) : Sp := fun vs H Q _ => ∃ (v : V) (l : List Int) (t : Int), vs = [v, .int t] ∧ Dp K H v (dInts l) ∧ 1 ≤ l.length ∧ l.length ≤ 64 ∧ ∀ w H', Same H H' → Dp K H' w (dInts (turnL l (t.fmod (l.length : Int)).toNat)) → Q w H'
def sp_later (K : PySem.W.Frag) : Sp := fun vs H Q _ => ∃ (v : V) (ls : List (List Int)) (t : Int), vs = [v, .int t] ∧ Dp K H v (dLoops ls) ∧ OkL ls ∧ 0 ≤ t ∧ t ≤ 10 ^ 30 ∧ ∀ w H', Same H H' → Dp K H' w (dLoops (lat ls t)) → Q w H'
theorem fm {t : Int} {n : Nat} (h : 1 ≤ n) : t.fmod (n : Int) = t % (n : Int) := Int.fmod_eq_emod_of_nonneg t (by omega)
theorem fm_lt {t : Int} {n : Nat} (h : 1 ≤ n) : (t.fmod (n : Int)).toNat < n := by
  have a := Int.fmod_nonneg_of_pos t (show (0 : Int) < (n : Int) by omega)
  have b := Int.fmod_lt_of_pos t (show (0 : Int) < (n : Int) by omega)
  omega
theorem turn_len (l : List Int) (k : Nat) : (turnL l k).length = l.length := by
  unfold turnL
  rw [List.length_append, List.length_drop, List.length_take]
  omega
theorem turn_get {l : List Int} {k i : Nat} (hk : k < l.length) (hi : i < l.length) : (turnL l k)[i]? = l[(k + i) % l.length]? := by
  unfold turnL
  by_cases h : i < l.length - k
  · rw [List.getElem?_append_left (by rw [List.length_drop]; exact h), List.getElem?_drop, Nat.mod_eq_of_lt (by omega)]
  · rw [List.getElem?_append_right (by rw [List.length_drop]; omega), List.length_drop, List.getElem?_take_of_lt (by omega)]
    congr 1
    rw [Nat.mod_eq_sub_mod (by omega), Nat.mod_eq_of_lt (by omega)]
    omega
theorem turn_turn {l : List Int} {a b : Nat} (ha : a < l.length) (hb : b < l.length) : turnL (turnL l a) b = turnL l ((a + b) % l.length) := by
  refine List.ext_getElem? fun i => ?_
  by_cases hi : i < l.length
  · rw [turn_get (by rw [turn_len]; exact hb) (by rw [turn_len]; exact hi), turn_len, turn_get ha (Nat.mod_lt _ (by omega)), turn_get (Nat.mod_lt _ (by omega)) hi]
    congr 1
    rw [Nat.add_mod_mod, Nat.mod_add_mod, Nat.add_assoc]
  · rw [List.getElem?_eq_none (by rw [turn_len, turn_len]; omega), List.getElem?_eq_none (by rw [turn_len]; omega)]
theorem fm_add {a b : Int} {n : Nat} (h : 1 ≤ n) : ((a.fmod (n : Int)).toNat + (b.fmod (n : Int)).toNat) % n = ((a + b).fmod (n : Int)).toNat := by
  rw [fm h, fm h, fm h]
  have a0 := Int.emod_nonneg a (show (n : Int) ≠ 0 by omega)
  have b0 := Int.emod_nonneg b (show (n : Int) ≠ 0 by omega)
  have c0 := Int.emod_nonneg (a + b) (show (n : Int) ≠ 0 by omega)
  have e : ((((a % (n : Int)).toNat + (b % (n : Int)).toNat) % n : Nat) : Int) = (a + b) % (n : Int) := by
    rw [Int.natCast_emod, Int.natCast_add, Int.toNat_of_nonneg a0, Int.toNat_of_nonneg b0, ← Int.add_emod]
  omega
theorem hAt_turn {l : List Int} (a t : Int) (h : 1 ≤ l.length) : hAt (turnL l (a.fmod (l.length : Int)).toNat) t = hAt l (a + t) := by
  unfold hAt
  rw [turn_len, List.getD_eq_getElem?_getD, List.getD_eq_getElem?_getD, turn_get (fm_lt h) (fm_lt h), fm_add h]
theorem hd_lat {ls : List (List Int)} (a t : Int) (h : ∀ l ∈ ls, 1 ≤ l.length) : hd (lat ls a) t = hd ls (a + t) := by
  unfold hd lat
  rw [List.map_map]
  congr 1
  exact List.map_congr_left fun l hl => hAt_turn a t (h l hl)
theorem lat_lat {ls : List (List Int)} (a b : Int) (h : ∀ l ∈ ls, 1 ≤ l.length) : lat (lat ls a) b = lat ls (a + b) := by
  unfold lat
  rw [List.map_map]
  refine List.map_congr_left fun l hl => ?_
  show turnL (turnL l (a.fmod (l.length : Int)).toNat) (b.fmod ((turnL l (a.fmod (l.length : Int)).toNat).length : Int)).toNat = _
  rw [turn_len, turn_turn (fm_lt (h l hl)) (fm_lt (h l hl)), fm_add (h l hl)]
theorem lat_id {ls : List (List Int)} (a : Int) (h : ∀ l ∈ ls, 1 ≤ l.length ∧ a % (l.length : Int) = 0) : lat ls a = ls := by
  unfold lat
  have e : ls.map (fun l => turnL l (a.fmod (l.length : Int)).toNat) = ls.map fun l => l := by
    refine List.map_congr_left fun l hl => ?_
    rw [fm (h l hl).1, (h l hl).2]
    show l.drop 0 ++ l.take 0 = l
    rw [List.drop_zero, List.take_zero, List.append_nil]
  rw [e, List.map_id']
theorem lat_ok {ls : List (List Int)} (a : Int) (h : OkL ls) : OkL (lat ls a) := by
  refine ⟨by unfold lat; rw [List.length_map]; exact h.1, fun l hl => ?_⟩
  obtain ⟨l', hl', rfl⟩ := List.mem_map.mp hl
  rw [turn_len]
  exact h.2 l' hl'
theorem lat_nb {ls : List (List Int)} (a : Int) (h : NBL ls) : NBL (lat ls a) := fun l hl z hz => by
  obtain ⟨l', hl', rfl⟩ := List.mem_map.mp hl
  unfold turnL at hz
  rcases List.mem_append.mp hz with q | q
  · exact h l' hl' z (List.mem_of_mem_drop q)
  · exact h l' hl' z (List.mem_of_mem_take q)
theorem lens_lat (ls : List (List Int)) (a : Int) : lensI (lat ls a) = lensI ls := by
  unfold lensI lat
  rw [List.map_map]
  exact List.map_congr_left fun l _ => by rw [Function.comp, turn_len]
theorem hrow_lat {ls : List (List Int)} (a t : Int) (n : Nat) (h : ∀ l ∈ ls, 1 ≤ l.length) : hrow (lat ls a) t n = hrow ls (a + t) n := by
  unfold hrow
  refine List.map_congr_left fun i _ => ?_
  rw [hd_lat a _ h, Int.add_assoc]
/-- two tuples of data, one behind the other -/
theorem rd_cat {K : PySem.W.Frag} {H : Hp} {v u : V} {ds es : List PyData} {Q : VK} (h1 : Dp K H v (.tuple ds)) (h2 : Dp K H u (.tuple es)) (hz : ds.length + es.length ≤ sizeLine)
    (k : ∀ w H', Same H H' → Dp K H' w (.tuple (ds ++ es)) → Q w H') : rCatA K v u H Q := by
  obtain ⟨a, xs, rfl, hT, hX⟩ := h1.tuple
  obtain ⟨b, ys, rfl, hU, hY⟩ := h2.tuple
  have l1 := hX.len
  have l2 := hY.len
  refine ⟨a, b, xs, ys, rfl, rfl, hT, hU, by rw [l1, l2]; exact hz, fun e => ?_, fun _ e => ?_, fun _ _ p hp => ?_⟩
  · subst e
    cases hX
    exact k _ H (Same.refl H) (.tup hU hY)
  · subst e
    cases hY
    rw [List.append_nil] at k
    exact k _ H (Same.refl H) (.tup hT hX)
  · exact k _ _ (same_upd hp _) (.tup (SqT.of upd_same) (DpAll.same (same_upd hp _) _ _ (hX.app hY)))
theorem cutD_from {α : Type} (f : α → PyData) (xs : List α) {i : Int} (h : 0 ≤ i) (h2 : i ≤ (xs.length : Int)) : cutD (xs.map f) (some i) none = (xs.drop i.toNat).map f := by
  have e : i = ((i.toNat : Nat) : Int) := by omega
  rw [e]
  unfold L2.cutD
  rw [HT.sIx_none, HT.sIx_nat, List.length_map, Int.toNat_natCast, Nat.min_eq_left (by omega), ← List.map_drop]
  rw [List.take_of_length_le (by rw [List.length_map, List.length_drop]; omega)]
theorem cutD_to {α : Type} (f : α → PyData) (xs : List α) {i : Int} (h : 0 ≤ i) : cutD (xs.map f) none (some i) = (xs.take i.toNat).map f := by
  have e : i = ((i.toNat : Nat) : Int) := by omega
  rw [e, cutD_map, Int.toNat_natCast]
end My

/-! A tuple times any int; a tuple compared with the empty one. -/
namespace L2
open PySem PySem.Spec PyProof.Rows
section
theorem my_mul_same (l : Addr) (items : Array Value) (n : Nat) (dd : Option Addr) (sl : Array (Option Value)) (x : Int) (u : Tok)
    (c0 : (decide (x < -(2 ^ 63)) || decide (x ≥ 2 ^ 63)) = false) (c1 : (items.isEmpty || x == 1) = true) :
    Meets (Builtin.«tuple.__mul__» ⟨[.ref l, .int x u], []⟩) (fun _ R s =>
      s.heap.get? l = some { cls := .type "tuple", dict := dd, data := .seq items n, slots := sl } ∧ R (.ok (.ret (Value.ref l))) s) :=
  .of_wp fun prog w A R s h => by
    obtain ⟨hp, g, d, tk, os⟩ := s
    obtain ⟨hl, h⟩ := h
    have f1 := AutoSeq1.idx_int
    have c1' := c1
    wp_walk using wpAny_loadPart' hl
    refine wpAny_ite_false (decide_eq_false (by rw [c0]; exact Bool.false_ne_true)) ?_
    wp_walk using wpAny_loadPart' hl
    exact ⟨_, rfl, h⟩
theorem my_mul_none (l : Addr) (items : Array Value) (n : Nat) (dd : Option Addr) (sl : Array (Option Value)) (x : Int) (u : Tok)
    (c0 : (decide (x < -(2 ^ 63)) || decide (x ≥ 2 ^ 63)) = false) (c1 : (items.isEmpty || x == 1) = false) (c2 : (decide (x ≤ 0) || items.isEmpty) = true) :
    Meets (Builtin.«tuple.__mul__» ⟨[.ref l, .int x u], []⟩) (fun _ R s =>
      s.heap.get? l = some { cls := .type "tuple", dict := dd, data := .seq items n, slots := sl } ∧
      R (.ok (.ret (Value.ref s.heap.objs.size))) { s with heap := s.heap.push { cls := Value.type "tuple", data := Data.seq #[] } }) :=
  .of_wp fun prog w A R s h => by
    obtain ⟨hp, g, d, tk, os⟩ := s
    obtain ⟨hl, h⟩ := h
    have f1 := AutoSeq1.idx_int
    wp_walk using wpAny_loadPart' hl
    repeat (first
      | exact ⟨_, rfl, h⟩
      | (refine wpAny_ite_false (decide_eq_false (by rw [c0]; decide)) ?_; wp_walk using wpAny_loadPart' hl)
      | (refine wpAny_ite_false (decide_eq_false (by rw [c1]; decide)) ?_; wp_walk using wpAny_loadPart' hl)
      | (refine wpAny_ite_true (decide_eq_true c2) ?_; wp_walk using wpAny_loadPart' hl))
end
/-- t * k, any t, any k -/
def rRepA (K : PySem.W.Frag) : R2 := fun x y H Q => ∃ l k xs, x = .ref l ∧ y = .int k ∧ SqT K H l xs ∧ -1000 ≤ k ∧ k ≤ 1000 ∧ xs.length ≤ 1000 ∧
  ((xs = [] ∨ k = 1) → Q (.ref l) H) ∧ (¬ (xs = [] ∨ k = 1) → ∀ p, H p = none → Q (.ref p) (upd H p (.tup (List.replicate k.toNat xs).flatten)))
theorem op_repA {X : Cx} {K : PySem.W.Frag} (e : X.K = K := by rfl) : OpR X (binaryOp .Mult) (rRepA K) := by
  subst e
  intro pins s σ H x y v u Q I rx ry h
  obtain ⟨l, k, xs, rfl, rfl, hT, h1, h2, hz, q0, q1⟩ := h
  by_cases same : xs = [] ∨ k = 1
  · have q := q0 same
    cases rx
    obtain ⟨t, rfl⟩ := ry
    obtain ⟨its, r, ⟨⟨cls, dd, data, sl⟩, ho, hc, n, hd⟩, hs⟩ := I.tuple hT
    simp only at hc hd
    subst hc hd
    have c0 : (decide (k < -(2 ^ 63)) || decide (k ≥ 2 ^ 63)) = false := by
      rw [decide_eq_false (by omega), decide_eq_false (by omega)]
      rfl
    have c1 : (its.toArray.isEmpty || k == 1) = true := by
      rcases same with e | e
      · subst e
        cases r
        rfl
      · subst e
        simp
    refine wpAny_binaryOp_repeat_ref (T := "tuple") (U := "int") (by decide) ⟨_, ho, rfl⟩ (fun s' => typeIs_int s' k t) noFill_tuple_mul F.fills_int_mul F.slot_int_rmul repeat_tuple F.slot_int_index.lookup
      (call_meets F.slot_int_rmul (typeIs_int s k t) F.entry_int_rmul (F.args_int_rmul_2 _ _) (int_rmul_tuple k t l its.toArray n dd sl) ⟨ho, rfl, ⟨_, ho, rfl⟩, ?_⟩)
    exact call_meets F.slot_tuple_mul ⟨_, ho, rfl⟩ F.entry_tuple_mul (F.args_tuple_mul_2 _ _) (my_mul_same l its.toArray n dd sl k t c0 c1) ⟨ho, .ref l, H, I, rfl, q⟩
  · have q := q1 same
    have hne : xs ≠ [] := fun z => same (.inl z)
    by_cases h3 : 2 ≤ k
    · exact op_repT pins s σ H (.ref l) (.int k) v u Q I rx ry ⟨l, k, xs, rfl, rfl, hT, hne, h3, h2, hz, q⟩
    · cases rx
      obtain ⟨t, rfl⟩ := ry
      obtain ⟨its, r, ⟨⟨cls, dd, data, sl⟩, ho, hc, n, hd⟩, hs⟩ := I.tuple hT
      simp only at hc hd
      subst hc hd
      have k0 : k ≤ 0 := by
        have : k ≠ 1 := fun z => same (.inr z)
        omega
      have c0 : (decide (k < -(2 ^ 63)) || decide (k ≥ 2 ^ 63)) = false := by
        rw [decide_eq_false (by omega), decide_eq_false (by omega)]
        rfl
      have c1 : (its.toArray.isEmpty || k == 1) = false := by
        have e1 : its.toArray.isEmpty = false := by
          cases r with
          | nil => exact absurd rfl hne
          | cons _ _ => rfl
        rw [e1, Bool.false_or]
        exact beq_eq_false_iff_ne.mpr (by omega)
      have c2 : (decide (k ≤ 0) || its.toArray.isEmpty) = true := by
        rw [decide_eq_true k0]
        rfl
      have ek : k.toNat = 0 := by omega
      rw [ek] at q
      refine wpAny_binaryOp_repeat_ref (T := "tuple") (U := "int") (by decide) ⟨_, ho, rfl⟩ (fun s' => typeIs_int s' k t) noFill_tuple_mul F.fills_int_mul F.slot_int_rmul repeat_tuple F.slot_int_index.lookup
        (call_meets F.slot_int_rmul (typeIs_int s k t) F.entry_int_rmul (F.args_int_rmul_2 _ _) (int_rmul_tuple k t l its.toArray n dd sl) ⟨ho, rfl, ⟨_, ho, rfl⟩, ?_⟩)
      refine call_meets F.slot_tuple_mul ⟨_, ho, rfl⟩ F.entry_tuple_mul (F.args_tuple_mul_2 _ _) (my_mul_none l its.toArray n dd sl k t c0 c1 c2) ⟨ho, ?_⟩
      have J : Inv X pins σ (upd H s.heap.objs.size (.tup [])) { s with heap := s.heap.push { cls := .type "tuple", data := .seq #[] } } :=
        I.laid (t' := s.toks) (fun b ob z => Heap.get?_push_of_some _ z) (Nat.le_refl _) ⟨Nat.zero_le _, [], .nil, IsTup.new _ _⟩
      exact ⟨.ref s.heap.objs.size, _, J, rfl, q _ (I.hok.fresh (Nat.le_refl _))⟩
end L2

/-! Own errors with one field; things of many kinds. -/
namespace L2
open PySem PySem.Spec PyProof.Rows
/-! ### t == () -/
def rEqT0 (K : PySem.W.Frag) : R2 := fun x y H Q => ∃ a b xs, x = .ref a ∧ y = .ref b ∧ SqT K H a xs ∧ SqT K H b [] ∧ Q (.bl xs.isEmpty) H
theorem op_eqT0 {X : Cx} {K : PySem.W.Frag} (hu : X.A.units + 64 < cLine) (ek : X.K = K := by rfl) : OpR X (compareOp .Eq) (rEqT0 K) := by
  subst ek
  intro pins s σ H x y v u Q I rx ry h
  obtain ⟨a, b, xs, rfl, rfl, ha, hb, q⟩ := h
  cases rx
  cases ry
  obtain ⟨us, r1, p1, z1⟩ := I.tuple ha
  obtain ⟨ws, r2, p2, z2⟩ := I.tuple hb
  have t1 : s.heap.IsTuple a us.toArray := p1
  have t2 : s.heap.IsTuple b ws.toArray := p2
  have l1 := r1.length
  cases r2
  have go := SeqAt.RcAt.tuples (A := X.A) (e := fun _ => true) t1 t2 (by omega) (fun j _ h2 => absurd h2 (by simp))
  refine go X.prog X.w _ _ ⟨.bl _, H, I, ?_, q⟩
  show Value.bool _ = Value.bool _
  cases xs with
  | nil =>
    cases r1
    rfl
  | cons x r =>
    cases r1
    rfl
/-! ### (a, b) = t, the written part named -/
theorem k_pgt {X : Cx} {K : PySem.W.Frag} {es : List Expr} {k : Nat} {t : TGs} {n : Nat} {pos : Pos} (hc : X.calm = true) (h : PGs X es t)
    (hn : (assignEach es X.env).length = n := by rfl) (hst : (assignEach es X.env).findIdx? (·.1) = none := by rfl)
    (e : X.K = K := by rfl) : PG X (.Tuple es k pos) (gTup K n t) := by
  subst e
  exact pg_tup hc h hn hst
/-! ### repr of data, of None and ints too -/
def TellsA (d : PyData) : Prop := Tells d ∨ d = .none ∨ ∃ i : Int, d = .int i ∧ i.natAbs.log2 < 1920
def rReprA (K : PySem.W.Frag) : List V → Hp → VK → Prop := fun xs H Q => ∃ x d, xs = [x] ∧ Dp K H x d ∧ TellsA d ∧ Q (.str d.shown) H
theorem k_reprA {X : Cx} {K : PySem.W.Frag} (hu : X.A.units + 64 < cLine) (hg : X.A.guards = some []) (e : X.K = K := by rfl) : CallR X (.builtin "repr") (rReprA K) := by
  intro pins s σ H xs us Q I r h
  obtain ⟨x, d, rfl, hd, ht, q⟩ := h
  rcases ht with ht | rfl | ⟨i, rfl, hi⟩
  · exact k_repr hu hg e pins s σ H [x] us Q I r ⟨x, d, rfl, hd, ht, q⟩
  · obtain ⟨u, rfl, ru⟩ := vals1 r
    cases hd
    cases ru
    exact PySem.P.repr_of_none ⟨.str _, H, I.tok _, ⟨_, rfl⟩, q⟩
  · obtain ⟨u, rfl, ru⟩ := vals1 r
    cases hd
    obtain ⟨t, rfl⟩ := ru
    exact PySem.P.repr_of_int hi ⟨.str _, H, I.tok _, ⟨_, rfl⟩, q⟩
end L2
namespace My
open PySem PySem.Spec PyProof.Rows L2
/-! ### an own error whose __init__ keeps its one argument -/
def sp_exc (C : Addr) (fld : Str) : Sp := fun vs H Q _ => ∃ (a : Addr) (w : V), vs = [.ref a, w] ∧ H a = some (exo a C none) ∧
  ∀ dx, H dx = none → dx ≠ a → Q .non (upd (upd H dx (exd dx [(fld, w)])) a (exo a C (some dx)))
structure ExcT (K : PySem.W.Frag) (mg : Str → Option Value) (name qual fld : Str) (st : Stmt) where
  C : Addr
  f : Addr
  d : FuncData
  m : mg name = some (.ref C)
  ox : OexC K C
  iC : PySem.W.findIn K (.ref C) "__init__" = some (some (.ref f))
  tI : PySem.W.typeIn K (.ref f) = some (.type "function")
  F : Fun K "__init__" qual st f d
  b : Binds K d ["self", fld] []
  nf : PySem.W.findIn K (.ref C) fld = some none
  xf : XfC K C
  te : PySem.W.exmOne K (.ref C) (.ref C) = some true
theorem exm_me {K : PySem.W.Frag} {C : Addr} (h1 : PySem.W.subIn K (.ref C) (.type "BaseException") = some true) (h2 : PySem.W.isClsIn K C = true)
    (h3 : PySem.W.typeIn K (.ref C) = some (.type "type")) (h4 : PySem.W.subIn K (.ref C) (.ref C) = some true) : PySem.W.exmOne K (.ref C) (.ref C) = some true := by
  have h2' : (PySem.W.clsIn K C).isSome = true := h2
  simp [PySem.W.exmOne, PySem.W.kitCls, h1, h2', h3, h4]
/-- what the top has written of such a class -/
def exc_mk {K : PySem.W.Frag} {h : Heap} {mg : Str → Option Value} {name qual fld : Str} {st : Stmt} (X : K.In h) (G : h.Ns mainGlobals mg) {C f : Addr} {d : FuncData} {nm q : Str} {N : Addr} {bs : List Value} {sn : List Str} {sub : List Value}
    {ab : Bool} {col : Option Bool} {dd : Option Addr} {m0 m1 m2 m3 m5 : Option Value} (F : Fun K "__init__" qual st f d) (b : Binds K d ["self", fld] [])
    (aC : PySem.W.nsIn K mainGlobals name = some (some (.ref C)))
    (xL : K.lookup C = some (excClassObj nm q C N bs [.type "ValueError", .type "Exception", .type "BaseException", .type "object"] true sn sub ab col dd m0 m1 m2 m3 m5 "ValueError.__new__"))
    (sa : PySem.W.findIn K (.ref C) "__setattr__" = some (some (.builtin "object.__setattr__")))
    (ga : PySem.W.findIn K (.ref C) "__getattribute__" = some (some (.builtin "BaseException.__getattribute__")))
    (gg : PySem.W.findIn K (.ref C) "__getattr__" = some none) (nb : PySem.W.findIn K (.ref C) fld = some none)
    (a1 : PySem.W.findIn K (.ref C) "__init__" = some (some (.ref f))) (t1 : PySem.W.typeIn K (.ref f) = some (.type "function"))
    (kC : PySem.W.keepIn K (.ref C) = true) (eC : PySem.W.subIn K (.ref C) (.type "BaseException") = some true) (tC : PySem.W.typeIn K (.ref C) = some (.type "type"))
    (hC : PySem.W.hasDictIn K C = true) (iC : PySem.W.isClsIn K C = true) (sC : PySem.W.subIn K (.ref C) (.ref C) = some true) : ExcT K mg name qual fld st where
  C := C
  f := f
  d := d
  m := PySem.W.mg_of X G aC
  ox := ⟨⟨nm, q, N, bs, _, sn, sub, ab, col, dd, m0, m1, m2, m3, m5, xL, by decide +kernel⟩, sa, eC, tC, kC⟩
  iC := a1
  tI := t1
  F := F
  b := b
  nf := nb
  xf := ⟨ga, gg, eC, hC⟩
  te := exm_me eC iC tC sC
/-- such an error made: what its maker wants -/
theorem exc_made {C : Addr} {fld : Str} {w : V} {H : Hp} {Q : XK} (k : ∀ d H', Same H H' → H' d = some (.xd [(fld, w)]) → Q (.ref C) (some d) H') :
    ∀ a, H a = none → sp_exc C fld (.ref a :: ([w] ++ [])) (upd H a (exo a C none)) (fun v H2 => v = .non ∧ ∃ (d : Addr) (fs : List (Str × V)),
      H2 a = some (exo a C (some d)) ∧ H2 d = some (exd d fs) ∧ H d = none ∧ Q (.ref C) (some d) (upd (del H2 a) d (.xd fs))) (fun _ _ _ => False) := by
  intro a ha
  refine ⟨a, w, rfl, upd_same, fun dx hdx hne => ⟨rfl, dx, [(fld, w)], upd_same, by rw [upd_ne hne, upd_same], ?_, ?_⟩⟩
  · rw [upd_ne hne] at hdx
    exact hdx
  · rw [upd_ne hne] at hdx
    refine k dx _ (fun b o q => ?_) upd_same
    have b1 := ne_of_none q ha
    have b2 := ne_of_none q hdx
    rw [upd_ne b2, del_ne b1, upd_ne b1, upd_ne b2, upd_ne b1]
    exact q
/-! ### things of many kinds -/
inductive Dt where
  | int (i : Int)
  | oth (n : String)
  | tup (ds : List Dt)
def tyOf : Dt → String
  | .int _ => "int"
  | .oth n => n
  | .tup _ => "tuple"
mutual
/-- v is a thing d; lists and dicts in it lie at allowed places -/
inductive Rp (K : PySem.W.Frag) (H : Hp) (ok : Addr → Prop) : V → Dt → Prop
  | int (i : Int) (h : i.natAbs < 10 ^ 40) : Rp K H ok (.int i) (.int i)
  | bl (b : Bool) : Rp K H ok (.bl b) (.oth "bool")
  | non : Rp K H ok .non (.oth "NoneType")
  | str (x : Str) : Rp K H ok (.str x) (.oth "str")
  | lst {a : Addr} {xs : List V} (h : H a = some (.lst xs)) (ho : ok a) : Rp K H ok (.ref a) (.oth "list")
  | dct {a : Addr} {kvs : List (Key × V)} (h : H a = some (.dK kvs)) (ho : ok a) : Rp K H ok (.ref a) (.oth "dict")
  | tup {a : Addr} {xs : List V} {ds : List Dt} (h : SqT K H a xs) (hx : RpAll K H ok xs ds) : Rp K H ok (.ref a) (.tup ds)
inductive RpAll (K : PySem.W.Frag) (H : Hp) (ok : Addr → Prop) : List V → List Dt → Prop
  | nil : RpAll K H ok [] []
  | cons {v : V} {vs : List V} {d : Dt} {ds : List Dt} (h : Rp K H ok v d) (r : RpAll K H ok vs ds) : RpAll K H ok (v :: vs) (d :: ds)
end
variable {K : PySem.W.Frag} {H H' : Hp} {ok ok' : Addr → Prop}
mutual
theorem Rp.keep (tk : TK K H H') (kp : ∀ a o, ok a → H a = some o → H' a = some o) (oo : ∀ a o, H a = some o → ok a → ok' a) : ∀ (d : Dt) (v : V), Rp K H ok v d → Rp K H' ok' v d
  | .int i, _, h => by
    cases h with
    | int _ h => exact .int i h
  | .oth _, _, h => by
    cases h with
    | bl b => exact .bl b
    | non => exact .non
    | str x => exact .str x
    | lst h ho => exact .lst (kp _ _ ho h) (oo _ _ h ho)
    | dct h ho => exact .dct (kp _ _ ho h) (oo _ _ h ho)
  | .tup ds, _, h => by
    cases h with
    | tup h hx => exact .tup (tk _ _ h) (RpAll.keep tk kp oo ds _ hx)
theorem RpAll.keep (tk : TK K H H') (kp : ∀ a o, ok a → H a = some o → H' a = some o) (oo : ∀ a o, H a = some o → ok a → ok' a) : ∀ (ds : List Dt) (vs : List V), RpAll K H ok vs ds → RpAll K H' ok' vs ds
  | [], _, h => by
    cases h
    exact .nil
  | d :: r, _, h => by
    cases h with
    | cons h1 h2 => exact .cons (Rp.keep tk kp oo d _ h1) (RpAll.keep tk kp oo r _ h2)
end
theorem Rp.same {v : V} {d : Dt} (h : Rp K H ok v d) (e : Same H H') : Rp K H' ok v d := Rp.keep (Same.tk e) (fun a o _ q => e a o q) (fun _ _ _ q => q) d v h
theorem RpAll.same {vs : List V} {ds : List Dt} (h : RpAll K H ok vs ds) (e : Same H H') : RpAll K H' ok vs ds := RpAll.keep (Same.tk e) (fun a o _ q => e a o q) (fun _ _ _ q => q) ds vs h
theorem Rp.any {v : V} {d : Dt} (h : Rp K H ok v d) : Rp K H (fun _ => True) v d := Rp.keep TK.refl (fun _ _ _ q => q) (fun _ _ _ _ => trivial) d v h
theorem RpAll.len : ∀ {vs : List V} {ds : List Dt}, RpAll K H ok vs ds → vs.length = ds.length
  | _, _, .nil => rfl
  | _, _, .cons _ h => by simp [RpAll.len h]
theorem RpAll.get : ∀ {vs : List V} {ds : List Dt} {i : Nat} {v : V}, RpAll K H ok vs ds → vs[i]? = some v → ∃ d, ds[i]? = some d ∧ Rp K H ok v d
  | _, _, _, _, .nil, h => by cases h
  | _, _, 0, _, .cons h1 _, h => by
    cases h
    exact ⟨_, rfl, h1⟩
  | _, _, i + 1, _, .cons _ h2, h => RpAll.get (i := i) h2 h
theorem RpAll.app : ∀ {vs us : List V} {ds es : List Dt}, RpAll K H ok vs ds → RpAll K H ok us es → RpAll K H ok (vs ++ us) (ds ++ es)
  | _, _, _, _, .nil, h => h
  | _, _, _, _, .cons h1 h2, h => .cons h1 (RpAll.app h2 h)
theorem RpAll.take : ∀ {vs : List V} {ds : List Dt} (n : Nat), RpAll K H ok vs ds → RpAll K H ok (vs.take n) (ds.take n)
  | _, _, 0, _ => .nil
  | _, _, _ + 1, .nil => .nil
  | _, _, n + 1, .cons h1 h => .cons h1 (RpAll.take n h)
theorem RpAll.drop : ∀ {vs : List V} {ds : List Dt} (n : Nat), RpAll K H ok vs ds → RpAll K H ok (vs.drop n) (ds.drop n)
  | _, _, 0, h => h
  | _, _, _ + 1, .nil => .nil
  | _, _, n + 1, .cons _ h => RpAll.drop n h
theorem RpAll.rep {vs : List V} {ds : List Dt} (h : RpAll K H ok vs ds) : ∀ k : Nat, RpAll K H ok (List.replicate k vs).flatten (List.replicate k ds).flatten
  | 0 => .nil
  | k + 1 => by
    rw [List.replicate_succ, List.replicate_succ, List.flatten_cons, List.flatten_cons]
    exact h.app (RpAll.rep h k)
theorem Rp.ty {v : V} {d : Dt} (h : Rp K H ok v d) : TyX K H v (.type (tyOf d)) := by
  cases h with
  | int i _ => exact .base (.int i)
  | bl b => exact .base (.bl b)
  | non => exact .base .non
  | str x => exact .base (.str x)
  | lst h _ => exact .base (.lst h)
  | dct h _ => exact .base (.dK h)
  | tup h _ => exact h.ty
def isTup : Dt → Bool
  | .tup _ => true
  | _ => false
def isNum : Dt → Bool
  | .int _ => true
  | _ => false
theorem Rp.kitTup {v : V} {d : Dt} (h : Rp K H ok v d) : PySem.W.kitOne K (.type (tyOf d)) (.type "tuple") = some (isTup d) := by
  cases h
  · exact (kit_ty (a := "int") (b := "tuple") (r := false) (by decide +kernel))
  · exact (kit_ty (a := "bool") (b := "tuple") (r := false) (by decide +kernel))
  · exact (kit_ty (a := "NoneType") (b := "tuple") (r := false) (by decide +kernel))
  · exact (kit_ty (a := "str") (b := "tuple") (r := false) (by decide +kernel))
  · exact (kit_ty (a := "list") (b := "tuple") (r := false) (by decide +kernel))
  · exact (kit_ty (a := "dict") (b := "tuple") (r := false) (by decide +kernel))
  · exact (kit_ty (a := "tuple") (b := "tuple") (r := true) (by decide +kernel))
theorem Rp.kitInt {v : V} {d : Dt} (h : Rp K H ok v d) : ∃ b1 b2, PySem.W.kitOne K (.type (tyOf d)) (.type "int") = some b1 ∧ PySem.W.kitOne K (.type (tyOf d)) (.type "bool") = some b2 ∧ (b1 && !b2) = isNum d := by
  cases h
  · exact ⟨true, false, (kit_ty (a := "int") (b := "int") (by decide +kernel)), (kit_ty (a := "int") (b := "bool") (by decide +kernel)), rfl⟩
  · exact ⟨true, true, (kit_ty (a := "bool") (b := "int") (by decide +kernel)), (kit_ty (a := "bool") (b := "bool") (by decide +kernel)), rfl⟩
  · exact ⟨false, false, (kit_ty (a := "NoneType") (b := "int") (by decide +kernel)), (kit_ty (a := "NoneType") (b := "bool") (by decide +kernel)), rfl⟩
  · exact ⟨false, false, (kit_ty (a := "str") (b := "int") (by decide +kernel)), (kit_ty (a := "str") (b := "bool") (by decide +kernel)), rfl⟩
  · exact ⟨false, false, (kit_ty (a := "list") (b := "int") (by decide +kernel)), (kit_ty (a := "list") (b := "bool") (by decide +kernel)), rfl⟩
  · exact ⟨false, false, (kit_ty (a := "dict") (b := "int") (by decide +kernel)), (kit_ty (a := "dict") (b := "bool") (by decide +kernel)), rfl⟩
  · exact ⟨false, false, (kit_ty (a := "tuple") (b := "int") (by decide +kernel)), (kit_ty (a := "tuple") (b := "bool") (by decide +kernel)), rfl⟩
theorem Rp.tuple {v : V} {ds : List Dt} (h : Rp K H ok v (.tup ds)) : ∃ a xs, v = .ref a ∧ SqT K H a xs ∧ RpAll K H ok xs ds := by
  cases h with
  | tup h hx => exact ⟨_, _, rfl, h, hx⟩
/-! ### what is wrong of things -/
def badLoop : Dt → Bool
  | .tup ds => !(decide (1 ≤ ds.length) && decide (ds.length ≤ 64))
  | _ => true
def badNum (d : Dt) : Bool := !isNum d
def firstBad : Dt → Option Nat
  | .tup xs => xs.findIdx? badNum
  | _ => none
def faultOf : Dt → Option (List Nat)
  | .tup ds => if 6 < ds.length then some [] else match ds.findIdx? badLoop with
    | some k => some [k]
    | none => match ds.findIdx? (fun d => (firstBad d).isSome) with
      | some k => some [k, ((ds[k]?).bind firstBad).getD 0]
      | none => none
  | _ => some []
theorem fi_some {p : Dt → Bool} : ∀ {xs : List Dt} {i : Nat} {x : Dt}, xs[i]? = some x → p x = true → (∀ (j : Nat) (y : Dt), j < i → xs[j]? = some y → p y = false) → xs.findIdx? p = some i
  | [], i, x, h, _, _ => by simp at h
  | a :: r, 0, x, h, hp, _ => by
    simp at h
    subst h
    simp [List.findIdx?_cons, hp]
  | a :: r, i + 1, x, h, hp, hb => by
    have h0 := hb 0 a (Nat.succ_pos i) rfl
    have ih := fi_some (p := p) (xs := r) (i := i) (x := x) h hp fun j y hj hy => hb (j + 1) y (Nat.succ_lt_succ hj) hy
    simp [List.findIdx?_cons, h0, ih]
theorem fi_none {p : Dt → Bool} : ∀ {xs : List Dt}, (∀ (j : Nat) (y : Dt), xs[j]? = some y → p y = false) → xs.findIdx? p = none
  | [], _ => rfl
  | a :: r, hb => by
    have h0 := hb 0 a rfl
    have ih := fi_none (p := p) (xs := r) fun j y hy => hb (j + 1) y hy
    simp [List.findIdx?_cons, h0, ih]
abbrev placeD (p : List Nat) : PyData := dInts (p.map fun n : Nat => (n : Int))
/-! ### things cut and put together -/
def cutT (ds : List Dt) (lo hi : Option Int) : List Dt := (ds.drop (HT.sIx ds.length 0 lo)).take (HT.sIx ds.length ds.length hi - HT.sIx ds.length 0 lo)
theorem rd_cutR {v : V} {ds : List Dt} {lo hi : Option Int} {Q : VK} (h : Rp K H ok v (.tup ds)) (k : ∀ w H', Same H H' → Rp K H' ok w (.tup (cutT ds lo hi)) → Q w H') : rSlA K v lo hi H Q := by
  obtain ⟨a, xs, rfl, hT, hX⟩ := h.tuple
  have hl := hX.len
  have hc : RpAll K H ok (cutV xs lo hi) (cutT ds lo hi) := by
    unfold cutV cutT
    rw [← hl]
    exact (hX.drop _).take _
  refine ⟨a, xs, rfl, hT, fun w => ?_, fun _ p hp => ?_⟩
  · refine k _ H (Same.refl H) (.tup hT ?_)
    have e : cutV xs lo hi = xs := by
      unfold cutV
      rw [w.1, w.2, List.drop_zero, Nat.sub_zero, List.take_length]
    rw [e] at hc
    exact hc
  · exact k _ _ (same_upd hp _) (.tup (SqT.of upd_same) (hc.same (same_upd hp _)))
theorem rd_catR {v u : V} {ds es : List Dt} {Q : VK} (h1 : Rp K H ok v (.tup ds)) (h2 : Rp K H ok u (.tup es)) (hz : ds.length + es.length ≤ sizeLine)
    (k : ∀ w H', Same H H' → Rp K H' ok w (.tup (ds ++ es)) → Q w H') : rCatA K v u H Q := by
  obtain ⟨a, xs, rfl, hT, hX⟩ := h1.tuple
  obtain ⟨b, ys, rfl, hU, hY⟩ := h2.tuple
  have l1 := hX.len
  have l2 := hY.len
  refine ⟨a, b, xs, ys, rfl, rfl, hT, hU, by rw [l1, l2]; exact hz, fun e => ?_, fun _ e => ?_, fun _ _ p hp => ?_⟩
  · subst e
    cases hX
    exact k _ H (Same.refl H) (.tup hU hY)
  · subst e
    cases hY
    rw [List.append_nil] at k
    exact k _ H (Same.refl H) (.tup hT hX)
  · exact k _ _ (same_upd hp _) (.tup (SqT.of upd_same) ((hX.app hY).same (same_upd hp _)))
theorem rd_repR {v : V} {ds : List Dt} {n : Int} {Q : VK} (h : Rp K H ok v (.tup ds)) (hz : ds.length ≤ 1000) (h0 : -1000 ≤ n) (h1 : n ≤ 1000)
    (k : ∀ w H', Same H H' → Rp K H' ok w (.tup (List.replicate n.toNat ds).flatten) → Q w H') : rRepA K v (.int n) H Q := by
  obtain ⟨a, xs, rfl, hT, hX⟩ := h.tuple
  have hl := hX.len
  refine ⟨a, n, xs, rfl, rfl, hT, h0, h1, by omega, fun w => ?_, fun _ p hp => ?_⟩
  · refine k _ H (Same.refl H) (.tup hT ?_)
    rcases w with w | w
    · subst w
      cases hX
      have e : (List.replicate n.toNat ([] : List Dt)).flatten = [] := by simp
      rw [e]
      exact .nil
    · subst w
      have e : (List.replicate (1 : Int).toNat ds).flatten = ds := by
        show (List.replicate 1 ds).flatten = ds
        simp
      rw [e]
      exact hX
  · exact k _ _ (same_upd hp _) (.tup (SqT.of upd_same) ((hX.rep _).same (same_upd hp _)))
theorem cutT_to (xs : List Dt) {i : Int} (h : 0 ≤ i) : cutT xs none (some i) = xs.take i.toNat := by
  have e : i = ((i.toNat : Nat) : Int) := by omega
  rw [e]
  unfold cutT
  rw [HT.sIx_none, HT.sIx_nat, List.drop_zero, Nat.sub_zero, Int.toNat_natCast]
  by_cases h : i.toNat ≤ xs.length
  · rw [Nat.min_eq_left h]
  · rw [Nat.min_eq_right (by omega), List.take_length, List.take_of_length_le (by omega)]
theorem cutT_from (xs : List Dt) {i : Int} (h : 0 ≤ i) (h2 : i ≤ (xs.length : Int)) : cutT xs (some i) none = xs.drop i.toNat := by
  have e : i = ((i.toNat : Nat) : Int) := by omega
  rw [e]
  unfold cutT
  rw [HT.sIx_none, HT.sIx_nat, Int.toNat_natCast, Nat.min_eq_left (by omega), List.take_of_length_le (by rw [List.length_drop]; omega)]
/-- a new tuple of things -/
theorem Rp.new {a : Addr} {xs : List V} {ds : List Dt} (hp : H a = none) (h : RpAll K H ok xs ds) : Rp K (upd H a (.tup xs)) ok (.ref a) (.tup ds) := .tup (SqT.of upd_same) (h.same (same_upd hp _))
/-- loops are things -/
def loopsT (ls : List (List Int)) : List Dt := ls.map fun l => .tup (l.map Dt.int)
theorem ints_rp : ∀ {ns : List Int}, (∀ z ∈ ns, z.natAbs < 10 ^ 40) → RpAll K H ok (ns.map V.int) (ns.map Dt.int)
  | [], _ => .nil
  | n :: r, h => .cons (.int n (h n List.mem_cons_self)) (ints_rp fun z hz => h z (List.mem_cons_of_mem _ hz))
theorem loops_rp : ∀ {ls : List (List Int)} {xs : List V}, DpAll K H xs (ls.map dInts) → (∀ l ∈ ls, ∀ z ∈ l, z.natAbs < 10 ^ 40) → RpAll K H ok xs (loopsT ls)
  | [], _, h, _ => by
    cases h
    exact .nil
  | l :: r, _, h, hz => by
    cases h with
    | cons h1 h2 =>
      obtain ⟨a, rfl, hT⟩ := h1.ints
      exact .cons (.tup hT (ints_rp (hz l List.mem_cons_self))) (loops_rp h2 fun l hl => hz l (List.mem_cons_of_mem _ hl))
/-- things that are only ints are ints -/
theorem nums_of : ∀ {ds : List Dt} {xs : List V}, RpAll K H ok xs ds → ds.findIdx? badNum = none → ∃ ns : List Int, xs = ns.map V.int ∧ (∀ z ∈ ns, z.natAbs < 10 ^ 40) ∧ ns.length = ds.length
  | [], _, h, _ => by
    cases h
    exact ⟨[], rfl, (by intro z hz; cases hz), rfl⟩
  | d :: r, _, h, hf => by
    cases h with
    | cons h1 h2 =>
      rw [List.findIdx?_cons] at hf
      cases eb : badNum d with
      | true =>
        rw [eb] at hf
        simp at hf
      | false =>
        rw [eb] at hf
        have hf' : r.findIdx? badNum = none := by
          cases q : r.findIdx? badNum with
          | none => rfl
          | some j =>
            rw [q] at hf
            simp at hf
        obtain ⟨ns, rfl, hz, hl⟩ := nums_of h2 hf'
        cases h1 with
        | int i hi =>
          refine ⟨i :: ns, rfl, ?_, by simp [hl]⟩
          intro z hz'
          rcases List.mem_cons.mp hz' with q | q
          · rw [q]
            exact hi
          · exact hz z q
        | bl b => cases eb
        | non => cases eb
        | str x => cases eb
        | lst _ _ => cases eb
        | dct _ _ => cases eb
        | tup _ _ => cases eb
/-- an if whose test is known in part -/
theorem if_cut {c : TT} {t u w : TS} {D : Ends} {σ : L2.St} {H : Hp} (R : Bool → Hp → Prop) (h : ∀ Q' : Bool → Hp → Prop, (∀ b H', R b H' → Q' b H') → c σ H Q')
    (k1 : ∀ H', R true H' → t { D with nx := w D } σ H') (k2 : ∀ H', R false H' → u { D with nx := w D } σ H') : tSeq (tIfS c t u) w D σ H := by
  refine h _ fun b H' r => ?_
  cases b with
  | true => exact iteT (k1 H' r)
  | false => exact iteF (k2 H' r)
/-- places that are no part of the draws' state -/
abbrev off (H : Hp) (m : Addr) : Addr → Prop := fun a => a ≠ m ∧ ¬ Lf H m a
theorem Rp.ef {K : PySem.W.Frag} {H H' : Hp} {m : Addr} {n : Nat} (M : MS H m n) (e : Ef m H H') {v : V} {d : Dt} (h : Rp K H (off H m) v d) : Rp K H' (off H' m) v d := by
  refine Rp.keep (e.tk M) (fun a o q z => e.keep a o z q.1 q.2) (fun a o z q => ⟨q.1, fun w => ?_⟩) d v h
  rcases e.new a w with r | r
  · exact q.2 r
  · rw [z] at r
    cases r
theorem noLf_same {B H : Hp} {m a : Addr} {n : Nat} (M : MS B m n) (s : Same B H) (q : ¬ Lf B m a) : ¬ Lf H m a := fun w => q (by
  obtain ⟨c, l, M0⟩ := M
  obtain ⟨kvs, k, h1, h2⟩ := w
  rw [s _ _ M0.dk] at h1
  cases h1
  exact ⟨_, k, M0.dk, h2⟩)
/-- from a base, behind steps that only lay new things, and draws -/
theorem RpAll.out {K : PySem.W.Frag} {B H H' : Hp} {m : Addr} {n n' : Nat} (MB : MS B m n) (s : Same B H) (M : MS H m n') (e : Ef m H H') {vs : List V} {ds : List Dt} (h : RpAll K H (off B m) vs ds) : RpAll K H' (off H' m) vs ds := by
  have noL : ∀ a, ¬ Lf B m a → ¬ Lf H m a := fun a q w => q (by
    obtain ⟨c, l, M0⟩ := MB
    obtain ⟨kvs, k, h1, h2⟩ := w
    rw [s _ _ M0.dk] at h1
    cases h1
    exact ⟨_, k, M0.dk, h2⟩)
  refine RpAll.keep (e.tk M) (fun a o q z => e.keep a o z q.1 (noL a q.2)) (fun a o z q => ⟨q.1, fun w => ?_⟩) ds vs h
  rcases e.new a w with r | r
  · exact noL a q.2 r
  · rw [z] at r
    cases r
theorem off_new {B H : Hp} {m p : Addr} {n : Nat} (M : MS B m n) (s : Same B H) (hp : H p = none) : off B m p := by
  have b := s.free hp
  refine ⟨fun z => ?_, M.notLf b⟩
  obtain ⟨c, l, M0⟩ := M
  rw [z, M0.dk] at b
  cases b
theorem pickR {K : PySem.W.Frag} {H : Hp} {ok : Addr → Prop} {vs : List V} {ds : List Dt} {r : Int} (h : RpAll K H ok vs ds) (h0 : 0 ≤ r) (h1 : r < (ds.length : Int)) :
    ∃ v d, atI vs r = some v ∧ d ∈ ds ∧ Rp K H ok v d ∧ vs[r.toNat]? = some v ∧ ds[r.toNat]? = some d := by
  have hl := h.len
  have hr : r.toNat < vs.length := by omega
  obtain ⟨d, hd, hR⟩ := h.get (List.getElem?_eq_getElem hr)
  exact ⟨_, d, at_of (j := r.toNat) (by omega) (List.getElem?_eq_getElem hr), List.mem_of_getElem? hd, hR, List.getElem?_eq_getElem hr, hd⟩
theorem Rp.ef' {K : PySem.W.Frag} {B H : Hp} {m : Addr} {n : Nat} {v : V} {d : Dt} (h : Rp K H (off B m) v d) (M : MS B m n) (s : Same B H) : Rp K H (off H m) v d :=
  Rp.keep TK.refl (fun _ _ _ q => q) (fun a o _ q => ⟨q.1, noLf_same M s q.2⟩) d v h
theorem Rp.keep2 {K : PySem.W.Frag} {B H H' : Hp} {m : Addr} {n : Nat} {v : V} {d : Dt} (h : Rp K H (off B m) v d) (M : MS B m n) (s : Same B H') (s2 : Same H H' := by assumption) : Rp K H' (off H' m) v d :=
  (h.same s2).ef' M s
end My

/-! {f for x in xs for y in ys}, whole numbers; len of such a set. -/
namespace L2
open PySem PySem.Spec PyProof.Rows
/-- a set comprehension of two clauses without tests -/
abbrev twoFor (f a0 b0 a1 b1 : Expr) (sc : Scope) (ps : Pos) : Expr := .SetComp f [⟨a0, b0, [], 0⟩, ⟨a1, b1, [], 0⟩] sc ps
def turnBy (p : Pos) (tgt : Expr) (en : Env) (src : Value) (rest : Sem Fin) : Sem Fin := do
  standAt p
  match ← pyNext src with
  | none => pure (.done .next)
  | some v => do
    letOwnedTupleGo tgt src v
    assign tgt en v
    rest
section
variable {P : Program} {w : World} {A : Around} {R : Result → Shared → Prop} {f a0 b0 a1 b1 : Expr} {sc : Scope} {ps : Pos} {src D : Value} {en : Env}
def inner (f a0 b0 a1 b1 : Expr) (sc : Scope) (ps : Pos) (src D : Value) (en : Env) : Sem Fin := do
  let x ← eval b1 en
  standAt b1.pos
  let x ← foldedSetIterable b1 en x
  let _ ← runOwn (.compStart (twoFor f a0 b0 a1 b1 sc ps) 1 (← holding [x] (pyIter x)) D en) en
  again (.compLoop (twoFor f a0 b0 a1 b1 sc ps) 0 src D en)
def added (f a0 b0 a1 b1 : Expr) (sc : Scope) (ps : Pos) (src D : Value) (en : Env) : Sem Fin := do
  (do let v ← eval f en; standAt f.pos; let _ ← call (.builtin "set.add") [D, v])
  again (.compLoop (twoFor f a0 b0 a1 b1 sc ps) 1 src D en)
theorem turn0_eq : compTurn (twoFor f a0 b0 a1 b1 sc ps) 0 src D en = turnBy b0.pos a0 en src (inner f a0 b0 a1 b1 sc ps src D en) := by rfl
theorem turn1_eq : compTurn (twoFor f a0 b0 a1 b1 sc ps) 1 src D en = turnBy b1.pos a1 en src (added f a0 b0 a1 b1 sc ps src D en) := by rfl
abbrev Hurt (P : Program) (w : World) (A : Around) (R : Result → Shared → Prop) (en : Env) : Value → Shared → Prop := notedBy (model P w) A en fun x s' => R (.error x) s'
abbrev Goes2 (R : Result → Shared → Prop) (c : Code) (J : Nat → Shared → Prop) (n : Nat) : Fin → Shared → Prop := fun fin s' => match fin with
  | .done z => R (.ok z) s'
  | .again c' => c' = c ∧ ∃ m, m < n ∧ J m s'
theorem loopBy {k : Nat} {p : Pos} {tgt : Expr} {rest : Sem Fin} {s : Shared} (e : compTurn (twoFor f a0 b0 a1 b1 sc ps) k src D en = turnBy p tgt en src rest) (J : Nat → Shared → Prop)
    (turn : ∀ n s, J n s → wpAny (model P w) A (pyNext src) (fun r s1 => match r with
      | none => R (.ok .next) s1
      | some v => wpAny (model P w) A (letOwnedTupleGo tgt src v) (fun _ s2 => wpAny (model P w) A (assign tgt en v) (fun _ s3 =>
          wpAny (model P w) A rest (Goes2 R (.compLoop (twoFor f a0 b0 a1 b1 sc ps) k src D en) J n) (Hurt P w A R en) s3) (Hurt P w A R en) s2) (Hurt P w A R en) s1) (Hurt P w A R en) s)
    (n : Nat) (h : J n s) : codeAny (model P w) A (.compLoop (twoFor f a0 b0 a1 b1 sc ps) k src D en) R s := by
  refine codeAny_loop rfl J (fun n s hJ => ?_) n h
  show wpAny _ A ((compTurn _ k src D en).onRaise _) _ _ s
  refine wpAny_noted ?_
  rw [e]
  unfold turnBy
  refine wpAny_bind (wpAny_standAt (wpAny_bind (wpAny_mono (turn n s hJ) (fun r s1 h1 => ?_) fun _ _ z => z)))
  cases r with
  | none => exact wpAny_pure h1
  | some v => exact wpAny_bind (wpAny_mono h1 (fun _ s2 h2 => wpAny_bind (wpAny_mono h2 (fun _ s3 h3 => h3) fun _ _ z => z)) fun _ _ z => z)
theorem inner_ok {n : Nat} {J : Nat → Shared → Prop} {s : Shared} (hs : ∀ x, foldedSetIterable b1 en x = pure x)
    (h : wpAny (model P w) A (eval b1 en) (fun x s1 => wpAny (model P w) A (pyIter x) (fun i1 s2 =>
      codeAny (model P w) A (.compStart (twoFor f a0 b0 a1 b1 sc ps) 1 i1 D en) (fun r s' => match r with
        | .ok _ => ∃ m, m < n ∧ J m s'
        | .error _ => False) s2) (Hurt P w A R en) s1) (Hurt P w A R en) s) :
    wpAny (model P w) A (inner f a0 b0 a1 b1 sc ps src D en) (Goes2 R (.compLoop (twoFor f a0 b0 a1 b1 sc ps) 0 src D en) J n) (Hurt P w A R en) s := by
  unfold inner
  refine wpAny_bind (wpAny_mono h (fun x s1 h1 => ?_) fun _ _ z => z)
  refine wpAny_bind (wpAny_standAt (wpAny_bind (wpAny_of_eq (hs x) ?_)))
  refine wpAny_bind (wpAny_holding (wpAny_mono h1 (fun i1 s2 h2 => ?_) fun _ _ z => z))
  refine wpAny_bind (wpAny_runOwn ?_)
  rw [Around.mark_none]
  refine codeAny_mono h2 fun r s' hr => ?_
  cases r with
  | ok z =>
    first
      | exact wpAny_pure ⟨rfl, hr⟩
      | exact wpAny_bind (wpAny_pure (wpAny_pure ⟨rfl, hr⟩))
  | error z => exact hr.elim
theorem added_ok {n : Nat} {J : Nat → Shared → Prop} {s : Shared}
    (h : wpAny (model P w) A (eval f en) (fun x s1 => wpAny (model P w) A (call (.builtin "set.add") [D, x]) (fun _ s2 => ∃ m, m < n ∧ J m s2) (Hurt P w A R en) s1) (Hurt P w A R en) s) :
    wpAny (model P w) A (added f a0 b0 a1 b1 sc ps src D en) (Goes2 R (.compLoop (twoFor f a0 b0 a1 b1 sc ps) 1 src D en) J n) (Hurt P w A R en) s := by
  unfold added
  refine wpAny_bind (wpAny_bind (wpAny_mono h (fun x s1 h1 => ?_) fun _ _ z => z))
  refine wpAny_bind (wpAny_standAt (wpAny_bind (wpAny_mono h1 (fun _ s2 h2 => ?_) fun _ _ z => z)))
  exact wpAny_pure (wpAny_pure ⟨rfl, h2⟩)
/-- where clause k starts -/
theorem started {k : Nat} {b : Expr} {s : Shared} (hk : (clausesOf (twoFor f a0 b0 a1 b1 sc ps))[k]? = some ⟨a0, b, [], 0⟩ ∨ (clausesOf (twoFor f a0 b0 a1 b1 sc ps))[k]? = some ⟨a1, b, [], 0⟩)
    (h0 : codeAny (model P w) A (.compLoop (twoFor f a0 b0 a1 b1 sc ps) k src D en) R s)
    (h : wpAny (model P w) A (pyIter src) (fun i s' => codeAny (model P w) A (.compLoop (twoFor f a0 b0 a1 b1 sc ps) k i D en) R s') (Hurt P w A R en) s) :
    codeAny (model P w) A (.compStart (twoFor f a0 b0 a1 b1 sc ps) k src D en) R s := by
  refine codeAny_of_tree ?_
  show wpAny _ _ ((compStart _ k src D en).onRaise _) _ _ s
  refine wpAny_notedAt ?_
  unfold compStart
  have hq : (((clausesOf (twoFor f a0 b0 a1 b1 sc ps))[k]?).elim false (·.is_async != 0)) = false := by
    rcases hk with z | z <;> rw [z] <;> rfl
  rw [hq]
  show wpAny _ _ (ask >>= _) _ _ s
  refine wpAny_bind (wpAny_askSetting (wpAny_ite ?_))
  split
  · first
      | exact wpAny_bind (wpAny_pure (wpAny_pure (And.intro rfl h0)))
      | exact wpAny_pure (And.intro rfl h0)
  · refine wpAny_bind (wpAny_rule ?_)
    rcases hk with z | z <;> rw [z]
    · exact wpAny_bind (wpAny_standAt (wpAny_bind (wpAny_mono h (fun i s' h' => wpAny_pure (And.intro rfl h')) fun _ _ x => x)))
    · exact wpAny_bind (wpAny_standAt (wpAny_bind (wpAny_mono h (fun i s' h' => wpAny_pure (And.intro rfl h')) fun _ _ x => x)))
end
end L2

/-! {f for x in xs for y in ys}: the rule. -/
namespace L2
open PySem PySem.Spec PyProof.Rows
def putI (w : World) (H : Hp) (D : Addr) (S : Int → Bool) (n : Nat) (c : Int) : Hp := upd H D (SetO w D (fun j => S j || decide (j = c)) (if S c = true then n else n + 1))
abbrev noneI (w : World) (H : Hp) (D : Addr) : Hp := upd H D (SetO w D (fun _ => false) 0)
/-- a walk: Wk is what holds ahead of each turn; stop, and step, which leads to the next -/
def Wlk (J : It) (St : Hp → Prop) (Go : (Hp → Prop) → V → Hp → Prop) (H0 : Hp) : Prop := ∃ Wk : Nat → Nat → Hp → Prop, (∃ m, Wk 0 m H0) ∧ ∀ i m H, Wk i m H →
  (J.stop i H ∧ St H) ∨ (J.go i H ∧ ∃ Nx : Hp → Prop, (∀ H', Nx H' → ∃ m', m' < m ∧ Wk (i + 1) m' H') ∧ ∀ x H', J.yld i H x H' → Go Nx x H')
def tSc2 (w : World) (wa : TI) (ga : TG) (wb : TI) (gb : TG) (tf : TE) (vs us : List Nat) : TE := fun σ H Q => wa σ H fun J H1 => ∀ D, H1 D = none →
  Wlk J (fun H => Q (.ref D) H) (fun Nx x H => ga x (wipe σ vs) H fun σ2 H2 => wipe σ2 vs = wipe σ vs ∧ wb σ2 H2 fun J1 H4 =>
    Wlk J1 Nx (fun Nx1 x1 H => gb x1 (wipe σ2 us) H fun σ3 H5 => wipe σ3 us = wipe σ2 us ∧ tf σ3 H5 fun y H7 =>
      ∃ (c : Int) (S : Int → Bool) (n : Nat), y = .int c ∧ H7 D = some (SetO w D S n) ∧ n + 1 < scanBound ∧ Nx1 (putI w H7 D S n c)) H4) (noneI w H1 D)
section
variable {X : Cx}
theorem addI_ok {pins : List (Addr × Obj)} {σ : St} {H : Hp} {s : Shared} {E : Value → Shared → Prop} {D : Addr} {S : Int → Bool} {n : Nat} {c : Int} {v : Value} {Q : Value → Shared → Prop} (I : Inv X pins σ H s) (hD : H D = some (SetO X.w D S n)) (hr : n + 1 < scanBound) (rv : RelV (.int c) v)
    (h : ∀ s', Inv X pins σ (putI X.w H D S n c) s' → Q .none s') : wpAny (model X.prog X.w) X.A (call (.builtin "set.add") [.ref D, v]) Q E s := by
  obtain ⟨tk, rfl⟩ := rv
  refine setR_add (setO_get I hD) hr fun g sb new => ?_
  have he : ∃ u, g.get? D = some u := let ⟨o, _, _, _, ho, _⟩ := new; ⟨o, ho⟩
  exact h _ (I.write (e := D) (t' := s.toks + 1) (by rw [hD]; trivial) (.inl rfl) (fun b u hb z => (sb.2 b hb).trans z) he (setO_new new))
variable {pins : List (Addr × Obj)} {s : Shared} {σ : St} {H : Hp} {Q : VK} {f ta sa tb sb : Expr} {sc : Scope} {own : List (Str × Nat)} {us : List Nat} {ps : Pos} {wa wb : TI} {ga gb : TG} {tf : TE}
/-- what is asked of a part within the block -/
abbrev InBlk (X : Cx) (sc : Scope) (p : Cx → Prop) : Prop := ∀ (s : Shared) (H : Hp) (C : Addr) (cl : List (Str × Addr)) (fp : List Addr), p (X.blk s H sc (compEnvC sc cl C X.env) fp)
theorem pe_sc2 (hc : X.calm = true) (hN : X.N.Nodup) (hi : PI X ta sa wa) (ok : BlkOk X.N X.env.scope sc own) (hv : ∀ i ∈ us, i ∈ own.map (·.2))
    (hga : InBlk X sc fun Y => PG Y ta ga) (hib : InBlk X sc fun Y => PI Y tb sb wb) (hgb : InBlk X sc fun Y => PG Y tb gb) (hf : InBlk X sc fun Y => PE Y f tf)
    (fa : ∀ x, foldedSetIterable sa X.env x = pure x := by intro _; rfl) (fb : ∀ en x, foldedSetIterable sb en x = pure x := by intro _ _; rfl) :
    PE X (twoFor f ta sa tb sb sc ps) (tSc2 X.w wa ga wb gb tf (own.map (·.2)) us) := by
  refine ⟨fun pins s σ H Q I h => ?_⟩
  rw [PpSet.eval_SetComp]
  have free : ∀ y ∈ sc.names, y.2 = .free → ∃ c, X.env.cells.lookup y.1 = some c := fun y hy e => (ok.free y hy e).elim (fun z => I.ok.has _ (.inl z)) (fun z => I.ok.has _ (.inr z))
  refine wpAny_comprehension_free (use := none) rfl fa (closure_ok free) ok.kind (fun y hy e => by rw [ok.uniq y hy, e]) ?_
  refine thn (hi.run pins s σ H _ I h) fun xv s1 hx => thn hx fun itv s2 h2 => ?_
  obtain ⟨it, fp, tn, J, H2, rfl, I2, T, st2, f2, q⟩ := h2
  refine PpSet.newSet_ok (newEnv_comp ?_)
  generalize hD : s2.heap.objs.size = D
  obtain ⟨Wk, ⟨m0, w0⟩, turn⟩ := q D (I2.hok.fresh (Nat.le_of_eq hD))
  -- the set is laid, then the block begins
  generalize es3 : ({ s2 with heap := s2.heap.push { cls := .type "set", dict := none, data := .set #[] 0 (.fresh 0 0 (!X.w.params.followText "set-order")) } } : Shared) = s3
  have old3 : ∀ b o, s2.heap.get? b = some o → s3.heap.get? b = some o := fun b o e => by rw [← es3]; exact Heap.get?_push_of_some _ e
  have I3 : Inv X pins σ (noneI X.w H2 D) s3 := by
    rw [← es3, ← hD]
    exact I2.laid (t' := s2.toks) (fun b o e => Heap.get?_push_of_some _ e) (Nat.le_refl _) (setO_new (setR_fresh X.w))
  have size3 : s3.heap.objs.size = s2.heap.objs.size + 1 := by rw [← es3]; exact Heap.size_push ..
  have f3 : ∀ b ∈ fp, FpOk X pins (noneI X.w H2 D) b ∧ b < s3.heap.objs.size := fun b hb => by
    obtain ⟨o, e, _⟩ := T.obj _ _ st2 b hb
    have lt := Heap.lt_size e
    refine ⟨⟨?_, (f2 b hb).2⟩, by rw [size3]; exact Nat.lt_succ_of_lt lt⟩
    show upd _ _ _ b = none
    rw [upd_ne (fun z => Nat.lt_irrefl _ (by rw [z, ← hD] at lt; exact lt))]
    exact (f2 b hb).1
  have I4 := block_start I3 ok hN f3
  generalize ecl : cellsFrom (s3.heap.objs.size + 1) sc.names (cloFrom X.env.cells sc.names []) = cl at I4
  have pga := hga s3 (noneI X.w H2 D) s3.heap.objs.size cl fp
  have pib := hib s3 (noneI X.w H2 D) s3.heap.objs.size cl fp
  have pgb := hgb s3 (noneI X.w H2 D) s3.heap.objs.size cl fp
  have pf := hf s3 (noneI X.w H2 D) s3.heap.objs.size cl fp
  generalize es4 : ({ s3 with heap := pushCells (s3.heap.push { cls := .type "dict", data := .dict #[] }) sc.names } : Shared) = s4 at I4
  have old4 : ∀ b o, s3.heap.get? b = some o → s4.heap.get? b = some o := fun b o e => by rw [← es4]; exact pushCells_keeps _ _ _ _ (Heap.get?_push_of_some _ e)
  have st4 : tn 0 s4.heap := T.keep _ _ _ st2 fun b _ o e => old4 b o (old3 b o e)
  have nfp : ∀ b ∈ fp, (noneI X.w H2 D) b = none := fun b hb => (f3 b hb).1.1
  show codeAny _ _ (.compStart (twoFor f ta sa tb sb sc ps) 0 (.ref it) (.ref D) (compEnvC sc cl s3.heap.objs.size X.env)) (compPost (model X.prog X.w) X.A X.xe none (EP X pins σ Q) (.ref D) s3.heap.objs.size) s4
  have cL : (compEnvC sc cl s3.heap.objs.size X.env).locals = s3.heap.objs.size := rfl
  generalize compEnvC sc cl s3.heap.objs.size X.env = ce at I4 pga pib pgb pf cL ⊢
  generalize noneI X.w H2 D = H3 at I3 I4 pga pib pgb pf w0 nfp f3
  generalize eY : X.blk s3 H3 sc ce fp = Y at I4 pga pib pgb pf
  have still : ∀ {σ' : St} {H' : Hp} {s' : Shared}, Inv Y [] σ' H' s' → (∀ b ∈ fp, H' b = none) → ∀ b ∈ fp, FpOk Y [] H' b := by
    subst eY
    exact fun {σ' H' s'} I' hn b hb => ⟨hn b hb, (I'.ok.exf b hb).1, I'.ok.exfs b hb, .inl hb, fun x c e => (I'.ok.exf b hb).2 x c e, fun p hp => absurd (show p ∈ ([] : List (Addr × Obj)) ++ [] from hp) (by simp)⟩
  have eP : Y.prog = X.prog := by rw [← eY]
  have eW : Y.w = X.w := by rw [← eY]
  have eK : Y.K = X.K := by rw [← eY]
  have eA : Y.A = X.A := by rw [← eY]
  have eE : Y.env = ce := by rw [← eY]
  have hcY : Y.calm = true := by rw [← eY]; exact hc
  have outer : codeAny (model X.prog X.w) X.A (.compLoop (twoFor f ta sa tb sb sc ps) 0 (.ref it) (.ref D) ce) (compPost (model X.prog X.w) X.A X.xe none (EP X pins σ Q) (.ref D) s3.heap.objs.size) s4 := by
    refine loopBy turn0_eq (fun n s' => ∃ i H', Inv Y [] (wipe σ (own.map (·.2))) H' s' ∧ tn i s'.heap ∧ (∀ b ∈ fp, H' b = none) ∧ Wk i n H') ?_ m0 ⟨0, H3, I4, st4, nfp, w0⟩
    rintro n s5 ⟨i, H5, I5, st5, n5, w5⟩
    rcases turn i n H5 w5 with ⟨stop, qq⟩ | ⟨go, Nx, hNx, step⟩
    · subst eY
      refine thnF (T.done (X.blk s3 H3 sc ce fp) rfl rfl rfl hc i [] s5 _ H5 (fun _ _ => False) I5 (still I5 n5) st5 stop) fun r s6 ⟨hr, I6⟩ => ?_
      subst hr
      have I7 : Inv X pins σ H5 s6 := I3.call' (ch := fp) I6.os I6.base I6.hok I6.bare fun b hb => ⟨(f3 b hb).1.2.2.2.1, (f3 b hb).1.2.1, (f3 b hb).1.2.2.2.2.1, (f3 b hb).1.2.2.2.2.2⟩
      have nC : H5 s3.heap.objs.size = none := by
        have z : H5 ce.locals = none := I6.free
        rwa [cL] at z
      obtain ⟨m, hn, _⟩ := I6.loc
      have hn : s6.heap.Ns ce.locals m := hn
      rw [cL] at hn
      obtain ⟨g0, g1, g2, g3, g4, g5⟩ := I3.fpOk (Nat.le_refl _) nC
      exact ⟨m, hn, fun h'' sb => ⟨.ref D, H5, I7.turned (t' := s6.toks) (fun b o hb e => (sb.2 b hb).trans e) g0 g1 g3 g4 g5, rfl, qq⟩⟩
    · subst eY
      refine thnF (T.item (X.blk s3 H3 sc ce fp) rfl rfl rfl hc i [] s5 _ H5 (fun _ _ => False) I5 (still I5 n5) st5 go) fun r s6 ⟨u, hr, h6⟩ => ?_
      subst hr
      refine thnF h6 fun _ s7 ⟨x, H7, I7, r7, y7, st7, n7⟩ => ?_
      have J7 := I7.pinned (still I7 n7) (T.obj _ _ st7)
      refine thnF (pga.run _ s7 _ H7 x u _ J7 r7 (step x H7 y7)) fun _ s8 ⟨σ8, H8, I8, hw8, q8⟩ => ?_
      have len8 : (wipe σ (own.map (·.2))).length = σ8.length := by rw [← hw8, wipe_length]
      have sub8 : ∀ (j : Nat) v, (wipe σ (own.map (·.2)))[j]? = some (some v) → (wipe σ8 us)[j]? = some (some v) := fun j v e => by
        rw [← hw8] at e
        have z := wipe_some e
        rw [wipe_out fun m => z.2 (hv j m)]
        exact z.1
      -- the turn's end
      have back : ∀ {s' : Shared} {H' : Hp}, Inv (X.blk s3 H3 sc ce fp) ([] ++ pinsAt fp s7.heap) (wipe σ8 us) H' s' → Nx H' →
          ∃ m, m < n ∧ ∃ i H', Inv (X.blk s3 H3 sc ce fp) [] (wipe σ (own.map (·.2))) H' s' ∧ tn i s'.heap ∧ (∀ b ∈ fp, H' b = none) ∧ Wk i m H' := fun {s' H'} I' nx => by
        obtain ⟨m', hm, w'⟩ := hNx H' nx
        have kept : ∀ b ∈ fp, ∀ o, s7.heap.get? b = some o → s'.heap.get? b = some o ∧ H' b = none := fun b hb o e => by
          have z := I'.pin (b, o) (List.mem_append_right _ (List.mem_append_right _ (mem_pinsAt hb e)))
          exact ⟨z.1, z.2.1⟩
        refine ⟨m', hm, i + 1, H', (I'.unpinned (pins := [])).weak (len8.trans (wipe_length σ8 us).symm) sub8, T.keep _ _ _ st7 fun b hb o e => (kept b hb o e).1, fun b hb => ?_, w'⟩
        obtain ⟨o, e, _⟩ := T.obj _ _ st7 b hb
        exact (kept b hb o e).2
      refine inner_ok (fb ce) ?_
      refine thnF (pib.run _ s8 σ8 H8 _ I8 q8) fun xv s10 hx => thnF hx fun itv s11 h11 => ?_
      obtain ⟨ib, fq, tm, Jb, H11, rfl, I11, T1, st11, f11, W1, ⟨m1, w1⟩, turn1⟩ := h11
      have still1 : ∀ {H' : Hp}, (∀ b ∈ fq, H' b = none) → ∀ b ∈ fq, FpOk (X.blk s3 H3 sc ce fp) ([] ++ pinsAt fp s7.heap) H' b := fun z b hb => ⟨z b hb, (f11 b hb).2⟩
      have within : codeAny (model X.prog X.w) X.A (.compLoop (twoFor f ta sa tb sb sc ps) 1 (.ref ib) (.ref D) ce) (fun r s' => match r with
          | .ok _ => ∃ m, m < n ∧ ∃ i H', Inv (X.blk s3 H3 sc ce fp) [] (wipe σ (own.map (·.2))) H' s' ∧ tn i s'.heap ∧ (∀ b ∈ fp, H' b = none) ∧ Wk i m H'
          | .error _ => False) s11 := by
        refine loopBy turn1_eq (fun k s' => ∃ j H', Inv (X.blk s3 H3 sc ce fp) ([] ++ pinsAt fp s7.heap) (wipe σ8 us) H' s' ∧ tm j s'.heap ∧ (∀ b ∈ fq, H' b = none) ∧ W1 j k H') ?_ m1
          ⟨0, H11, I11.weak (wipe_length _ _) (fun j v e => (wipe_some e).1), st11, fun b hb => (f11 b hb).1, w1⟩
        rintro k s12 ⟨j, H12, I12, st12, n12, w12⟩
        rcases turn1 j k H12 w12 with ⟨stop1, nx1⟩ | ⟨go1, Nx1, hNx1, step1⟩
        · refine thnF (T1.done (X.blk s3 H3 sc ce fp) rfl rfl rfl hc j _ s12 _ H12 (fun _ _ => False) I12 (still1 n12) st12 stop1) fun r s13 ⟨hr, I13⟩ => ?_
          subst hr
          exact back I13 nx1
        · refine thnF (T1.item (X.blk s3 H3 sc ce fp) rfl rfl rfl hc j _ s12 _ H12 (fun _ _ => False) I12 (still1 n12) st12 go1) fun r s13 ⟨u1, hr, h13⟩ => ?_
          subst hr
          refine thnF h13 fun _ s14 ⟨x1, H14, I14, r14, y14, st14, n14⟩ => ?_
          have J14 := I14.pinned (still1 n14) (T1.obj _ _ st14)
          refine thnF (pgb.run _ s14 _ H14 x1 u1 _ J14 r14 (step1 x1 H14 y14)) fun _ s15 ⟨σ15, H15, I15, hw15, q15⟩ => ?_
          refine added_ok (thnF (pf.run _ s15 σ15 H15 _ I15 q15) fun z s17 ⟨yv, H17, I17, r17, c, S, nn, ey, hD17, hz17, nx⟩ => ?_)
          subst ey
          refine addI_ok (X := X.blk s3 H3 sc ce fp) I17 hD17 hz17 r17 fun s18 I18 => ?_
          obtain ⟨m', hm, w'⟩ := hNx1 _ nx
          have kept : ∀ b ∈ fq, ∀ o, s14.heap.get? b = some o → s18.heap.get? b = some o ∧ (putI X.w H17 D S nn c) b = none := fun b hb o e => by
            have z := I18.pin (b, o) (List.mem_append_right _ (List.mem_append_right _ (mem_pinsAt hb e)))
            exact ⟨z.1, z.2.1⟩
          refine ⟨m', hm, j + 1, _, I18.unpinned.weak (by rw [← hw15, wipe_length]) (fun j v e => by rw [← hw15] at e; exact (wipe_some e).1), T1.keep _ _ _ st14 fun b hb o e => (kept b hb o e).1, fun b hb => ?_, w'⟩
          obtain ⟨o, e, _⟩ := T1.obj _ _ st14 b hb
          exact (kept b hb o e).2
      exact started (b := sb) (.inr rfl) within (T1.self X.A 0 _ _ _ st11 within)
  exact started (b := sa) (.inl rfl) outer (T.self X.A 0 _ _ _ st4 outer)
end
end L2

/-! Walks within a set comprehension; sets by the list of their members; len. -/
namespace L2
open PySem PySem.Spec PyProof.Rows
section
variable {K : PySem.W.Frag} {a : Addr} {xs : List V} {St : Hp → Prop} {Go : (Hp → Prop) → V → Hp → Prop} {H0 : Hp}
theorem wlk_tup (Pv : Nat → Hp → Prop) (h0 : Pv 0 H0) (hl : ∀ i H, i ≤ xs.length → Pv i H → SqT K H a xs) (hs : ∀ i x H, xs[i]? = some x → Pv i H → Go (Pv (i + 1)) x H) (hd : ∀ H, Pv xs.length H → St H) : Wlk (Itt K a) St Go H0 := by
  refine ⟨fun i m H => m = xs.length - i ∧ i ≤ xs.length ∧ Pv i H, ⟨_, rfl, Nat.zero_le _, h0⟩, ?_⟩
  rintro i m H ⟨rfl, hi, p⟩
  have q := hl i H hi p
  rcases Nat.lt_or_ge i xs.length with lt | ge
  · refine .inr ⟨⟨xs, xs[i], q, by simp [lt]⟩, Pv (i + 1), fun H' p' => ⟨_, by omega, rfl, lt, p'⟩, fun x H' y => ?_⟩
    obtain ⟨rfl, y⟩ := y
    exact hs i x _ (y xs q) p
  · obtain rfl : i = xs.length := Nat.le_antisymm hi ge
    exact .inl ⟨⟨xs, q, Nat.le_refl _⟩, hd H p⟩
theorem wlk_rng {lo : Int} {n : Nat} (Pv : Nat → Hp → Prop) (h0 : Pv 0 H0) (hs : ∀ i H, i < n → Pv i H → Go (Pv (i + 1)) (.int (lo + i)) H) (hd : ∀ H, Pv n H → St H) : Wlk (Itr lo n) St Go H0 := by
  refine ⟨fun i m H => m = n - i ∧ i ≤ n ∧ Pv i H, ⟨_, rfl, Nat.zero_le _, h0⟩, ?_⟩
  rintro i m H ⟨rfl, hi, p⟩
  rcases Nat.lt_or_ge i n with lt | ge
  · refine .inr ⟨lt, Pv (i + 1), fun H' p' => ⟨_, by omega, rfl, lt, p'⟩, fun x H' y => ?_⟩
    obtain ⟨rfl, rfl⟩ := y
    exact hs i _ lt p
  · obtain rfl : i = n := Nat.le_antisymm hi ge
    exact .inl ⟨Nat.le_refl _, hd H p⟩
end
/-! ### sets by the list of their members -/
def ins {α : Type} [DecidableEq α] (L : List α) (c : α) : List α := if c ∈ L then L else c :: L
def fset {α : Type} [DecidableEq α] (L : List α) : List α := L.foldl ins []
def memb (L : List Int) : Int → Bool := fun j => decide (j ∈ L)
abbrev SetL (w : World) (a : Addr) (L : List Int) : HO := SetO w a (memb L) L.length
theorem noneI_eq {w : World} {H : Hp} {D : Addr} : noneI w H D = upd H D (SetL w D []) := by
  have e : memb [] = fun _ => false := funext fun j => decide_eq_false (by simp)
  show _ = upd H D (SetO w D (memb []) 0)
  rw [e]
theorem putI_eq {w : World} {H : Hp} {D : Addr} {L : List Int} {c : Int} : putI w H D (memb L) L.length c = upd H D (SetL w D (ins L c)) := by
  have e : (fun j => memb L j || decide (j = c)) = memb (ins L c) := funext fun j => by
    show (decide (j ∈ L) || decide (j = c)) = decide (j ∈ ins L c)
    rw [← Bool.decide_or]
    refine decide_eq_decide.mpr ?_
    unfold ins
    by_cases h : c ∈ L
    · rw [if_pos h]
      exact ⟨fun z => z.elim id fun e => e ▸ h, .inl⟩
    · rw [if_neg h, List.mem_cons]
      exact Or.comm
  have n : (if memb L c = true then L.length else L.length + 1) = (ins L c).length := by
    unfold ins
    by_cases h : c ∈ L
    · rw [if_pos h, if_pos (show memb L c = true from decide_eq_true h)]
    · rw [if_neg h, if_neg (fun z : memb L c = true => h (of_decide_eq_true z))]
      rfl
  unfold putI
  rw [e, n]
theorem ins_le {α : Type} [DecidableEq α] {L : List α} {c : α} : (ins L c).length ≤ L.length + 1 := by
  unfold ins
  split
  · omega
  · exact Nat.le_refl _
def rLenSet (w : World) : List V → Hp → VK → Prop := fun xs H Q => ∃ (a : Addr) (S : Int → Bool) (n : Nat), xs = [.ref a] ∧ H a = some (SetO w a S n) ∧ Q (.int (n : Nat)) H
theorem k_lenSet {X : Cx} {w : World} (e : X.w = w := by rfl) : CallR X (.builtin "len") (rLenSet w) := by
  subst e
  intro pins s σ H xs us Q I r h
  obtain ⟨a, S, n, rfl, ha, q⟩ := h
  obtain ⟨u, rfl, rx⟩ := vals1 r
  obtain rfl : u = .ref a := rx
  obtain ⟨o, es, ep, t, ho, hex, hd, _, _, _, hb, hf, hn, _⟩ := setO_get I ha
  refine call_len_set ho hex hd hf (by unfold scanBound at hb; omega) ?_
  rw [hn]
  exact ⟨.int (n : Nat), H, I.tok _, ⟨_, rfl⟩, q⟩
end L2

/-! t[::-1], t a tuple. -/
namespace L2
open PySem PySem.Spec PyProof.Rows HT
section
variable {prog : Program} {w : World} {A : Around} {E : Value → Shared → Prop} {s : Shared}
theorem adjust_back (n : Nat) : Builtin.Slice.sliceAdjust none none (-1) (n : Int) = ((n : Int) - 1, -1) := by
  unfold Builtin.Slice.sliceAdjust
  rfl
theorem places_back (n : Nat) : Builtin.Slice.slicePlaces ((n : Int) - 1) (-1) (-1) = n := by
  unfold Builtin.Slice.slicePlaces
  have h1 : ¬ (-1 : Int) > 0 := by omega
  simp only [h1, if_false, Int.neg_neg, Int.ediv_one]
  split <;> omega
theorem applied_back {sl : Addr} {tk : Tok} {n : Nat} {Q : Int × Int × Nat → Shared → Prop} (hs : s.heap.IsSliceOf sl .none .none (.int (-1) tk)) (h : Q ((n : Int) - 1, -1, n) s) :
    wpAny (model prog w) A (Builtin.Slice.sliceApplied (.ref sl) (pure (n : Int))) Q E s := by
  obtain ⟨os, hos, hcs, hds⟩ := id hs
  unfold Builtin.Slice.sliceApplied Builtin.Slice.sliceFields
  refine wpAny_bind (wpAny_bind (wpAny_field hos hds (x := .none) rfl ?_))
  refine wpAny_bind (wpAny_field hos hds (x := .none) rfl ?_)
  refine wpAny_bind (wpAny_field hos hds (x := .int (-1) tk) rfl (wpAny_pure ?_))
  refine wpAny_bind (slicePart_ (.int (-1) tk) ?_)
  show wpAny _ _ (if ((-1 : Int) == 0) = true then _ else _) _ _ s
  rw [if_neg (by decide)]
  refine wpAny_bind (slicePart_ .none (wpAny_bind (slicePart_ .none ?_)))
  refine wpAny_bind (wpAny_pure ?_)
  show wpAny _ _ (match Builtin.Slice.sliceAdjust none none (-1) (n : Int) with | (lo, hi) => pure (lo, (-1 : Int), Builtin.Slice.slicePlaces lo hi (-1))) _ _ s
  rw [adjust_back]
  show wpAny _ _ (pure ((n : Int) - 1, (-1 : Int), Builtin.Slice.slicePlaces ((n : Int) - 1) (-1) (-1))) _ _ s
  rw [places_back]
  exact wpAny_pure h
theorem back_go {α : Type} (xs : Array α) : ∀ k, k ≤ xs.size → (List.range k).filterMap (fun (m : Nat) => xs[((xs.size : Int) - 1 + (m : Int) * -1).toNat]?) = xs.toList.reverse.take k
  | 0, _ => rfl
  | k + 1, h => by
    rw [List.range_succ, List.filterMap_append, back_go xs k (by omega), List.take_add_one]
    have e : ((xs.size : Int) - 1 + (k : Int) * -1).toNat = xs.size - 1 - k := by omega
    congr 1
    have l : k < xs.toList.reverse.length := by rw [List.length_reverse, Array.length_toList]; omega
    have g : xs.toList.reverse[k]? = xs[xs.size - 1 - k]? := by
      rw [List.getElem?_reverse (by rw [Array.length_toList]; omega), Array.getElem?_toList, Array.length_toList]
    rw [g]
    show (match xs[((xs.size : Int) - 1 + (k : Int) * -1).toNat]? with | none => [] | some b => [b]) = _
    rw [e]
    cases xs[xs.size - 1 - k]? <;> rfl
theorem back_all (xs : Array Value) : ((List.range xs.size).filterMap (fun (m : Nat) => xs[((xs.size : Int) - 1 + (m : Int) * -1).toNat]?)).toArray = xs.toList.reverse.toArray := by
  rw [back_go xs xs.size (Nat.le_refl _), List.take_of_length_le (by rw [List.length_reverse, Array.length_toList]; exact Nat.le_refl _)]
theorem getItem_back {t sl : Addr} {items : Array Value} {tk : Tok} {Q : Value → Shared → Prop} (ht : IsTup s.heap t items) (hs : s.heap.IsSliceOf sl .none .none (.int (-1) tk))
    (h : Q (.ref s.heap.objs.size) { s with heap := s.heap.push { cls := .type "tuple", data := .seq items.toList.reverse.toArray } }) (hsz : items.size ≤ sizeLine) : wpAny (model prog w) A (getItem (.ref t) (.ref sl)) Q E s := by
  have fits : sizeOk (.seq items.toList.reverse.toArray) := by
    show items.toList.reverse.toArray.size ≤ sizeLine
    rw [List.size_toArray, List.length_reverse, Array.length_toList]
    exact hsz
  obtain ⟨os, hos, hcs, hds⟩ := id hs
  have hTs : s.TypeIs (.ref sl) "slice" := ⟨os, hos, hcs⟩
  unfold getItem
  try with_reducible refine wpAny_holding ?_
  first
    | refine wpAny_bind (wpAny_pure ?_)
    | skip
  refine wpAny_bind (wpAny_sequenceKey ht.typeIs (by decide) ?_)
  have sg := PyProof.Rows.slot_tuple_getitem
  refine wpAny_bind (wpAny_callSpecial?_slot (name := Str.ofString "__getitem__") ht.typeIs sg (wpAny_call_entry sg ht.typeIs entry_tuple_getitem ?_ (args_tuple_getitem _ _)))
  show wpAny _ _ (Builtin.Tuple.tupleItemsOf (.ref t) >>= _) _ _ s
  refine wpAny_bind (tupleItemsOf_ ht (wpAny_bind (wpAny_typeOf hTs ?_)))
  rw [if_pos (by decide)]
  refine wpAny_bind (applied_back hs ?_)
  show wpAny _ _ (if ((((items.size : Int) - 1) == 0 && (-1 : Int) == 1 && items.size == items.size) = true) then _ else _) _ _ s
  rw [if_neg (by simp), back_all]
  first
    | exact wpAny_bind (m := Builtin.Tuple.tupleExact _) (wpAny_newObj_type (wpAny_pure ⟨_, rfl, wpAny_pure h⟩) fits)
    | exact wpAny_bind (m := Builtin.Tuple.tupleExact _) (wpAny_newObj_type (wpAny_bind (wpAny_pure (wpAny_pure ⟨_, rfl, wpAny_pure h⟩))) fits)
    | exact wpAny_bind (wpAny_bind (m := Builtin.Tuple.tupleExact _) (wpAny_newObj_type (wpAny_pure (wpAny_pure ⟨_, rfl, wpAny_pure h⟩)) fits))
    | exact wpAny_bind (wpAny_bind (m := Builtin.Tuple.tupleExact _) (wpAny_newObj_type (wpAny_pure ⟨_, rfl, wpAny_pure h⟩) fits))
end
theorem vals_rev : ∀ {xs : List V} {us : List Value}, Vals xs us → Vals xs.reverse us.reverse
  | _, _, .nil => .nil
  | _, _, .cons r t => by
    rw [List.reverse_cons, List.reverse_cons]
    exact (vals_rev t).append (.cons r .nil)
def tBack (K : PySem.W.Frag) (te ts : TE) : TE := fun σ H Q => te σ H fun x H1 => ts σ H1 fun y H2 => y = .int (-1) ∧ ∃ (a : Addr) (xs : List V), x = .ref a ∧ SqT K H2 a xs ∧ ∀ p, H2 p = none → Q (.ref p) (upd H2 p (.tup xs.reverse))
theorem pe_back {X : Cx} {K : PySem.W.Frag} {e st : Expr} {te ts : TE} {p2 pos : Pos} (he : PE X e te) (hst : PE X st ts) (ek : X.K = K := by rfl) : PE X (.Subscript e (.Slice none none (some st) p2) pos) (tBack K te ts) := by
  subst ek
  refine ⟨fun pins s σ H Q I h => ?_⟩
  refine Subscript_ (thn (he.run pins s σ H _ I h) fun v s1 ⟨x, H1, I1, r1, q1⟩ => ?_)
  refine wpAny_Slice ?_
  rw [evalPart_none, evalPart_some]
  refine wpAny_pure (wpAny_pure (thn (hst.run pins s1 σ H1 _ I1 q1) fun vs s3 ⟨y, H3, I3, ry, ey, a, xs, ex, hx, q⟩ => ?_))
  subst ey ex
  obtain ⟨tk, rfl⟩ := ry
  cases r1
  have I4 : Inv X pins σ H3 { s3 with heap := s3.heap.push { cls := .type "slice", data := .fields #[.none, .none, .int (-1) tk] } } := I3.kept (t' := s3.toks) fun b ob q => Heap.get?_push_of_some _ q
  obtain ⟨its, r, ht, hz⟩ := I4.tuple hx
  have hlen : its.toArray.size = xs.length := by rw [List.size_toArray]; exact r.length.symm
  show wpAny (model X.prog X.w) X.A (subscriptTail e (.Slice none none (some st) p2) (.ref a) (.ref s3.heap.objs.size)) (EP X pins σ Q) X.xe { s3 with heap := s3.heap.push { cls := .type "slice", data := .fields #[.none, .none, .int (-1) tk] } }
  refine tail_any (T := "tuple") (ops := [.ref a, .ref s3.heap.objs.size]) ht.typeIs PyProof.Rows.slot_tuple_getitem.lookup (getItem_back ht (Heap.IsSliceOf.new ..) ?_ (by rw [hlen]; exact hz)) (by with_unfolding_all rfl)
  refine ⟨.ref _, _, I4.laid (t' := s3.toks) (o := .tup xs.reverse) (fun b ob z => Heap.get?_push_of_some _ z) (Nat.le_refl _) ?_, rfl, q _ (I4.hok.fresh (Nat.le_refl _))⟩
  exact ⟨by rw [List.length_reverse]; exact hz, its.reverse, vals_rev r, IsTup.new _ _⟩
end L2

/-! zip of tuples, all and any named, three comparisons in a chain, tuples of data times ints, repr of truth values. -/
namespace L2
open PySem PySem.Spec PyProof.Rows
section
variable {X : Cx} {K : PySem.W.Frag}
theorem k_all (hc : X.calm = true) (ek : X.K = K := by rfl) : CallR X (.builtin "all") (rAll K) := by
  subst ek
  exact cr_all hc
theorem k_any (hc : X.calm = true) (ek : X.K = K := by rfl) : CallR X (.builtin "any") (rAny K) := by
  subst ek
  exact cr_any hc
theorem k_piZA {e e2 : Expr} {ta : TA} {p pos tpos : Pos} {elts : List Expr} {kk : Nat} (hg : Gl X "zip") (hm : X.mg "zip" = none) (ha : PA X [e, e2] ta)
    (hs : starEach [e, e2] X.env = (false, eval e X.env) :: starEach [e2] X.env := by rfl)
    (hpl : (backTo pos (starEach [e2] X.env)).any (·.1) = false := by rfl) (ek : X.K = K := by rfl) :
    PI X (.Tuple elts kk tpos) (.Call (.Name "zip" p) [e, e2] [] pos) (RZ.iZipA K ta) := by
  subst ek
  exact RZ.pi_zipA hg hm ha hs hpl
end
theorem walk_zipT {K : PySem.W.Frag} {a b : Addr} {xs ys : List V} (hn : xs.length = ys.length) :
    Walk (RZ.ItzT K a b) xs.length (fun H => SqT K H a xs ∧ SqT K H b ys) (YPair (fun i => xs[i]?) (fun i => ys[i]?)) where
  goes := fun i _ hi q => ⟨xs, ys, xs[i], ys[i]'(by omega), q.1, q.2, by simp [hi], by simp [show i < ys.length by omega]⟩
  stops := fun _ q => ⟨xs, ys, q.1, q.2, .inl (Nat.le_refl _)⟩
  yields := fun i H v H' _ q y => by
    obtain ⟨T, x, z, e1, e2, e3, e4, e5⟩ := y
    exact ⟨T, x, z, e1, e2, e3, e4 xs q.1, e5 ys q.2⟩
/-! ### a < b < c < d as a test -/
def tChain3 (r r' r2 : R2) (ta tb tc td : TE) : TE := fun σ H Q => ta σ H fun x H1 => tb σ H1 fun y H2 => r x y H2 fun z H3 => ∃ k, z = .bl k ∧
  (if k = true then tc σ H3 fun y2 H4 => r' y y2 H4 fun z2 H5 => ∃ k2, z2 = .bl k2 ∧ (if k2 = true then td σ H5 fun y3 H6 => r2 y2 y3 H6 Q else Q (.bl false) H5) else Q (.bl false) H3)
theorem pt_chain3 {X : Cx} {a b c d : Expr} {ta tb tc td : TE} {pos : Pos} {o1 o2 o3 : CmpOp} {r r' r2 : R2} (h1 : OpR X (compareOp o1) r) (h2 : OpR X (compareOp o2) r') (h3 : OpR X (compareOp o3) r2)
    (ha : PE X a ta) (hb : PE X b tb) (hc : PE X c tc) (hd : PE X d td) (hm : lastMarks [o1, o2, o3] [b, c, d] = false := by with_unfolding_all rfl) :
    PT X (.Compare a [o1, o2, o3] [b, c, d] pos) (tTest (tChain3 r r' r2 ta tb tc td)) := by
  refine ⟨fun pins s σ H Q I h => ?_⟩
  refine isTrue_chain (thn (ha.run pins s σ H _ I h) fun v1 s1 ⟨x, H1, I1, r1, q1⟩ => ?_) hm
  refine test_link (thn (hb.run pins s1 σ H1 _ I1 q1) fun v2 s2 ⟨y, H2, I2, r2', q2⟩ => ?_)
  refine thn (h1 pins s2 σ H2 x y v1 v2 _ I2 r1 r2' q2) fun b1 s3 ⟨z, H3, I3, r3, k, ez, q3⟩ => ?_
  subst ez
  cases r3
  refine wpAny_truthy_bool ?_
  cases k with
  | false =>
    obtain ⟨_, e0, q0⟩ := q3
    cases e0
    exact ite_ff ⟨H3, I3, q0⟩
  | true =>
    refine ite_tt (test_link (thn (hc.run pins s3 σ H3 _ I3 q3) fun v4 s4 ⟨y2, H4, I4, r4, q4⟩ => ?_))
    refine thn (h2 pins s4 σ H4 y y2 v2 v4 _ I4 r2' r4 q4) fun b2 s5 ⟨z2, H5, I5, r5, k2, ez2, q5⟩ => ?_
    subst ez2
    cases r5
    refine wpAny_truthy_bool ?_
    cases k2 with
    | false =>
      obtain ⟨_, e0, q0⟩ := q5
      cases e0
      exact ite_ff ⟨H5, I5, q0⟩
    | true =>
      refine ite_tt (test_last (thn (hd.run pins s5 σ H5 _ I5 q5) fun v6 s6 ⟨y3, H6, I6, r6, q6⟩ => ?_))
      refine thn (h3 pins s6 σ H6 y2 y3 v4 v6 _ I6 r4 r6 q6) fun b3 s7 ⟨z3, H7, I7, r7, k3, ez3, q7⟩ => ?_
      subst ez3
      cases r7
      exact wpAny_truthy_bool ⟨H7, I7, q7⟩
/-! ### repr of a truth value -/
def rReprB : List V → Hp → VK → Prop := fun xs H Q => ∃ b, xs = [.bl b] ∧ Q (.str (if b then "True" else "False" : String)) H
theorem k_reprB {X : Cx} : CallR X (.builtin "repr") rReprB := by
  intro pins s σ H xs us Q I r h
  obtain ⟨b, rfl, q⟩ := h
  obtain ⟨u, rfl, ru⟩ := vals1 r
  cases ru
  refine PySem.P.repr_of_bool ?_
  cases b
  · exact ⟨.str _, H, I.tok _, ⟨_, rfl⟩, q⟩
  · exact ⟨.str _, H, I.tok _, ⟨_, rfl⟩, q⟩
end L2
namespace My
open PySem PySem.Spec PyProof.Rows L2
/-- a tuple of data, times an int -/
theorem rd_repD {K : PySem.W.Frag} {H : Hp} {v : V} {ds : List PyData} {n : Int} {Q : VK} (h : Dp K H v (.tuple ds)) (hz : ds.length ≤ 1000) (h0 : -1000 ≤ n) (h1 : n ≤ 1000)
    (k : ∀ w H', Same H H' → Dp K H' w (.tuple (List.replicate n.toNat ds).flatten) → Q w H') : rRepA K v (.int n) H Q := by
  obtain ⟨a, xs, rfl, hT, hX⟩ := h.tuple
  have hl := hX.len
  have go : ∀ m : Nat, DpAll K H (List.replicate m xs).flatten (List.replicate m ds).flatten := fun m => by
    induction m with
    | zero => exact .nil
    | succ m ih =>
      rw [List.replicate_succ, List.replicate_succ, List.flatten_cons, List.flatten_cons]
      exact hX.app ih
  refine ⟨a, n, xs, rfl, rfl, hT, h0, h1, by omega, fun w => ?_, fun _ p hp => ?_⟩
  · refine k _ H (Same.refl H) (.tup hT ?_)
    rcases w with w | w
    · subst w
      cases hX
      have e : (List.replicate n.toNat ([] : List PyData)).flatten = [] := by simp
      rw [e]
      exact .nil
    · subst w
      have e : (List.replicate (1 : Int).toNat ds).flatten = ds := by
        show (List.replicate 1 ds).flatten = ds
        simp
      rw [e]
      exact hX
  · exact k _ _ (same_upd hp _) (.tup (SqT.of upd_same) (DpAll.same (same_upd hp _) _ _ (go _)))
end My

/-! Lengths, their least common multiple, places; when loops meet. -/
namespace My
open PySem PySem.Spec PyProof.Rows L2
def NN (ns : List Nat) : List Int := ns.map fun n : Nat => (n : Int)
def lcmN (ns : List Nat) : Nat := ns.foldl Nat.lcm 1
theorem lcm_go : ∀ (ns : List Nat) (a : Nat), a ∣ ns.foldl Nat.lcm a ∧ ∀ n ∈ ns, n ∣ ns.foldl Nat.lcm a
  | [], a => ⟨Nat.dvd_refl a, by intro n hn; cases hn⟩
  | b :: r, a => by
    obtain ⟨h1, h2⟩ := lcm_go r (Nat.lcm a b)
    refine ⟨Nat.dvd_trans (Nat.dvd_lcm_left a b) h1, fun n hn => ?_⟩
    rcases List.mem_cons.mp hn with q | q
    · rw [q]
      exact Nat.dvd_trans (Nat.dvd_lcm_right a b) h1
    · exact h2 n q
theorem lcm_least : ∀ (ns : List Nat) (a m : Nat), a ∣ m → (∀ n ∈ ns, n ∣ m) → ns.foldl Nat.lcm a ∣ m
  | [], a, m, h, _ => h
  | b :: r, a, m, h, g => lcm_least r (Nat.lcm a b) m (Nat.lcm_dvd h (g b List.mem_cons_self)) fun n hn => g n (List.mem_cons_of_mem _ hn)
theorem dvd_lcmN {ns : List Nat} {n : Nat} (h : n ∈ ns) : n ∣ lcmN ns := (lcm_go ns 1).2 n h
theorem lcmN_dvd {ns : List Nat} {m : Nat} (h : ∀ n ∈ ns, n ∣ m) : lcmN ns ∣ m := lcm_least ns 1 m (Nat.one_dvd m) h
theorem lcmN_take {ns : List Nat} {i n : Nat} (h : ns[i]? = some n) : lcmN (ns.take (i + 1)) = Nat.lcm (lcmN (ns.take i)) n := by
  rw [take_more h]
  unfold lcmN
  rw [List.foldl_append]
  rfl
theorem lcm_pos_go : ∀ (ns : List Nat) (a : Nat), 0 < a → (∀ n ∈ ns, 1 ≤ n) → 0 < ns.foldl Nat.lcm a
  | [], a, h, _ => h
  | b :: r, a, h, g => lcm_pos_go r (Nat.lcm a b) (Nat.lcm_pos h (g b List.mem_cons_self)) fun n hn => g n (List.mem_cons_of_mem _ hn)
theorem lcmN_pos {ns : List Nat} (h : ∀ n ∈ ns, 1 ≤ n) : 0 < lcmN ns := lcm_pos_go ns 1 (Nat.succ_pos 0) h
theorem lcm_le_go (b : Nat) (hb : 1 ≤ b) : ∀ (ns : List Nat) (a : Nat), (∀ n ∈ ns, n ≤ b) → ns.foldl Nat.lcm a ≤ a * b ^ ns.length
  | [], a, _ => by simp
  | c :: r, a, h => by
    have ih := lcm_le_go b hb r (Nat.lcm a c) fun n hn => h n (List.mem_cons_of_mem _ hn)
    have h1 : Nat.lcm a c ≤ a * b := by
      rcases Nat.eq_zero_or_pos a with e | e
      · rw [e, Nat.lcm_zero_left]
        exact Nat.zero_le _
      · rcases Nat.eq_zero_or_pos c with f | f
        · rw [f, Nat.lcm_zero_right]
          exact Nat.zero_le _
        · exact Nat.le_trans (Nat.le_of_dvd (Nat.mul_pos e f) (Nat.lcm_dvd (Nat.dvd_mul_right a c) (Nat.dvd_mul_left c a))) (Nat.mul_le_mul_left a (h c List.mem_cons_self))
    refine Nat.le_trans ih ?_
    rw [List.length_cons, Nat.pow_succ, Nat.mul_comm (b ^ r.length) b, ← Nat.mul_assoc]
    exact Nat.mul_le_mul_right _ h1
theorem lcmN_le {ns : List Nat} {b : Nat} (hb : 1 ≤ b) (h : ∀ n ∈ ns, n ≤ b) : lcmN ns ≤ b ^ ns.length := by
  have q := lcm_le_go b hb ns 1 h
  rw [Nat.one_mul] at q
  exact q
/-! ### two rests together -/
theorem bez (a b : Nat) : ∃ x y : Int, ((Nat.gcd a b : Nat) : Int) = a * x + b * y := by
  induction a, b using Nat.gcd.induction with
  | H0 b => exact ⟨0, 1, by simp⟩
  | H1 a b ha ih =>
    obtain ⟨x, y, e⟩ := ih
    refine ⟨y - ((b / a : Nat) : Int) * x, x, ?_⟩
    rw [Nat.gcd_rec, e]
    have q : ((b % a : Nat) : Int) = (b : Int) - (a : Int) * ((b / a : Nat) : Int) := by
      have := Nat.mod_add_div b a
      have q2 : ((b % a + a * (b / a) : Nat) : Int) = (b : Int) := by rw [this]
      rw [Int.natCast_add, Int.natCast_mul] at q2
      omega
    rw [q, Int.sub_mul, Int.mul_sub, Int.mul_assoc]
    omega
theorem crt2 {R L : Nat} {x q : Int} (h : ((Nat.gcd R L : Nat) : Int) ∣ q - x) : ∃ Y : Int, (R : Int) ∣ Y - x ∧ (L : Int) ∣ Y - q := by
  obtain ⟨c, hc⟩ := h
  obtain ⟨a, b, e⟩ := bez R L
  refine ⟨x + R * (a * c), ⟨a * c, by omega⟩, ⟨-(b * c), ?_⟩⟩
  have e2 : q - x = R * (a * c) + L * (b * c) := by
    rw [hc, e, Int.add_mul, Int.mul_assoc, Int.mul_assoc]
  rw [Int.mul_neg]
  omega
theorem gcd_lcm_dvd {a b L m : Nat} (h1 : Nat.gcd a L ∣ m) (h2 : Nat.gcd b L ∣ m) : Nat.gcd (Nat.lcm a b) L ∣ m := by
  have key : ∀ d : Nat, d ∣ Nat.lcm a b → d ∣ Nat.lcm (Nat.gcd a d) (Nat.gcd b d) := by
    intro d hd
    rcases Nat.eq_zero_or_pos d with e | dp
    · subst e
      rw [Nat.gcd_zero_right, Nat.gcd_zero_right]
      exact hd
    have gp : 0 < Nat.gcd (Nat.gcd a d) (Nat.gcd b d) := Nat.gcd_pos_of_pos_left _ (Nat.gcd_pos_of_pos_right _ dp)
    have N : d * Nat.gcd (Nat.gcd a d) (Nat.gcd b d) ∣ Nat.gcd a d * Nat.gcd b d := by
      have ga : Nat.gcd (Nat.gcd a d) (Nat.gcd b d) ∣ a := Nat.dvd_trans (Nat.gcd_dvd_left _ _) (Nat.gcd_dvd_left _ _)
      have gb : Nat.gcd (Nat.gcd a d) (Nat.gcd b d) ∣ b := Nat.dvd_trans (Nat.gcd_dvd_right _ _) (Nat.gcd_dvd_left _ _)
      have gd : Nat.gcd (Nat.gcd a d) (Nat.gcd b d) ∣ d := Nat.dvd_trans (Nat.gcd_dvd_left _ _) (Nat.gcd_dvd_right _ _)
      have nab : d * Nat.gcd (Nat.gcd a d) (Nat.gcd b d) ∣ a * b := by
        have q : d * Nat.gcd (Nat.gcd a d) (Nat.gcd b d) ∣ Nat.lcm a b * Nat.gcd a b := Nat.mul_dvd_mul hd (Nat.dvd_gcd ga gb)
        rw [Nat.mul_comm (Nat.lcm a b), Nat.gcd_mul_lcm] at q
        exact q
      have nad : d * Nat.gcd (Nat.gcd a d) (Nat.gcd b d) ∣ a * d := by
        rw [Nat.mul_comm a d]
        exact Nat.mul_dvd_mul_left d ga
      have ndb : d * Nat.gcd (Nat.gcd a d) (Nat.gcd b d) ∣ d * b := Nat.mul_dvd_mul_left d gb
      have ndd : d * Nat.gcd (Nat.gcd a d) (Nat.gcd b d) ∣ d * d := Nat.mul_dvd_mul_left d gd
      have q1 : d * Nat.gcd (Nat.gcd a d) (Nat.gcd b d) ∣ a * Nat.gcd b d := by
        rw [← Nat.gcd_mul_left a b d]
        exact Nat.dvd_gcd nab nad
      have q2 : d * Nat.gcd (Nat.gcd a d) (Nat.gcd b d) ∣ d * Nat.gcd b d := by
        rw [← Nat.gcd_mul_left d b d]
        exact Nat.dvd_gcd ndb ndd
      have q3 := Nat.dvd_gcd q1 q2
      rw [Nat.gcd_mul_right] at q3
      exact q3
    rw [← Nat.gcd_mul_lcm (Nat.gcd a d) (Nat.gcd b d), Nat.mul_comm d] at N
    exact Nat.dvd_of_mul_dvd_mul_left gp N
  have k := key _ (Nat.gcd_dvd_left (Nat.lcm a b) L)
  have dL : Nat.gcd (Nat.lcm a b) L ∣ L := Nat.gcd_dvd_right _ _
  refine Nat.dvd_trans k (Nat.lcm_dvd (Nat.dvd_trans ?_ h1) (Nat.dvd_trans ?_ h2))
  · exact Nat.dvd_gcd (Nat.gcd_dvd_left _ _) (Nat.dvd_trans (Nat.gcd_dvd_right _ _) dL)
  · exact Nat.dvd_gcd (Nat.gcd_dvd_left _ _) (Nat.dvd_trans (Nat.gcd_dvd_right _ _) dL)
theorem gcd_lcms {L m : Nat} : ∀ (ns : List Nat) (a : Nat), Nat.gcd a L ∣ m → (∀ n ∈ ns, Nat.gcd n L ∣ m) → Nat.gcd (ns.foldl Nat.lcm a) L ∣ m
  | [], a, h, _ => h
  | b :: r, a, h, g => gcd_lcms r (Nat.lcm a b) (gcd_lcm_dvd h (g b List.mem_cons_self)) fun n hn => g n (List.mem_cons_of_mem _ hn)
theorem emod_eq_dvd {n x y : Int} : x % n = y % n ↔ n ∣ x - y := by
  rw [Int.emod_eq_emod_iff_emod_sub_eq_zero]
  exact ⟨Int.dvd_of_emod_eq_zero, Int.emod_eq_zero_of_dvd⟩
/-- places that by pairs can meet are those of some tick -/
theorem crt_all {ns : List Nat} {ps : List Int} (hl : ps.length = ns.length) (hp : ∀ (i n : Nat) (p : Int), ns[i]? = some n → ps[i]? = some p → 0 ≤ p ∧ p < (n : Int))
    (h : ∀ (i j a b : Nat) (p q : Int), i < j → ns[i]? = some a → ns[j]? = some b → ps[i]? = some p → ps[j]? = some q → ((Nat.gcd a b : Nat) : Int) ∣ p - q) :
    ∃ X : Int, ∀ (i n : Nat) (p : Int), ns[i]? = some n → ps[i]? = some p → X % (n : Int) = p := by
  have go : ∀ m : Nat, ∃ X : Int, ∀ (i n : Nat) (p : Int), i < m → ns[i]? = some n → ps[i]? = some p → X % (n : Int) = p := fun m => by
    induction m with
    | zero => exact ⟨0, fun i n p hi => absurd hi (Nat.not_lt_zero i)⟩
    | succ m ih =>
      obtain ⟨X, hX⟩ := ih
      cases en : ns[m]? with
      | none =>
        refine ⟨X, fun i n p hi e1 e2 => ?_⟩
        by_cases im : i < m
        · exact hX i n p im e1 e2
        · have : i = m := by omega
          subst this
          rw [en] at e1
          cases e1
      | some L =>
        have hm : m < ns.length := (List.getElem?_eq_some_iff.mp en).1
        have eq : ps[m]? = some (ps[m]'(by omega)) := List.getElem?_eq_getElem (by omega)
        have hd : ((Nat.gcd (lcmN (ns.take m)) L : Nat) : Int) ∣ ps[m]'(by omega) - X := by
          rw [Int.ofNat_dvd_left]
          refine gcd_lcms (ns.take m) 1 (by rw [Nat.gcd_one_left]; exact Nat.one_dvd _) fun n hn => ?_
          rw [← Int.ofNat_dvd_left]
          obtain ⟨i, hi⟩ := List.mem_iff_getElem?.mp hn
          have im : i < m := by
            have := (List.getElem?_eq_some_iff.mp hi).1
            rw [List.length_take] at this
            omega
          rw [List.getElem?_take_of_lt im] at hi
          have ep : ps[i]? = some (ps[i]'(by omega)) := List.getElem?_eq_getElem (by omega)
          have a1 := h i m n L _ _ im hi en ep eq
          have a2 : (n : Int) ∣ X - ps[i]'(by omega) := by
            have b1 := hX i n _ im hi ep
            obtain ⟨c1, c2⟩ := hp i n _ hi ep
            rw [← emod_eq_dvd, b1, Int.emod_eq_of_lt c1 c2]
          have a3 : ((Nat.gcd n L : Nat) : Int) ∣ X - ps[i]'(by omega) := Int.dvd_trans (Int.natCast_dvd_natCast.mpr (Nat.gcd_dvd_left n L)) a2
          have a4 := Int.dvd_add a1 a3
          have e : ps[i]'(by omega) - ps[m]'(by omega) + (X - ps[i]'(by omega)) = -(ps[m]'(by omega) - X) := by omega
          rw [e] at a4
          exact Int.dvd_neg.mp a4
        obtain ⟨Y, y1, y2⟩ := crt2 hd
        refine ⟨Y, fun i n p hi e1 e2 => ?_⟩
        by_cases im : i < m
        · rw [← hX i n p im e1 e2, emod_eq_dvd]
          refine Int.dvd_trans (Int.natCast_dvd_natCast.mpr (dvd_lcmN ?_)) y1
          exact List.mem_of_getElem? (i := i) (by rw [List.getElem?_take_of_lt im]; exact e1)
        · have : i = m := by omega
          subst this
          rw [en] at e1
          rw [eq] at e2
          cases e1
          cases e2
          obtain ⟨c1, c2⟩ := hp i L _ en eq
          have := emod_eq_dvd.mpr y2
          rw [this, Int.emod_eq_of_lt c1 c2]
  obtain ⟨X, hX⟩ := go ns.length
  exact ⟨X, fun i n p e1 e2 => hX i n p (List.getElem?_eq_some_iff.mp e1).1 e1 e2⟩
/-- the places of a tick -/
def plc (ns : List Nat) (t : Int) : List Int := ns.map fun n : Nat => t % (n : Int)
theorem plc_of {ns : List Nat} {ps : List Int} {X : Int} (hl : ps.length = ns.length) (h : ∀ (i n : Nat) (p : Int), ns[i]? = some n → ps[i]? = some p → X % (n : Int) = p) : ps = plc ns X := by
  refine List.ext_getElem? fun i => ?_
  unfold plc
  rw [List.getElem?_map]
  by_cases hi : i < ns.length
  · have e1 : ns[i]? = some ns[i] := List.getElem?_eq_getElem hi
    have e2 : ps[i]? = some (ps[i]'(by omega)) := List.getElem?_eq_getElem (by omega)
    rw [e1, e2, ← h i _ _ e1 e2]
    rfl
  · rw [List.getElem?_eq_none (by omega), List.getElem?_eq_none (show ns.length ≤ i by omega)]
    rfl
theorem plc_mod {ns : List Nat} {t u : Int} : plc ns t = plc ns u ↔ ((lcmN ns : Nat) : Int) ∣ t - u := by
  constructor
  · intro h
    rw [Int.ofNat_dvd_left]
    refine lcmN_dvd fun n hn => ?_
    rw [← Int.ofNat_dvd_left, ← emod_eq_dvd]
    exact List.map_inj_left.mp h n hn
  · intro h
    refine List.map_congr_left fun n hn => ?_
    rw [emod_eq_dvd]
    exact Int.dvd_trans (Int.natCast_dvd_natCast.mpr (dvd_lcmN hn)) h
theorem plc_lcm (ns : List Nat) (t : Int) : plc ns (t % (lcmN ns : Nat)) = plc ns t := by
  rw [plc_mod, ← emod_eq_dvd, Int.emod_emod]
theorem plc_one {ns : List Nat} {t u : Int} (h : plc ns t = plc ns u) (t0 : 0 ≤ t) (t1 : t < (lcmN ns : Nat)) (u0 : 0 ≤ u) (u1 : u < (lcmN ns : Nat)) : t = u := by
  have q := emod_eq_dvd.mpr (plc_mod.mp h)
  rw [Int.emod_eq_of_lt t0 t1, Int.emod_eq_of_lt u0 u1] at q
  exact q
end My

/-! Things of many kinds whose texts are known; repr of any datum. -/
namespace L2
open PySem PySem.Spec PyProof.Rows
/-! ### repr of any datum -/
def rReprV (K : PySem.W.Frag) : List V → Hp → VK → Prop := fun xs H Q => ∃ x d, xs = [x] ∧ Dp K H x d ∧ (d.showable = true ∧ d.hasDict = false ∧ d.depth ≤ 8 ∧ d.shown.length ≤ sizeLine) ∧ Q (.str d.shown) H
theorem k_reprV {X : Cx} {K : PySem.W.Frag} (hu : X.A.units + 64 < cLine) (hg : X.A.guards = some []) (e : X.K = K := by rfl) : CallR X (.builtin "repr") (rReprV K) := by
  subst e
  intro pins s σ H xs us Q I r h
  obtain ⟨x, d, rfl, hd, ⟨h2, h3, h4, h5⟩, q⟩ := h
  cases d with
  | list ds => exact my_repr hu hg pins s σ H [x] us Q I r ⟨x, _, rfl, hd, ⟨rfl, h2, h3, h4, h5⟩, q⟩
  | tuple ds => exact my_repr hu hg pins s σ H [x] us Q I r ⟨x, _, rfl, hd, ⟨rfl, h2, h3, h4, h5⟩, q⟩
  | dict kvs => cases h3
  | int i =>
    cases hd
    obtain ⟨u, rfl, t, rfl⟩ := vals1 r
    exact PySem.P.repr_of_int (of_decide_eq_true h2) ⟨.str _, H, I.tok _, ⟨_, rfl⟩, q⟩
  | str z =>
    cases hd
    obtain ⟨u, rfl, t, rfl⟩ := vals1 r
    exact PySem.P.repr_of_str ⟨.str _, H, I.tok _, ⟨_, rfl⟩, q⟩ h5
  | bool b =>
    cases hd
    obtain ⟨u, rfl, ru⟩ := vals1 r
    cases ru
    refine PySem.P.repr_of_bool ?_
    cases b
    · exact ⟨.str _, H, I.tok _, ⟨_, rfl⟩, q⟩
    · exact ⟨.str _, H, I.tok _, ⟨_, rfl⟩, q⟩
  | none =>
    cases hd
    obtain ⟨u, rfl, ru⟩ := vals1 r
    cases ru
    exact PySem.P.repr_of_none ⟨.str _, H, I.tok _, ⟨_, rfl⟩, q⟩
/-! ### l != [] -/
def rNeL0 (K : PySem.W.Frag) : R2 := fun x y H Q => ∃ a b xs, x = .ref a ∧ y = .ref b ∧ SqL K H a xs ∧ SqL K H b [] ∧ Q (.bl (!xs.isEmpty)) H
theorem op_neL0 {X : Cx} {K : PySem.W.Frag} (hu : X.A.units + 64 < cLine) (ek : X.K = K := by rfl) : OpR X (compareOp .NotEq) (rNeL0 K) := by
  subst ek
  intro pins s σ H x y v u Q I rx ry h
  obtain ⟨a, b, xs, rfl, rfl, ha, hb, q⟩ := h
  cases rx
  cases ry
  obtain ⟨us, r1, p1, z1⟩ := I.list ha
  obtain ⟨ws, r2, p2, z2⟩ := I.list hb
  have t1 : s.heap.IsList a us.toArray := p1.isList
  have t2 : s.heap.IsList b ws.toArray := p2.isList
  have l1 := r1.length
  cases r2
  cases xs with
  | nil =>
    cases r1
    exact SeqAt.RcNeAt.lists (A := X.A) (e := fun _ => true) t1 t2 rfl (by omega) (fun j h1 _ => absurd h1 (by simp)) X.prog X.w _ _ ⟨.bl _, H, I, rfl, q⟩
  | cons x r =>
    cases r1
    exact SeqAt.RcNeAt.lists_lengths (A := X.A) t1 t2 rfl (by omega) X.prog X.w _ _ ⟨.bl _, H, I, rfl, q⟩
theorem room65 {k : Nat} {A : Around} (r : Room k A) : A.units + 65 < cLine := by
  have := r.un
  omega
theorem k_notInD {X : Cx} {K : PySem.W.Frag} (hu : X.A.units + 65 < cLine) (e : X.K = K := by rfl) : OpR X (compareOp .NotIn) (rNotInD K) := by
  subst e
  exact op_notInD hu
end L2
namespace My
open PySem PySem.Spec PyProof.Rows L2
/-! ### things of many kinds -/
inductive Th where
  | int (i : Int)
  | bl (b : Bool)
  | str (s : Str)
  | non
  | lst
  | dct
  | tup (ds : List Th)
def thTy : Th → String
  | .int _ => "int"
  | .bl _ => "bool"
  | .str _ => "str"
  | .non => "NoneType"
  | .lst => "list"
  | .dct => "dict"
  | .tup _ => "tuple"
mutual
inductive Rt (K : PySem.W.Frag) (H : Hp) : V → Th → Prop
  | int (i : Int) : Rt K H (.int i) (.int i)
  | bl (b : Bool) : Rt K H (.bl b) (.bl b)
  | str (s : Str) : Rt K H (.str s) (.str s)
  | non : Rt K H .non .non
  | lst {a : Addr} {xs : List V} (h : H a = some (.lst xs)) : Rt K H (.ref a) .lst
  | dct {a : Addr} {kvs : List (Key × V)} (h : H a = some (.dK kvs)) : Rt K H (.ref a) .dct
  | tup {a : Addr} {xs : List V} {ds : List Th} (h : SqT K H a xs) (hx : RtAll K H xs ds) : Rt K H (.ref a) (.tup ds)
inductive RtAll (K : PySem.W.Frag) (H : Hp) : List V → List Th → Prop
  | nil : RtAll K H [] []
  | cons {v : V} {vs : List V} {d : Th} {ds : List Th} (h : Rt K H v d) (r : RtAll K H vs ds) : RtAll K H (v :: vs) (d :: ds)
end
variable {K : PySem.W.Frag} {H H' : Hp}
mutual
theorem Rt.same (e : Same H H') : ∀ (d : Th) (v : V), Rt K H v d → Rt K H' v d
  | .int _, _, h => by cases h; exact .int _
  | .bl _, _, h => by cases h; exact .bl _
  | .str _, _, h => by cases h; exact .str _
  | .non, _, h => by cases h; exact .non
  | .lst, _, h => by
    cases h with
    | lst h => exact .lst (e _ _ h)
  | .dct, _, h => by
    cases h with
    | dct h => exact .dct (e _ _ h)
  | .tup ds, _, h => by
    cases h with
    | tup h hx => exact .tup (Same.tk e _ _ h) (RtAll.same e ds _ hx)
theorem RtAll.same (e : Same H H') : ∀ (ds : List Th) (vs : List V), RtAll K H vs ds → RtAll K H' vs ds
  | [], _, h => by cases h; exact .nil
  | d :: r, _, h => by
    cases h with
    | cons h1 h2 => exact .cons (Rt.same e d _ h1) (RtAll.same e r _ h2)
end
theorem Rt.at (e : Same H H') {v : V} {d : Th} (h : Rt K H v d) : Rt K H' v d := Rt.same e d v h
theorem RtAll.len : ∀ {vs : List V} {ds : List Th}, RtAll K H vs ds → vs.length = ds.length
  | _, _, .nil => rfl
  | _, _, .cons _ h => by simp [RtAll.len h]
theorem RtAll.get : ∀ {vs : List V} {ds : List Th} {i : Nat} {v : V}, RtAll K H vs ds → vs[i]? = some v → ∃ d, ds[i]? = some d ∧ Rt K H v d
  | _, _, _, _, .nil, h => by cases h
  | _, _, 0, _, .cons h1 _, h => by
    cases h
    exact ⟨_, rfl, h1⟩
  | _, _, i + 1, _, .cons _ h2, h => RtAll.get (i := i) h2 h
theorem RtAll.app : ∀ {vs us : List V} {ds es : List Th}, RtAll K H vs ds → RtAll K H us es → RtAll K H (vs ++ us) (ds ++ es)
  | _, _, _, _, .nil, h => h
  | _, _, _, _, .cons h1 h2, h => .cons h1 (RtAll.app h2 h)
theorem RtAll.drop : ∀ {vs : List V} {ds : List Th} (n : Nat), RtAll K H vs ds → RtAll K H (vs.drop n) (ds.drop n)
  | _, _, 0, h => h
  | _, _, _ + 1, .nil => .nil
  | _, _, n + 1, .cons _ h => RtAll.drop n h
theorem RtAll.take : ∀ {vs : List V} {ds : List Th} (n : Nat), RtAll K H vs ds → RtAll K H (vs.take n) (ds.take n)
  | _, _, 0, _ => .nil
  | _, _, _ + 1, .nil => .nil
  | _, _, n + 1, .cons h1 h => .cons h1 (RtAll.take n h)
theorem Rt.ty {v : V} {d : Th} (h : Rt K H v d) : TyX K H v (.type (thTy d)) := by
  cases h with
  | int i => exact .base (.int i)
  | bl b => exact .base (.bl b)
  | str x => exact .base (.str x)
  | non => exact .base .non
  | lst h => exact .base (.lst h)
  | dct h => exact .base (.dK h)
  | tup h _ => exact h.ty
theorem kit_th (t c : String) (b : Bool) (h : PySem.W.kitOne K (.type t) (.type c) = some b) : PySem.W.kitOne K (.type t) (.type c) = some b := h
def isInt : Th → Bool
  | .int _ => true
  | _ => false
theorem kit_tup : ∀ d : Th, PySem.W.kitOne K (.type (thTy d)) (.type "tuple") = some (match d with | .tup _ => true | _ => false)
  | .int _ => kit_ty (by show kitB "int" "tuple" = some false; decide +kernel)
  | .bl _ => kit_ty (by show kitB "bool" "tuple" = some false; decide +kernel)
  | .str _ => kit_ty (by show kitB "str" "tuple" = some false; decide +kernel)
  | .non => kit_ty (by show kitB "NoneType" "tuple" = some false; decide +kernel)
  | .lst => kit_ty (by show kitB "list" "tuple" = some false; decide +kernel)
  | .dct => kit_ty (by show kitB "dict" "tuple" = some false; decide +kernel)
  | .tup _ => kit_ty (by show kitB "tuple" "tuple" = some true; decide +kernel)
theorem kit_str : ∀ d : Th, PySem.W.kitOne K (.type (thTy d)) (.type "str") = some (match d with | .str _ => true | _ => false)
  | .int _ => kit_ty (by show kitB "int" "str" = some false; decide +kernel)
  | .bl _ => kit_ty (by show kitB "bool" "str" = some false; decide +kernel)
  | .str _ => kit_ty (by show kitB "str" "str" = some true; decide +kernel)
  | .non => kit_ty (by show kitB "NoneType" "str" = some false; decide +kernel)
  | .lst => kit_ty (by show kitB "list" "str" = some false; decide +kernel)
  | .dct => kit_ty (by show kitB "dict" "str" = some false; decide +kernel)
  | .tup _ => kit_ty (by show kitB "tuple" "str" = some false; decide +kernel)
theorem kit_int : ∀ d : Th, PySem.W.kitOne K (.type (thTy d)) (.type "int") = some (match d with | .int _ => true | .bl _ => true | _ => false)
  | .int _ => kit_ty (by show kitB "int" "int" = some true; decide +kernel)
  | .bl _ => kit_ty (by show kitB "bool" "int" = some true; decide +kernel)
  | .str _ => kit_ty (by show kitB "str" "int" = some false; decide +kernel)
  | .non => kit_ty (by show kitB "NoneType" "int" = some false; decide +kernel)
  | .lst => kit_ty (by show kitB "list" "int" = some false; decide +kernel)
  | .dct => kit_ty (by show kitB "dict" "int" = some false; decide +kernel)
  | .tup _ => kit_ty (by show kitB "tuple" "int" = some false; decide +kernel)
theorem kit_bool : ∀ d : Th, PySem.W.kitOne K (.type (thTy d)) (.type "bool") = some (match d with | .bl _ => true | _ => false)
  | .int _ => kit_ty (by show kitB "int" "bool" = some false; decide +kernel)
  | .bl _ => kit_ty (by show kitB "bool" "bool" = some true; decide +kernel)
  | .str _ => kit_ty (by show kitB "str" "bool" = some false; decide +kernel)
  | .non => kit_ty (by show kitB "NoneType" "bool" = some false; decide +kernel)
  | .lst => kit_ty (by show kitB "list" "bool" = some false; decide +kernel)
  | .dct => kit_ty (by show kitB "dict" "bool" = some false; decide +kernel)
  | .tup _ => kit_ty (by show kitB "tuple" "bool" = some false; decide +kernel)
theorem whole_th (d : Th) : ((match d with | .int _ => true | .bl _ => true | _ => false) && !(match d with | .bl _ => true | _ => false)) = isInt d := by
  cases d <;> rfl
theorem cutV_one (xs : List V) : cutV xs (some 1) none = xs.drop 1 := by
  unfold cutV
  rw [show (some (1 : Int)) = some ((1 : Nat) : Int) from rfl, HT.sIx_nat, HT.sIx_none]
  cases xs with
  | nil => rfl
  | cons x r =>
    rw [Nat.min_eq_left (by simp)]
    simp
theorem rd_cutTh {a : Addr} {xs : List V} {ds : List Th} {Q : VK} (hT : SqT K H a xs) (hX : RtAll K H xs ds)
    (k : ∀ w H', Same H H' → Rt K H' w (.tup (ds.drop 1)) → Q w H') : rSlA K (.ref a) (some 1) none H Q := by
  have hc : RtAll K H (cutV xs (some 1) none) (ds.drop 1) := by
    rw [cutV_one]
    exact hX.drop 1
  refine ⟨a, xs, rfl, hT, fun w => ?_, fun _ p hp => ?_⟩
  · refine k _ H (Same.refl H) (.tup hT ?_)
    have e : cutV xs (some 1) none = xs := by
      unfold cutV
      rw [w.1, w.2, List.drop_zero, Nat.sub_zero, List.take_length]
    rw [e] at hc
    exact hc
  · exact k _ _ (same_upd hp _) (.tup (SqT.of upd_same) (RtAll.same (same_upd hp _) _ _ hc))
theorem Rt.tuple {v : V} {ds : List Th} (h : Rt K H v (.tup ds)) : ∃ a xs, v = .ref a ∧ SqT K H a xs ∧ RtAll K H xs ds := by
  cases h with
  | tup h1 h2 => exact ⟨_, _, rfl, h1, h2⟩
end My

namespace My
open PySem PySem.Spec PyProof.Rows L2
/-! ### the promises of the defs -/
def OkN (ds : List Int) : Prop := ds.length ≤ 6 ∧ ∀ d ∈ ds, 1 ≤ d ∧ d ≤ 64
def OkM (ns : List Nat) : Prop := ns.length ≤ 6 ∧ ∀ n ∈ ns, 1 ≤ n ∧ n ≤ 64
def OkP (ns : List Nat) (ps : List Int) : Prop := ps.length = ns.length ∧ ∀ (i n : Nat) (p : Int), ns[i]? = some n → ps[i]? = some p → 0 ≤ p ∧ p < (n : Int)
def sp_need_lengths (K : PySem.W.Frag) : Sp := fun vs H Q _ => ∃ (v : V) (ds : List Int), vs = [v] ∧ Dp K H v (dInts ds) ∧ OkN ds ∧ ∀ H', Same H H' → Q v H'
def sp_common_divisor (K : PySem.W.Frag) : Sp := fun vs H Q _ => ∃ (x y : Nat), vs = [.int x, .int y] ∧ Q (.int (Nat.gcd x y : Nat)) H
def sp__law_common (K : PySem.W.Frag) : Sp := sp_common_divisor K
def sp_common_multiple (K : PySem.W.Frag) : Sp := fun vs H Q _ => ∃ (v : V) (ns : List Nat), vs = [v] ∧ Dp K H v (dInts (NN ns)) ∧ (∀ n ∈ ns, 1 ≤ n) ∧ lcmN ns ≤ 2 ^ 40 ∧ Q (.int (lcmN ns : Nat)) H
def sp__law_round (K : PySem.W.Frag) : Sp := sp_common_multiple K
def sp_need_places (K : PySem.W.Frag) : Sp := fun vs H Q _ => ∃ (v w : V) (ns : List Nat) (ps : List Int), vs = [v, w] ∧ Dp K H v (dInts (NN ns)) ∧ Dp K H w (dInts ps) ∧ OkM ns ∧ OkP ns ps ∧ ∀ H', Same H H' → Q .non H'
def nvp (ns : List Nat) (ps : List Int) (i j : Nat) : Prop := ∃ a b p q, ns[i]? = some a ∧ ns[j]? = some b ∧ ps[i]? = some p ∧ ps[j]? = some q ∧ ¬ ((Nat.gcd a b : Nat) : Int) ∣ p - q
def sp_never_meet (K : PySem.W.Frag) : Sp := fun vs H Q _ => ∃ (v w : V) (ns : List Nat) (ps : List Int) (i j : Nat), vs = [v, w, .int i, .int j] ∧ Dp K H v (dInts (NN ns)) ∧ Dp K H w (dInts ps) ∧ OkM ns ∧ OkP ns ps ∧ i < ns.length ∧ j < ns.length ∧
  ∀ b : Bool, (b = true ↔ nvp ns ps i j) → Q (.bl b) H
abbrev dTick (t : Int) : PyData := .tuple [.str "tick", .int t]
abbrev dNever (i j : Nat) : PyData := .tuple [.str "never", .int (i : Nat), .int (j : Nat)]
inductive IsPap (ns : List Nat) (ps : List Int) : PyData → Prop
  | nev {i j : Nat} (hij : i < j) (hj : j < ns.length) (h : nvp ns ps i j) (first : ∀ i' j', i' < j' → j' < ns.length → (i' < i ∨ i' = i ∧ j' < j) → ¬ nvp ns ps i' j') : IsPap ns ps (dNever i j)
  | tck {t : Int} (h : ∀ i' j', i' < j' → j' < ns.length → ¬ nvp ns ps i' j') (h0 : 0 ≤ t) (h1 : t < (lcmN ns : Nat)) (h2 : ps = plc ns t) : IsPap ns ps (dTick t)
theorem IsPap.one {ns : List Nat} {ps : List Int} {d e : PyData} (h : IsPap ns ps d) (g : IsPap ns ps e) : d = e := by
  cases h with
  | nev h1 h2 h3 h4 =>
    cases g with
    | nev g1 g2 g3 g4 =>
      rename_i i j i' j'
      have a := h4 i' j' g1 g2
      have b := g4 i j h1 h2
      have a' : ¬ (i' < i ∨ i' = i ∧ j' < j) := fun z => a z g3
      have b' : ¬ (i < i' ∨ i = i' ∧ j < j') := fun z => b z h3
      have e1 : i = i' := by omega
      subst e1
      have e2 : j = j' := by omega
      subst e2
      rfl
    | tck g1 g2 g3 g4 => exact absurd h3 (g1 _ _ h1 h2)
  | tck h1 h2 h3 h4 =>
    cases g with
    | nev g1 g2 g3 g4 => exact absurd g3 (h1 _ _ g1 g2)
    | tck g1 g2 g3 g4 =>
      rw [plc_one (h4.symm.trans g4) h2 h3 g2 g3]
theorem nn_get {ns : List Nat} {i : Nat} {c : Int} (h : (NN ns)[i]? = some c) : ∃ n : Nat, ns[i]? = some n ∧ c = (n : Int) := by
  unfold NN at h
  rw [List.getElem?_map] at h
  cases e : ns[i]? with
  | none =>
    rw [e] at h
    cases h
  | some n =>
    rw [e] at h
    exact ⟨n, rfl, (Option.some.inj h).symm⟩
theorem nn_len (ns : List Nat) : (NN ns).length = ns.length := by
  unfold NN
  rw [List.length_map]
theorem nn_at {ns : List Nat} {i n : Nat} (h : ns[i]? = some n) : atI ((NN ns).map V.int) ((i : Nat) : Int) = some (.int (n : Nat)) := by
  refine at_of (j := i) rfl ?_
  unfold NN
  rw [List.getElem?_map, List.getElem?_map, h]
  rfl
theorem int_at {ps : List Int} {i : Nat} {p : Int} (h : ps[i]? = some p) : atI (ps.map V.int) ((i : Nat) : Int) = some (.int p) := by
  refine at_of (j := i) rfl ?_
  rw [List.getElem?_map, h]
  rfl
theorem lcm_a (m n : Nat) : m * (n / Nat.gcd m n) = Nat.lcm m n := by
  unfold Nat.lcm
  rw [Nat.mul_div_assoc m (Nat.gcd_dvd_right m n)]
theorem lcm_b (m n : Nat) : m / Nat.gcd m n * n = Nat.lcm m n := by
  unfold Nat.lcm
  rw [Nat.mul_comm m n, Nat.mul_div_assoc n (Nat.gcd_dvd_left m n), Nat.mul_comm]
theorem lcmN_take_le {ns : List Nat} (h : ∀ n ∈ ns, 1 ≤ n) (i : Nat) : lcmN (ns.take i) ≤ lcmN ns :=
  Nat.le_of_dvd (lcmN_pos h) (lcmN_dvd fun n hn => dvd_lcmN (List.mem_of_mem_take hn))
theorem log_nat {n : Nat} (h : n ≤ 2 ^ 40) : ((n : Nat) : Int).natAbs.log2 < 9000 := by
  rw [Int.natAbs_natCast]
  rcases Nat.eq_zero_or_pos n with e | e
  · rw [e]
    decide
  · have := (Nat.log2_lt (show n ≠ 0 by omega) (k := 41)).mpr (by omega)
    omega
theorem mem_take_get {ns : List Nat} {i n : Nat} (h : ns[i]? = some n) : n ∈ ns := List.mem_of_getElem? h
theorem fm_nat (u j : Nat) : ((u : Int)).fmod (j : Int) = ((u % j : Nat) : Int) := by
  rw [Int.fmod_eq_emod_of_nonneg _ (by omega)]
  rfl
theorem rep_bl {n : Nat} : ((List.replicate n true).all id) = true := by simp
theorem rep_more {n : Nat} : some (HO.lst ((List.replicate n true).map V.bl ++ [V.bl true])) = some (HO.lst ((List.replicate (n + 1) true).map V.bl)) := by
  rw [List.replicate_succ', List.map_append]
  rfl
theorem plc_len (ns : List Nat) (t : Int) : (plc ns t).length = ns.length := by
  unfold plc
  rw [List.length_map]
theorem plc_get {ns : List Nat} {t p : Int} {i n : Nat} (hn : ns[i]? = some n) (hp : (plc ns t)[i]? = some p) : p = t % (n : Int) := by
  unfold plc at hp
  rw [List.getElem?_map, hn] at hp
  exact (Option.some.inj hp).symm
theorem okm_n {ns : List Nat} (ok : OkM ns) : OkN (NN ns) := by
  refine ⟨by rw [nn_len]; exact ok.1, fun d hd => ?_⟩
  obtain ⟨n, hn, rfl⟩ := List.mem_map.mp hd
  have := ok.2 n hn
  omega
theorem okm_lcm {ns : List Nat} (ok : OkM ns) : lcmN ns ≤ 2 ^ 40 := by
  refine Nat.le_trans (lcmN_le (b := 64) (by decide) fun n hn => (ok.2 n hn).2) (Nat.le_trans (Nat.pow_le_pow_right (by decide) ok.1) (by decide))
theorem okm_take {ns : List Nat} (ok : OkM ns) (i : Nat) : lcmN (ns.take i) ≤ 2 ^ 40 := Nat.le_trans (lcmN_take_le (fun n hn => (ok.2 n hn).1) i) (okm_lcm ok)
theorem lcm_two (a b : Nat) : lcmN [a, b] = Nat.lcm a b := by
  show Nat.lcm (Nat.lcm 1 a) b = _
  rw [Nat.lcm_one_left]
/-- the rests by R and by n settle those by both -/
theorem two_rests {R n : Nat} {X u : Int} (h0 : 0 ≤ u) (h1 : u ≤ X % ((Nat.lcm R n : Nat) : Int)) (hR : u % (R : Int) = X % (R : Int)) (hn : u % (n : Int) = X % (n : Int)) (hp : 0 < Nat.lcm R n) : u = X % ((Nat.lcm R n : Nat) : Int) := by
  have d : ((Nat.lcm R n : Nat) : Int) ∣ u - X := by
    rw [Int.ofNat_dvd_left]
    exact Nat.lcm_dvd (Int.ofNat_dvd_left.mp (emod_eq_dvd.mp hR)) (Int.ofNat_dvd_left.mp (emod_eq_dvd.mp hn))
  have q := emod_eq_dvd.mpr d
  have l := Int.emod_lt_of_pos X (show (0 : Int) < ((Nat.lcm R n : Nat) : Int) by omega)
  rw [Int.emod_eq_of_lt h0 (by omega)] at q
  exact q
theorem step_rest {R n : Nat} {X u : Int} (hR : u % (R : Int) = X % (R : Int)) (hl : u < X % ((Nat.lcm R n : Nat) : Int)) (hRp : 0 < R) : u + R ≤ X % ((Nat.lcm R n : Nat) : Int) := by
  have e : (X % ((Nat.lcm R n : Nat) : Int)) % (R : Int) = X % (R : Int) := Int.emod_emod_of_dvd X (Int.natCast_dvd_natCast.mpr (Nat.dvd_lcm_left R n))
  have d : (R : Int) ∣ X % ((Nat.lcm R n : Nat) : Int) - u := emod_eq_dvd.mp (e.trans hR.symm)
  obtain ⟨c, hc⟩ := d
  have c1 : 1 ≤ c := by
    rcases Int.lt_or_le 0 c with q | q
    · exact q
    · have := Int.mul_nonneg (show (0 : Int) ≤ (R : Int) by omega) (show 0 ≤ -c by omega)
      rw [Int.mul_neg] at this
      omega
  have := Int.mul_le_mul_of_nonneg_left c1 (show (0 : Int) ≤ (R : Int) by omega)
  omega
def bothL (n : Nat) (p : Int) (m : Nat) : List Int := ((List.range m).filter fun t : Nat => decide ((t : Int) % (n : Int) = p)).map fun t : Nat => (t : Int)
theorem both_more (n : Nat) (p : Int) (m : Nat) : bothL n p (m + 1) = if (m : Int) % (n : Int) = p then bothL n p m ++ [(m : Int)] else bothL n p m := by
  unfold bothL
  rw [List.range_succ, List.filter_append, List.map_append]
  by_cases h : (m : Int) % (n : Int) = p
  · simp [h]
  · simp [h]
theorem both_len (n : Nat) (p : Int) (m : Nat) : (bothL n p m).length ≤ m := by
  unfold bothL
  rw [List.length_map]
  have q := List.length_filter_le (fun t : Nat => decide ((t : Int) % (n : Int) = p)) (List.range m)
  rw [List.length_range] at q
  exact q
theorem mem_both {n : Nat} {p : Int} {m : Nat} {c : Int} : c ∈ bothL n p m ↔ 0 ≤ c ∧ c < (m : Int) ∧ c % (n : Int) = p := by
  unfold bothL
  rw [List.mem_map]
  constructor
  · rintro ⟨t, ht, rfl⟩
    obtain ⟨h1, h2⟩ := List.mem_filter.mp ht
    have := List.mem_range.mp h1
    exact ⟨by omega, by omega, of_decide_eq_true h2⟩
  · rintro ⟨h0, h1, h2⟩
    refine ⟨c.toNat, List.mem_filter.mpr ⟨List.mem_range.mpr (by omega), ?_⟩, Int.toNat_of_nonneg h0⟩
    rw [show ((c.toNat : Nat) : Int) = c by omega]
    exact decide_eq_true h2
theorem eqv_dList (xs ys : List Int) : PyData.eqv (dList xs) (dList ys) = decide (xs = ys) := eqv_ints xs ys
theorem nv_both {ns : List Nat} {ps : List Int} {i j a b : Nat} {p q : Int} (ha : ns[i]? = some a) (hb : ns[j]? = some b) (hp : ps[i]? = some p) (hq : ps[j]? = some q) (a1 : 1 ≤ a) (b1 : 1 ≤ b) (p0 : 0 ≤ p) (p1 : p < a) (q0 : 0 ≤ q) (q1 : q < b) :
    nvp ns ps i j ↔ (bothL a p (a * b)).filter (fun c => decide (c % (b : Int) = q)) = [] := by
  rw [List.filter_eq_nil_iff]
  constructor
  · rintro ⟨a', b', p', q', h1, h2, h3, h4, h5⟩ c hc z
    rw [ha] at h1
    rw [hb] at h2
    rw [hp] at h3
    rw [hq] at h4
    cases h1
    cases h2
    cases h3
    cases h4
    obtain ⟨_, _, c3⟩ := mem_both.mp hc
    have c4 : c % (b : Int) = q := of_decide_eq_true z
    apply h5
    have d1 : ((Nat.gcd a b : Nat) : Int) ∣ c - p := Int.dvd_trans (Int.natCast_dvd_natCast.mpr (Nat.gcd_dvd_left a b)) (emod_eq_dvd.mp (by rw [c3, Int.emod_eq_of_lt p0 p1]))
    have d2 : ((Nat.gcd a b : Nat) : Int) ∣ c - q := Int.dvd_trans (Int.natCast_dvd_natCast.mpr (Nat.gcd_dvd_right a b)) (emod_eq_dvd.mp (by rw [c4, Int.emod_eq_of_lt q0 q1]))
    have d3 := Int.dvd_sub d2 d1
    have e : c - q - (c - p) = p - q := by omega
    rw [e] at d3
    exact d3
  · intro h
    refine ⟨a, b, p, q, ha, hb, hp, hq, fun z => ?_⟩
    have z' : ((Nat.gcd a b : Nat) : Int) ∣ q - p := by
      have e : q - p = -(p - q) := by omega
      rw [e]
      exact Int.dvd_neg.mpr z
    obtain ⟨Y, y1, y2⟩ := crt2 z'
    have ab : 0 < a * b := Nat.mul_pos a1 b1
    have e1 : (Y % ((a * b : Nat) : Int)) % (a : Int) = p := by
      rw [Int.emod_emod_of_dvd Y (Int.natCast_dvd_natCast.mpr (Nat.dvd_mul_right a b)), emod_eq_dvd.mpr y1, Int.emod_eq_of_lt p0 p1]
    have e2 : (Y % ((a * b : Nat) : Int)) % (b : Int) = q := by
      rw [Int.emod_emod_of_dvd Y (Int.natCast_dvd_natCast.mpr (Nat.dvd_mul_left b a)), emod_eq_dvd.mpr y2, Int.emod_eq_of_lt q0 q1]
    refine h (Y % ((a * b : Nat) : Int)) (mem_both.mpr ⟨Int.emod_nonneg _ (by omega), Int.emod_lt_of_pos _ (by omega), e1⟩) ?_
    exact decide_eq_true e2
theorem take_filter {xs : List Int} {i : Nat} {x : Int} (f : Int → Bool) (h : xs[i]? = some x) : (xs.take (i + 1)).filter f = (xs.take i).filter f ++ (if f x = true then [x] else []) := by
  rw [take_more h, List.filter_append]
  congr 1
  cases e : f x <;> simp [e]
theorem meet_all {ns : List Nat} {ps : List Int} (ok : OkM ns) (okp : OkP ns ps) (h : ∀ i j, i < j → j < ns.length → ¬ nvp ns ps i j) : ∃ X : Int, ps = plc ns X := by
  obtain ⟨X, hX⟩ := crt_all okp.1 okp.2 fun i j a b p q hij ha hb hp hq => Classical.byContradiction fun z =>
    h i j hij (List.getElem?_eq_some_iff.mp hb).1 ⟨a, b, p, q, ha, hb, hp, hq, z⟩
  exact ⟨X, plc_of okp.1 hX⟩
theorem plc_ok {ns : List Nat} (ok : OkM ns) (X : Int) : OkP ns (plc ns X) := by
  refine ⟨plc_len ns X, fun i n p hn hp => ?_⟩
  have n1 := (ok.2 n (List.mem_of_getElem? hn)).1
  rw [plc_get hn hp]
  exact ⟨Int.emod_nonneg _ (by omega), Int.emod_lt_of_pos _ (by omega)⟩
theorem plc_nv {ns : List Nat} {X : Int} (i j : Nat) : ¬ nvp ns (plc ns X) i j := by
  rintro ⟨a, b, p, q, ha, hb, hp, hq, h⟩
  rw [plc_get ha hp, plc_get hb hq] at h
  apply h
  have d1 : ((Nat.gcd a b : Nat) : Int) ∣ X % (a : Int) - X := Int.dvd_trans (Int.natCast_dvd_natCast.mpr (Nat.gcd_dvd_left a b)) (emod_eq_dvd.mp (Int.emod_emod X a))
  have d2 : ((Nat.gcd a b : Nat) : Int) ∣ X % (b : Int) - X := Int.dvd_trans (Int.natCast_dvd_natCast.mpr (Nat.gcd_dvd_right a b)) (emod_eq_dvd.mp (Int.emod_emod X b))
  have d3 := Int.dvd_sub d1 d2
  have e : X % (a : Int) - X - (X % (b : Int) - X) = X % (a : Int) - X % (b : Int) := by omega
  rw [e] at d3
  exact d3
theorem not_dec_eq {a b : Int} : (!decide (V.int a = V.int b)) = true ↔ a ≠ b := by
  simp
theorem emod_self_le {a b : Int} (h : 0 ≤ a) (hb : 0 < b) : a % b ≤ a := by
  have q := Int.mul_ediv_add_emod a b
  have r := Int.mul_nonneg (Int.le_of_lt hb) (Int.ediv_nonneg h (Int.le_of_lt hb))
  omega
theorem dec_eq {x y : Int} : decide (V.int x = V.int y) = true ↔ x = y := by simp
theorem plc_some {ns : List Nat} {X : Int} {i n : Nat} (h : ns[i]? = some n) : (plc ns X)[i]? = some (X % (n : Int)) := by
  unfold plc
  rw [List.getElem?_map, h]
  rfl
theorem fm_int {t : Int} {n : Nat} : t.fmod (n : Int) = t % (n : Int) := Int.fmod_eq_emod_of_nonneg _ (by omega)
theorem nn_of {ds : List Int} (h : ∀ d ∈ ds, 1 ≤ d) : ∃ ns : List Nat, ds = NN ns := by
  refine ⟨ds.map Int.toNat, ?_⟩
  unfold NN
  rw [List.map_map]
  refine (List.map_id _).symm.trans (List.map_congr_left fun d hd => ?_)
  have := h d hd
  show d = ((d.toNat : Nat) : Int)
  omega
theorem min3 (z : Int) (h : 0 ≤ z) : 0 ≤ (if (3 : Int) < z then 3 else z) ∧ (if (3 : Int) < z then 3 else z) ≤ 3 := by
  split <;> omega
theorem pap_tells {ns : List Nat} {ps : List Int} {d : PyData} (ok : OkM ns) (h : IsPap ns ps d) : Tells d := by
  have g : (10 : Nat) ^ 40 = 10000000000000000000000000000000000000000 := by decide
  cases h with
  | nev h1 h2 h3 h4 =>
    rename_i i j
    have := ok.1
    refine tells 40 (by decide) (by decide) rfl ?_ (Nat.le_of_ble_eq_true rfl) ?_
    · show (decide ((reprText "never").length ≤ 1000) && (decide (((i : Nat) : Int).natAbs < 10 ^ 40) && (decide (((j : Nat) : Int).natAbs < 10 ^ 40) && true))) = true
      rw [decide_eq_true (by omega : ((i : Nat) : Int).natAbs < 10 ^ 40), decide_eq_true (by omega : ((j : Nat) : Int).natAbs < 10 ^ 40)]
      decide +kernel
    · show 1000 + 2 + (41 + 2 + (41 + 2 + 0)) + 4 ≤ 16000000
      decide
  | tck h1 h2 h3 h4 =>
    rename_i t
    have q := okm_lcm ok
    refine tells 40 (by decide) (by decide) rfl ?_ (Nat.le_of_ble_eq_true rfl) ?_
    · show (decide ((reprText "tick").length ≤ 1000) && (decide (t.natAbs < 10 ^ 40) && true)) = true
      rw [decide_eq_true (by omega : t.natAbs < 10 ^ 40)]
      decide +kernel
    · show 1000 + 2 + (41 + 2 + 0) + 4 ≤ 16000000
      decide
theorem pap_nil : IsPap [] [] (dTick 0) := .tck (fun i j h1 h2 => absurd h2 (Nat.not_lt_zero _)) (by decide) (by decide) rfl
theorem nil_shown : (dTick 0).shown = "('tick', 0)" := by decide +kernel

def firstP (ns : List Nat) (ps : List Int) (i j : Nat) : Prop := i < j ∧ j < ns.length ∧ nvp ns ps i j ∧ ∀ i' j', i' < j' → j' < ns.length → (i' < i ∨ i' = i ∧ j' < j) → ¬ nvp ns ps i' j'
def pairD (p : Nat × Nat) : PyData := dInts [((p.1 : Nat) : Int), ((p.2 : Nat) : Int)]
theorem canLay_pairs : ∀ prs : List (Nat × Nat), PyData.canLayAll0 (prs.map pairD) = true
  | [] => by simp [PyData.canLayAll0]
  | p :: r => by
    rw [List.map_cons]
    simp only [PyData.canLayAll0, Bool.and_eq_true]
    refine ⟨?_, canLay_pairs r⟩
    simp [pairD, PyData.canLay0, PyData.canLayAll0]
theorem depth_pairs : ∀ prs : List (Nat × Nat), PyData.depthAll (prs.map pairD) ≤ 1
  | [] => by simp [PyData.depthAll]
  | p :: r => by
    have := depth_pairs r
    rw [List.map_cons]
    simp only [PyData.depthAll]
    have e : (pairD p).depth = 1 := by simp [pairD, PyData.depth, PyData.depthAll]
    omega
theorem shaped_pairs (prs : List (Nat × Nat)) : SeqAt.shaped (.list (prs.map pairD)) = true := by
  have h := depth_pairs prs
  show (PyData.canLay0 (.list (prs.map pairD)) && decide (PyData.depth (.list (prs.map pairD)) ≤ 64)) = true
  rw [Bool.and_eq_true]
  refine ⟨?_, decide_eq_true (by simp only [PyData.depth]; omega)⟩
  simp only [PyData.canLay0]
  exact canLay_pairs prs
theorem eqv_pairs (prs : List (Nat × Nat)) : PyData.eqv (.list (prs.map pairD)) (.list []) = prs.isEmpty := by
  cases prs <;> rfl
/-- a list of pairs of ints, != [] -/
theorem rd_ne_nilP {K : PySem.W.Frag} {H : Hp} {l : Addr} {xs : List V} {prs : List (Nat × Nat)} {σ : L2.St} {Q : VK} (hl : H l = some (.lst xs)) (hx : DpAll K H xs (prs.map pairD))
    (k : ∀ p, H p = none → Q (.bl (!prs.isEmpty)) (upd H p (.lst []))) : tLst tNil σ H fun y H2 => rNeD K (.ref l) y H2 Q := by
  refine ⟨(by show 0 ≤ sizeLine; decide), fun p hp => ?_⟩
  have s := same_upd hp (.lst [])
  refine ⟨.list (prs.map pairD), .list [], .lst (SqL.of (s _ _ hl)) (DpAll.same s _ _ hx), .lst (SqL.of upd_same) .nil, shaped_pairs prs, by decide +kernel, ?_⟩
  rw [eqv_pairs]
  exact k p hp
theorem IsPap.first {ns : List Nat} {ps : List Int} {d : PyData} {i j : Nat} (h : IsPap ns ps d) (f : firstP ns ps i j) : d = dNever i j := h.one (.nev f.1 f.2.1 f.2.2.1 f.2.2.2)
theorem IsPap.none {ns : List Nat} {ps : List Int} {d : PyData} (h : IsPap ns ps d) (f : ∀ i' j', i' < j' → j' < ns.length → ¬ nvp ns ps i' j') : ∃ t, d = dTick t ∧ 0 ≤ t ∧ t < (lcmN ns : Nat) ∧ ps = plc ns t := by
  cases h with
  | nev h1 h2 h3 h4 => exact absurd h3 (f _ _ h1 h2)
  | tck h1 h2 h3 h4 => exact ⟨_, rfl, h2, h3, h4⟩
theorem never_str : (V.str "never") = V.str "never" := rfl
theorem min4' (z : Int) (h : 0 ≤ z) : 0 ≤ (if (4 : Int) < z then 4 else z) ∧ (if (4 : Int) < z then 4 else z) ≤ 4 := by
  split <;> omega
theorem div64 {y : Int} (h1 : 1 ≤ y) (h2 : y ≤ 8) : 1 ≤ (64 : Int).fdiv y ∧ (64 : Int).fdiv y ≤ 64 := by
  rcases (by omega : y = 1 ∨ y = 2 ∨ y = 3 ∨ y = 4 ∨ y = 5 ∨ y = 6 ∨ y = 7 ∨ y = 8) with e | e | e | e | e | e | e | e <;> subst e <;> decide
theorem times64 {y r : Int} (h1 : 1 ≤ y) (h2 : y ≤ 8) (r0 : 0 ≤ r) (r1 : r < (64 : Int).fdiv y) : 1 ≤ y * (1 + r) ∧ y * (1 + r) ≤ 64 := by
  rcases (by omega : y = 1 ∨ y = 2 ∨ y = 3 ∨ y = 4 ∨ y = 5 ∨ y = 6 ∨ y = 7 ∨ y = 8) with e | e | e | e | e | e | e | e <;> subst e
  · have : (64 : Int).fdiv 1 = 64 := by decide
    omega
  · have : (64 : Int).fdiv 2 = 32 := by decide
    omega
  · have : (64 : Int).fdiv 3 = 21 := by decide
    omega
  · have : (64 : Int).fdiv 4 = 16 := by decide
    omega
  · have : (64 : Int).fdiv 5 = 12 := by decide
    omega
  · have : (64 : Int).fdiv 6 = 10 := by decide
    omega
  · have : (64 : Int).fdiv 7 = 9 := by decide
    omega
  · have : (64 : Int).fdiv 8 = 8 := by decide
    omega
theorem to_pairs : ∀ prs : List (Nat × Nat), tupOnly.go (prs.map pairD) = true
  | [] => rfl
  | p :: r => by
    show (tupOnly (pairD p) && tupOnly.go (r.map pairD)) = true
    rw [to_pairs r]
    rfl
theorem rep_d {d e : PyData} (h : d = e) : decide (V.str d.shown = V.str e.shown) = true := decide_eq_true (by rw [h])
theorem okp_put {ls : List Nat} {ps : List Int} {j l : Nat} {r : Int} (h : OkP ls ps) (hj : ls[j]? = some l) (r0 : 0 ≤ r) (r1 : r < (l : Int)) : OkP ls (ps.take j ++ [r] ++ ps.drop (j + 1)) := by
  have jl : j < ps.length := by
    have := (List.getElem?_eq_some_iff.mp hj).1
    rw [h.1]
    exact this
  have e : ps.take j ++ [r] ++ ps.drop (j + 1) = ps.set j r := by
    rw [List.set_eq_take_append_cons_drop, if_pos jl, List.append_assoc]
    rfl
  rw [e]
  refine ⟨by rw [List.length_set]; exact h.1, fun i n p hn hp => ?_⟩
  by_cases q : j = i
  · subst q
    rw [List.getElem?_set_self jl] at hp
    cases hp
    rw [hj] at hn
    cases hn
    exact ⟨r0, r1⟩
  · rw [List.getElem?_set_ne q] at hp
    exact h.2 i n p hn hp
theorem nn_nil {ls : List Nat} : decide (NN ls = []) = ls.isEmpty := by
  cases ls <;> rfl
/-! ### things judged -/
def smpT (n : Int) : Th → Bool
  | .tup ds => decide (((ds.length : Nat) : Int) = n) && (ds.map isInt).all id
  | _ => false
def bgsH (u : Str) : List Th → Bool
  | .str s :: _ => decide (V.str s = V.str u)
  | _ => false
def bgs (u : Str) (n : Int) : Th → Bool
  | .tup ds => decide (((ds.length : Nat) : Int) = n) && bgsH u ds
  | _ => false
def tickOk (ns : List Nat) (ps : List Int) (t : Int) : Prop := 0 ≤ t ∧ t < (lcmN ns : Nat) ∧ ps = plc ns t
def nevOk (ns : List Nat) (ps : List Int) (i j : Int) : Prop := 0 ≤ i ∧ i < j ∧ j < (ns.length : Int) ∧ nvp ns ps i.toNat j.toNat
open Classical in
noncomputable def jd (ns : List Nat) (ps : List Int) : Th → String × Bool
  | .tup [.str s, .int t] => if s = "tick" then ("tick", decide (tickOk ns ps t)) else ("form", false)
  | .tup [.str s, .int i, .int j] => if s = "never" then ("never", decide (nevOk ns ps i j)) else ("form", false)
  | _ => ("form", false)
def jdD (x : String × Bool) : PyData := if x.2 then .str x.1 else .list [.str x.1]
def sp_are_samples (K : PySem.W.Frag) : Sp := fun vs H Q _ => ∃ (v : V) (n : Int) (d : Th), vs = [v, .int n] ∧ Rt K H v d ∧ n ≤ 500 ∧ ∀ H', Same H H' → Q (.bl (smpT n d)) H'
def sp_begins (K : PySem.W.Frag) : Sp := fun vs H Q _ => ∃ (v : V) (u : Str) (n : Int) (d : Th), vs = [v, .str u, .int n] ∧ Rt K H v d ∧ 1 ≤ n ∧ Q (.bl (bgs u n d)) H
def sp_is_first_meeting (K : PySem.W.Frag) : Sp := fun vs H Q _ => ∃ (v w : V) (ns : List Nat) (ps : List Int) (t : Int), vs = [v, w, .int t] ∧ Dp K H v (dInts (NN ns)) ∧ Dp K H w (dInts ps) ∧ OkM ns ∧ OkP ns ps ∧ ∀ (b : Bool) H', (b = true ↔ tickOk ns ps t) → Same H H' → Q (.bl b) H'
def sp__law_is_stranger (K : PySem.W.Frag) : Sp := fun vs H Q _ => ∃ (v w : V) (ns : List Nat) (ps : List Int) (i j : Int), vs = [v, w, .int i, .int j] ∧ Dp K H v (dInts (NN ns)) ∧ Dp K H w (dInts ps) ∧ OkM ns ∧ OkP ns ps ∧ ∀ b : Bool, (b = true ↔ nevOk ns ps i j) → Q (.bl b) H
def sp__law_is_number (K : PySem.W.Frag) : Sp := fun vs H Q _ => ∃ (x : V) (t : Value) (b1 b2 : Bool), vs = [x] ∧ TyX K H x t ∧ PySem.W.kitOne K t (.type "int") = some b1 ∧ PySem.W.kitOne K t (.type "bool") = some b2 ∧ Q (.bl (b1 && !b2)) H
def sp_check_meetingX (K : PySem.W.Frag) (C : Addr) : Sp := fun vs H Q E => ∃ (v w u : V) (ns : List Nat) (ps : List Int) (d : Th), vs = [v, w, u] ∧ Dp K H v (dInts (NN ns)) ∧ Dp K H w (dInts ps) ∧ Rt K H u d ∧ OkM ns ∧ OkP ns ps ∧
  ((jd ns ps d).2 = true → ∀ H', Same H H' → Q (.str (jd ns ps d).1) H') ∧
  ((jd ns ps d).2 = false → ∀ dd w' H', Same H H' → H' dd = some (.xd [("part", w')]) → Dp K H' w' (.str (jd ns ps d).1) → E (.ref C) (some dd) H')
def sp__law_outcome (K : PySem.W.Frag) : Sp := fun vs H Q _ => ∃ (v w u : V) (ns : List Nat) (ps : List Int) (d : Th), vs = [v, w, u] ∧ Dp K H v (dInts (NN ns)) ∧ Dp K H w (dInts ps) ∧ Rt K H u d ∧ OkM ns ∧ OkP ns ps ∧ ∀ z H', Same H H' → Dp K H' z (jdD (jd ns ps d)) → Q z H'
def sp__law_due (K : PySem.W.Frag) : Sp := fun vs H Q _ => ∃ (v w u : V) (ns : List Nat) (ps : List Int) (d : Th), vs = [v, w, u] ∧ Dp K H v (dInts (NN ns)) ∧ Dp K H w (dInts ps) ∧ Rt K H u d ∧ OkM ns ∧ OkP ns ps ∧ (∀ s ds, d = .tup (.str s :: ds) → PyData.strOk s = true) ∧ ∀ z H', Same H H' → Dp K H' z (jdD (jd ns ps d)) → Q z H'
theorem rt_ints {K : PySem.W.Frag} {H : Hp} {a : Addr} {ps : List Int} (h : SqT K H a (ps.map V.int)) : Rt K H (.ref a) (.tup (ps.map Th.int)) := by
  refine .tup h ?_
  clear h
  induction ps with
  | nil => exact .nil
  | cons p r ih => exact .cons (.int p) ih
theorem smp_ints {ps : List Int} {n : Int} (h : ((ps.length : Nat) : Int) = n) : smpT n (.tup (ps.map Th.int)) = true := by
  show (decide ((((ps.map Th.int).length : Nat) : Int) = n) && ((ps.map Th.int).map isInt).all id) = true
  rw [List.length_map, decide_eq_true h, Bool.true_and, List.map_map]
  simp [isInt]
theorem plc_snoc (l : List Nat) (n : Nat) (t : Int) : plc (l ++ [n]) t = plc l t ++ [t % (n : Int)] := by
  unfold plc
  rw [List.map_append]
  rfl
theorem all_snoc (bs : List Bool) (b : Bool) : ((bs ++ [b]).all id = true) ↔ (bs.all id = true ∧ b = true) := by
  rw [List.all_append]
  simp
theorem snoc_iff {l m : List Int} {p q r : Int} (e : q = r) : ((l = m) ∧ decide (V.int q = V.int p) = true) ↔ l ++ [p] = m ++ [r] := by
  subst e
  constructor
  · rintro ⟨rfl, h⟩
    have := of_decide_eq_true h
    injection this with this
    rw [this]
  · intro h
    obtain ⟨h1, h2⟩ := List.append_inj' h rfl
    exact ⟨h1, decide_eq_true (by rw [List.head_eq_of_cons_eq h2])⟩
theorem nvp_iff {ns : List Nat} {ps : List Int} {i j a b : Nat} {p q : Int} (ei : ns[i]? = some a) (ej : ns[j]? = some b) (fi : ps[i]? = some p) (fj : ps[j]? = some q) : (!decide (V.int ((p - q).fmod ((Nat.gcd a b : Nat) : Int)) = V.int 0)) = true ↔ nvp ns ps i j := by
  rw [Int.fmod_eq_emod_of_nonneg _ (by omega)]
  constructor
  · intro h
    refine ⟨_, _, _, _, ei, ej, fi, fj, fun z => ?_⟩
    rw [Int.emod_eq_zero_of_dvd z] at h
    cases h
  · rintro ⟨a', b', p', q', h1, h2, h3, h4, h5⟩
    rw [ei] at h1
    rw [ej] at h2
    rw [fi] at h3
    rw [fj] at h4
    cases h1
    cases h2
    cases h3
    cases h4
    simp
    intro z
    exact h5 (Int.dvd_of_emod_eq_zero z)
theorem bgs_of {u : Str} {n : Int} {d : Th} (h : bgs u n d = true) : ∃ ds, d = .tup (.str u :: ds) ∧ ((ds.length + 1 : Nat) : Int) = n := by
  cases d with
  | tup ds =>
    cases ds with
    | nil =>
      have h' : (decide (((([] : List Th).length : Nat) : Int) = n) && false) = true := h
      simp at h'
    | cons x r =>
      have h' : (decide ((((x :: r).length : Nat) : Int) = n) && bgsH u (x :: r)) = true := h
      rw [Bool.and_eq_true] at h'
      cases x with
      | str s =>
        have h2 : V.str s = V.str u := of_decide_eq_true h'.2
        injection h2 with h2
        subst h2
        exact ⟨r, rfl, of_decide_eq_true h'.1⟩
      | int i => cases h'.2
      | bl i => cases h'.2
      | non => cases h'.2
      | lst => cases h'.2
      | dct => cases h'.2
      | tup i => cases h'.2
  | int i => cases h
  | bl i => cases h
  | str i => cases h
  | non => cases h
  | lst => cases h
  | dct => cases h
theorem int_of {d : Th} (h : isInt d = true) : ∃ i, d = .int i := by
  cases d with
  | int i => exact ⟨i, rfl⟩
  | bl i => cases h
  | str i => cases h
  | non => cases h
  | lst => cases h
  | dct => cases h
  | tup i => cases h
theorem smp_one {ds : List Th} (h : smpT 1 (.tup ds) = true) : ∃ t, ds = [.int t] := by
  have h' : (decide (((ds.length : Nat) : Int) = 1) && (ds.map isInt).all id) = true := h
  rw [Bool.and_eq_true] at h'
  have hl := of_decide_eq_true h'.1
  match ds, hl, h'.2 with
  | [x], _, h2 =>
    have h3 : (isInt x && true) = true := h2
    rw [Bool.and_true] at h3
    obtain ⟨t, rfl⟩ := int_of h3
    exact ⟨t, rfl⟩
  | [], hl, _ => simp at hl
  | _ :: _ :: _, hl, _ => simp at hl; omega
theorem smp_two {ds : List Th} (h : smpT 2 (.tup ds) = true) : ∃ i j, ds = [.int i, .int j] := by
  have h' : (decide (((ds.length : Nat) : Int) = 2) && (ds.map isInt).all id) = true := h
  rw [Bool.and_eq_true] at h'
  have hl := of_decide_eq_true h'.1
  match ds, hl, h'.2 with
  | [x, y], _, h2 =>
    have h3 : (isInt x && (isInt y && true)) = true := h2
    rw [Bool.and_true, Bool.and_eq_true] at h3
    obtain ⟨i, rfl⟩ := int_of h3.1
    obtain ⟨j, rfl⟩ := int_of h3.2
    exact ⟨i, j, rfl⟩
  | [], hl, _ => simp at hl
  | [_], hl, _ => simp at hl
  | _ :: _ :: _ :: _, hl, _ => simp at hl; omega
theorem jd_tick (ns : List Nat) (ps : List Int) (t : Int) {b : Bool} (h : b = true ↔ tickOk ns ps t) : jd ns ps (.tup [.str "tick", .int t]) = ("tick", b) := by
  classical
  show (if ("tick" : Str) = "tick" then ("tick", decide (tickOk ns ps t)) else ("form", false)) = _
  rw [if_pos rfl]
  cases b with
  | true => rw [decide_eq_true (h.mp rfl)]
  | false => rw [decide_eq_false fun z => Bool.noConfusion (h.mpr z)]
theorem jd_never (ns : List Nat) (ps : List Int) (i j : Int) {b : Bool} (h : b = true ↔ nevOk ns ps i j) : jd ns ps (.tup [.str "never", .int i, .int j]) = ("never", b) := by
  classical
  show (if ("never" : Str) = "never" then ("never", decide (nevOk ns ps i j)) else ("form", false)) = _
  rw [if_pos rfl]
  cases b with
  | true => rw [decide_eq_true (h.mp rfl)]
  | false => rw [decide_eq_false fun z => Bool.noConfusion (h.mpr z)]
theorem jd_form {ns : List Nat} {ps : List Int} {d : Th} (h1 : ∀ t, d ≠ .tup [.str "tick", .int t]) (h2 : ∀ i j, d ≠ .tup [.str "never", .int i, .int j]) : jd ns ps d = ("form", false) := by
  unfold jd
  split
  · split
    · rename_i s t e
      exact absurd (by rw [e]) (h1 t)
    · rfl
  · split
    · rename_i s i j e
      exact absurd (by rw [e]) (h2 i j)
    · rfl
  · rfl
def dShapes : List PyData := [.list [.str "tick", .int 2], .list [.str "never", .int 3]]
theorem shapes_any (s : Str) (n : Int) : (dShapes.any fun z => PyData.eqv z (.list [.str s, .int n])) = true ↔ (s = "tick" ∧ n = 2) ∨ (s = "never" ∧ n = 3) := by
  unfold dShapes
  simp [PyData.eqv, PyData.eqvAll]
  constructor
  · rintro (⟨h1, h2⟩ | ⟨h1, h2⟩)
    · exact .inl ⟨h1.symm, h2.symm⟩
    · exact .inr ⟨h1.symm, h2.symm⟩
  · rintro (⟨h1, h2⟩ | ⟨h1, h2⟩)
    · exact .inl ⟨h1.symm, h2.symm⟩
    · exact .inr ⟨h1.symm, h2.symm⟩
theorem shp_pair {s : Str} (n : Int) (h : PyData.strOk s = true) : SeqAt.shaped (.list [.str s, .int n]) = true := by
  unfold SeqAt.shaped
  rw [Bool.and_eq_true]
  refine ⟨?_, decide_eq_true ?_⟩
  · simp [PyData.canLay0, PyData.canLayAll0, h]
  · simp [PyData.depth, PyData.depthAll]
theorem shp_shapes : SeqAt.shaped (.list dShapes) = true := by
  unfold SeqAt.shaped dShapes
  rw [Bool.and_eq_true]
  refine ⟨?_, decide_eq_true ?_⟩
  · simp [PyData.canLay0, PyData.canLayAll0]
    decide +kernel
  · simp [PyData.depth, PyData.depthAll]
theorem rd_eq_nil {K : PySem.W.Frag} {H : Hp} {l : Addr} {ls : List Int} {σ : L2.St} {Q : VK} (hl : H l = some (.lst (ls.map V.int)))
    (k : ∀ p, H p = none → Q (.bl ls.isEmpty) (upd H p (.lst []))) : tLst tNil σ H fun y H2 => rEqD K (.ref l) y H2 Q := by
  refine ⟨(by show 0 ≤ sizeLine; decide), fun p hp => ?_⟩
  have lp : l ≠ p := ne_of_none hl hp
  refine ⟨.list (ls.map PyData.int), .list [], .lst (SqL.of (by rw [upd_ne lp]; exact hl)) (DpAll.ints ls), .lst (SqL.of upd_same) .nil, PySem.W.shaped_ints ls, by decide +kernel, ?_⟩
  rw [eqv_nil]
  exact k p hp
theorem two_ints : ∀ {ds : List Th}, (∀ (j : Nat) (y : Th), j < ds.length → ds[j]? = some y → isInt y = true) → ∃ is : List Int, ds = is.map Th.int
  | [], _ => ⟨[], rfl⟩
  | d :: r, h => by
    obtain ⟨i, rfl⟩ := int_of (h 0 d (by simp) rfl)
    obtain ⟨is, rfl⟩ := two_ints (ds := r) fun j y hj hy => h (j + 1) y (by simp; omega) hy
    exact ⟨i :: is, rfl⟩
/-! ### the law's papers -/
mutual
theorem Rt.mut {K : PySem.W.Frag} {H : Hp} {D : Addr} {ys zs : List V} (hD : H D = some (.lst ys)) : ∀ (d : Th) (v : V), Rt K H v d → Rt K (upd H D (.lst zs)) v d
  | .int _, _, h => by cases h; exact .int _
  | .bl _, _, h => by cases h; exact .bl _
  | .str _, _, h => by cases h; exact .str _
  | .non, _, h => by cases h; exact .non
  | .lst, _, h => by
    cases h with
    | lst h =>
      rename_i a xs
      by_cases e : a = D
      · subst e
        exact .lst upd_same
      · exact .lst (by rw [upd_ne e]; exact h)
  | .dct, _, h => by
    cases h with
    | dct h => exact .dct (by rw [upd_ne (ne_of h hD (by intro w; cases w))]; exact h)
  | .tup ds, _, h => by
    cases h with
    | tup h hx => exact .tup (tk_upd hD _ _ h) (RtAll.mut hD ds _ hx)
theorem RtAll.mut {K : PySem.W.Frag} {H : Hp} {D : Addr} {ys zs : List V} (hD : H D = some (.lst ys)) : ∀ (ds : List Th) (vs : List V), RtAll K H vs ds → RtAll K (upd H D (.lst zs)) vs ds
  | [], _, h => by cases h; exact .nil
  | d :: r, _, h => by
    cases h with
    | cons h1 h2 => exact .cons (Rt.mut hD d _ h1) (RtAll.mut hD r _ h2)
end
/-- a thing that is no paper's head of bad text -/
def okS (d : Th) : Prop := ∀ s r, d = .tup (.str s :: r) → PyData.strOk s = true
theorem jdD_ok (ns : List Nat) (ps : List Int) (d : Th) : (jdD (jd ns ps d)).showable = true ∧ (jdD (jd ns ps d)).hasDict = false ∧ (jdD (jd ns ps d)).depth ≤ 8 ∧ (jdD (jd ns ps d)).shown.length ≤ sizeLine := by
  classical
  have key : jd ns ps d = ("tick", true) ∨ jd ns ps d = ("tick", false) ∨ jd ns ps d = ("never", true) ∨ jd ns ps d = ("never", false) ∨ jd ns ps d = ("form", false) := by
    unfold jd
    split
    · split
      · rename_i t _
        cases decide (tickOk ns ps t) <;> simp
      · simp
    · split
      · rename_i i j _
        cases decide (nevOk ns ps i j) <;> simp
      · simp
    · simp
  rcases key with e | e | e | e | e <;> rw [e] <;> exact ⟨by decide +kernel, by decide +kernel, by decide +kernel, by decide +kernel⟩
def okA (ds : List Th) : Prop := ∀ d ∈ ds, okS d
theorem okA_nil : okA [] := fun d h => by cases h
theorem okA_cons {d : Th} {ds : List Th} (h : okS d) (r : okA ds) : okA (d :: ds) := fun e he => by
  cases he with
  | head => exact h
  | tail _ q => exact r e q
theorem okA_app {ds es : List Th} (h : okA ds) (r : okA es) : okA (ds ++ es) := fun e he => by
  rcases List.mem_append.mp he with q | q
  · exact h e q
  · exact r e q
theorem okS_str {s : Str} {r : List Th} (h : PyData.strOk s = true) : okS (.tup (.str s :: r)) := fun s' r' e => by
  injection e with e
  injection e with e _
  injection e with e
  rw [← e]
  exact h
theorem okS_no {d : Th} (h : ∀ s r, d ≠ .tup (.str s :: r)) : okS d := fun s r e => absurd e (h s r)
theorem new_at {H : Hp} {p : Addr} (_ : H p = none) (o : HO) : upd H p o p = some o := upd_same

end My

namespace My
open PySem PySem.Spec PyProof.Rows L2
def topS (i : Nat) : Stmt := PySem.Challenge.pw_pedalrounds_k23_whole_meetings_judged.main.body.getD i (.Pass ⟨0, 0, 0, 0⟩)
abbrev s_is_whole : Stmt := topS 5
abbrev s_are_samples : Stmt := topS 6
abbrev s_begins : Stmt := topS 7
abbrev s_need_lengths : Stmt := topS 11
abbrev s_common_divisor : Stmt := topS 12
abbrev s_common_multiple : Stmt := topS 13
abbrev s_check_meeting : Stmt := topS 15
abbrev s_need_places : Stmt := topS 16
abbrev s_never_meet : Stmt := topS 17
abbrev s_is_first_meeting : Stmt := topS 18
abbrev s__law_begun : Stmt := topS 20
abbrev s__law_next : Stmt := topS 21
abbrev s__law_lengths : Stmt := topS 22
abbrev s__law_common : Stmt := topS 23
abbrev s__law_is_number : Stmt := topS 24
abbrev s__law_round : Stmt := topS 25
abbrev s__law_outcome : Stmt := topS 26
abbrev s__law_is_stranger : Stmt := topS 27
abbrev s__law_due : Stmt := topS 28
abbrev s_law : Stmt := topS 29
theorem sc_is_whole : FnScope ["thing"] ["thing"] (defScope s_is_whole) := ⟨rfl, rfl, rfl, by decide +kernel, rfl, by decide +kernel, by decide +kernel⟩
theorem sc_are_samples : FnScope ["thing", "many", "sample"] ["thing", "many"] (defScope s_are_samples) := ⟨rfl, rfl, rfl, by decide +kernel, rfl, by decide +kernel, by decide +kernel⟩
theorem sc_begins : FnScope ["paper", "word", "many"] ["paper", "word", "many"] (defScope s_begins) := ⟨rfl, rfl, rfl, by decide +kernel, rfl, by decide +kernel, by decide +kernel⟩
theorem sc_need_lengths : FnScope ["thing", "at", "length"] ["thing"] (defScope s_need_lengths) := ⟨rfl, rfl, rfl, by decide +kernel, rfl, by decide +kernel, by decide +kernel⟩
theorem sc_common_divisor : FnScope ["one", "other"] ["one", "other"] (defScope s_common_divisor) := ⟨rfl, rfl, rfl, by decide +kernel, rfl, by decide +kernel, by decide +kernel⟩
theorem sc_common_multiple : FnScope ["lengths", "common", "length"] ["lengths"] (defScope s_common_multiple) := ⟨rfl, rfl, rfl, by decide +kernel, rfl, by decide +kernel, by decide +kernel⟩
theorem sc_check_meeting : FnScope ["lengths", "places", "paper", "one", "other"] ["lengths", "places", "paper"] (defScope s_check_meeting) := ⟨rfl, rfl, rfl, by decide +kernel, rfl, by decide +kernel, by decide +kernel⟩
theorem sc_need_places : FnScope ["lengths", "places", "place", "length"] ["lengths", "places"] (defScope s_need_places) := ⟨rfl, rfl, rfl, by decide +kernel, rfl, by decide +kernel, by decide +kernel⟩
theorem sc_never_meet : FnScope ["lengths", "places", "one", "other"] ["lengths", "places", "one", "other"] (defScope s_never_meet) := ⟨rfl, rfl, rfl, by decide +kernel, rfl, by decide +kernel, by decide +kernel⟩
theorem sc_is_first_meeting : FnScope ["lengths", "places", "tick", "length", "place"] ["lengths", "places", "tick"] (defScope s_is_first_meeting) := ⟨rfl, rfl, rfl, by decide +kernel, rfl, by decide +kernel, by decide +kernel⟩
theorem sc__law_begun : FnScope ["script", "cell"] ["script"] (defScope s__law_begun) := ⟨rfl, rfl, rfl, by decide +kernel, rfl, by decide +kernel, by decide +kernel⟩
theorem sc__law_next : FnScope ["m", "many", "rest", "k", "cell", "mixed"] ["m", "many"] (defScope s__law_next) := ⟨rfl, rfl, rfl, by decide +kernel, rfl, by decide +kernel, by decide +kernel⟩
theorem sc__law_lengths : FnScope ["m", "many", "most", "k"] ["m", "many", "most"] (defScope s__law_lengths) := ⟨rfl, rfl, rfl, by decide +kernel, rfl, by decide +kernel, by decide +kernel⟩
theorem sc__law_common : FnScope ["one", "other"] ["one", "other"] (defScope s__law_common) := ⟨rfl, rfl, rfl, by decide +kernel, rfl, by decide +kernel, by decide +kernel⟩
theorem sc__law_is_number : FnScope ["thing"] ["thing"] (defScope s__law_is_number) := ⟨rfl, rfl, rfl, by decide +kernel, rfl, by decide +kernel, by decide +kernel⟩
theorem sc__law_round : FnScope ["lengths", "found", "length"] ["lengths"] (defScope s__law_round) := ⟨rfl, rfl, rfl, by decide +kernel, rfl, by decide +kernel, by decide +kernel⟩
theorem sc__law_outcome : FnScope ["lengths", "places", "paper", "found", "e"] ["lengths", "places", "paper"] (defScope s__law_outcome) := ⟨rfl, rfl, rfl, by decide +kernel, rfl, by decide +kernel, by decide +kernel⟩
theorem sc__law_is_stranger : FnScope ["lengths", "places", "one", "other"] ["lengths", "places", "one", "other"] (defScope s__law_is_stranger) := ⟨rfl, rfl, rfl, by decide +kernel, rfl, by decide +kernel, by decide +kernel⟩
theorem sc__law_due : FnScope ["lengths", "places", "paper", "wrong", "k", "length", "thing"] ["lengths", "places", "paper"] (defScope s__law_due) := ⟨rfl, rfl, rfl, by decide +kernel, rfl, by decide +kernel, by decide +kernel⟩
theorem sc_law : FnScope ["script", "m", "turn", "lengths", "size", "tick", "places", "some", "one", "paper", "length", "other"] ["script"] (defScope s_law) := ⟨rfl, rfl, rfl, by decide +kernel, rfl, by decide +kernel, by decide +kernel⟩
abbrev s_BadPaper_init : Stmt := inClass (topS 2) 0
theorem sc_BadPaper_init : FnScope ["self", "part"] ["self", "part"] (defScope s_BadPaper_init) := ⟨rfl, rfl, rfl, by decide +kernel, rfl, by decide +kernel, by decide +kernel⟩
structure Top (K : PySem.W.Frag) (mg : Str → Option Value) where
  a_is_whole : Addr
  d_is_whole : FuncData
  F_is_whole : Fun K "is_whole" "is_whole" s_is_whole a_is_whole d_is_whole
  m_is_whole : mg "is_whole" = some (.ref a_is_whole)
  b_is_whole : Binds K d_is_whole ["thing"] []
  a_are_samples : Addr
  d_are_samples : FuncData
  F_are_samples : Fun K "are_samples" "are_samples" s_are_samples a_are_samples d_are_samples
  m_are_samples : mg "are_samples" = some (.ref a_are_samples)
  b_are_samples : Binds K d_are_samples ["thing", "many"] []
  a_begins : Addr
  d_begins : FuncData
  F_begins : Fun K "begins" "begins" s_begins a_begins d_begins
  m_begins : mg "begins" = some (.ref a_begins)
  b_begins : Binds K d_begins ["paper", "word", "many"] []
  a_need_lengths : Addr
  d_need_lengths : FuncData
  F_need_lengths : Fun K "need_lengths" "need_lengths" s_need_lengths a_need_lengths d_need_lengths
  m_need_lengths : mg "need_lengths" = some (.ref a_need_lengths)
  b_need_lengths : Binds K d_need_lengths ["thing"] []
  a_common_divisor : Addr
  d_common_divisor : FuncData
  F_common_divisor : Fun K "common_divisor" "common_divisor" s_common_divisor a_common_divisor d_common_divisor
  m_common_divisor : mg "common_divisor" = some (.ref a_common_divisor)
  b_common_divisor : Binds K d_common_divisor ["one", "other"] []
  a_common_multiple : Addr
  d_common_multiple : FuncData
  F_common_multiple : Fun K "common_multiple" "common_multiple" s_common_multiple a_common_multiple d_common_multiple
  m_common_multiple : mg "common_multiple" = some (.ref a_common_multiple)
  b_common_multiple : Binds K d_common_multiple ["lengths"] []
  a_check_meeting : Addr
  d_check_meeting : FuncData
  F_check_meeting : Fun K "check_meeting" "check_meeting" s_check_meeting a_check_meeting d_check_meeting
  m_check_meeting : mg "check_meeting" = some (.ref a_check_meeting)
  b_check_meeting : Binds K d_check_meeting ["lengths", "places", "paper"] []
  a_need_places : Addr
  d_need_places : FuncData
  F_need_places : Fun K "need_places" "need_places" s_need_places a_need_places d_need_places
  m_need_places : mg "need_places" = some (.ref a_need_places)
  b_need_places : Binds K d_need_places ["lengths", "places"] []
  a_never_meet : Addr
  d_never_meet : FuncData
  F_never_meet : Fun K "never_meet" "never_meet" s_never_meet a_never_meet d_never_meet
  m_never_meet : mg "never_meet" = some (.ref a_never_meet)
  b_never_meet : Binds K d_never_meet ["lengths", "places", "one", "other"] []
  a_is_first_meeting : Addr
  d_is_first_meeting : FuncData
  F_is_first_meeting : Fun K "is_first_meeting" "is_first_meeting" s_is_first_meeting a_is_first_meeting d_is_first_meeting
  m_is_first_meeting : mg "is_first_meeting" = some (.ref a_is_first_meeting)
  b_is_first_meeting : Binds K d_is_first_meeting ["lengths", "places", "tick"] []
  a__law_begun : Addr
  d__law_begun : FuncData
  F__law_begun : Fun K "_law_begun" "_law_begun" s__law_begun a__law_begun d__law_begun
  m__law_begun : mg "_law_begun" = some (.ref a__law_begun)
  b__law_begun : Binds K d__law_begun ["script"] []
  a__law_next : Addr
  d__law_next : FuncData
  F__law_next : Fun K "_law_next" "_law_next" s__law_next a__law_next d__law_next
  m__law_next : mg "_law_next" = some (.ref a__law_next)
  b__law_next : Binds K d__law_next ["m", "many"] []
  a__law_lengths : Addr
  d__law_lengths : FuncData
  F__law_lengths : Fun K "_law_lengths" "_law_lengths" s__law_lengths a__law_lengths d__law_lengths
  m__law_lengths : mg "_law_lengths" = some (.ref a__law_lengths)
  b__law_lengths : Binds K d__law_lengths ["m", "many", "most"] []
  a__law_common : Addr
  d__law_common : FuncData
  F__law_common : Fun K "_law_common" "_law_common" s__law_common a__law_common d__law_common
  m__law_common : mg "_law_common" = some (.ref a__law_common)
  b__law_common : Binds K d__law_common ["one", "other"] []
  a__law_is_number : Addr
  d__law_is_number : FuncData
  F__law_is_number : Fun K "_law_is_number" "_law_is_number" s__law_is_number a__law_is_number d__law_is_number
  m__law_is_number : mg "_law_is_number" = some (.ref a__law_is_number)
  b__law_is_number : Binds K d__law_is_number ["thing"] []
  a__law_round : Addr
  d__law_round : FuncData
  F__law_round : Fun K "_law_round" "_law_round" s__law_round a__law_round d__law_round
  m__law_round : mg "_law_round" = some (.ref a__law_round)
  b__law_round : Binds K d__law_round ["lengths"] []
  a__law_outcome : Addr
  d__law_outcome : FuncData
  F__law_outcome : Fun K "_law_outcome" "_law_outcome" s__law_outcome a__law_outcome d__law_outcome
  m__law_outcome : mg "_law_outcome" = some (.ref a__law_outcome)
  b__law_outcome : Binds K d__law_outcome ["lengths", "places", "paper"] []
  a__law_is_stranger : Addr
  d__law_is_stranger : FuncData
  F__law_is_stranger : Fun K "_law_is_stranger" "_law_is_stranger" s__law_is_stranger a__law_is_stranger d__law_is_stranger
  m__law_is_stranger : mg "_law_is_stranger" = some (.ref a__law_is_stranger)
  b__law_is_stranger : Binds K d__law_is_stranger ["lengths", "places", "one", "other"] []
  a__law_due : Addr
  d__law_due : FuncData
  F__law_due : Fun K "_law_due" "_law_due" s__law_due a__law_due d__law_due
  m__law_due : mg "_law_due" = some (.ref a__law_due)
  b__law_due : Binds K d__law_due ["lengths", "places", "paper"] []
  a_law : Addr
  d_law : FuncData
  F_law : Fun K "law" "law" s_law a_law d_law
  m_law : mg "law" = some (.ref a_law)
  b_law : Binds K d_law ["script"] []
  x_BadPaper : ExcT K mg "BadPaper" "BadPaper.__init__" "part" s_BadPaper_init
  z_ValueError : mg "ValueError" = none
  v_ValueError : PySem.W.findCls K (.type "ValueError") (.type "type") "__init__" = some (.val (.builtin "ValueError.__init__"))
  z_isinstance : mg "isinstance" = none
  z_int : mg "int" = none
  z_bool : mg "bool" = none
  z_all : mg "all" = none
  z_tuple : mg "tuple" = none
  z_len : mg "len" = none
  z_str : mg "str" = none
  z_enumerate : mg "enumerate" = none
  z_zip : mg "zip" = none
  z_list : mg "list" = none
  z_range : mg "range" = none
  z_min : mg "min" = none
  z_repr : mg "repr" = none
  t_MOST_LENGTHS : Tok
  c_MOST_LENGTHS : mg "MOST_LENGTHS" = some (.int 6 t_MOST_LENGTHS)
  t_MOST_LENGTH : Tok
  c_MOST_LENGTH : mg "MOST_LENGTH" = some (.int 64 t_MOST_LENGTH)
end My

namespace My
open PySem PySem.Spec PyProof.Rows L2
section
variable {P : Program} {w : World} {K : PySem.W.Frag} {mg : Str → Option Value} {base : Heap}
theorem ok_BadPaper_init (T : Top K mg) : FnOk P w K mg base CX0 1 T.x_BadPaper.f T.x_BadPaper.d ["self", "part"] (sp_exc T.x_BadPaper.C "part") := by
  refine T.x_BadPaper.F.ok sc_BadPaper_init (fun vs H Q E h => ?_) (fun cdv A outer s H vs Q E hr h => ?_)
  · obtain ⟨a, w, rfl, _⟩ := h
    rfl
  obtain ⟨a, w, rfl, ha, k⟩ := h
  refine ⟨_, pss_cons (ps_expr (pe_veinit (by rfl) T.z_ValueError T.v_ValueError (pa_cons (pv 0) (pa_cons (pv 1) pa_nil)))) (pss_one (ps_ost (pv 0) (pv 1))), ?_⟩
  refine ⟨_, rfl, _, rfl, a, T.x_BadPaper.C, [w], rfl, (by show 1 ≤ 1000; decide), T.x_BadPaper.ox, ha, ?_⟩
  exact ⟨_, rfl, _, rfl, a, T.x_BadPaper.C, rfl, T.x_BadPaper.ox, T.x_BadPaper.nf, .inl ⟨ha, fun dx h1 h2 => k dx h1 h2⟩⟩
end
section
variable {P : Program} {w : World} {K : PySem.W.Frag} {mg : Str → Option Value} {base : Heap}
theorem ok_is_whole (T : Top K mg) : FnOk P w K mg base CX0 1 T.a_is_whole T.d_is_whole ["thing"] (sp_is_whole K) := by
  refine T.F_is_whole.ok sc_is_whole (fun vs H Q E h => ?_) (fun cdv A outer s H vs Q E hr h => ?_)
  · obtain ⟨x, t, b1, b2, rfl, hx, h1, h2, k⟩ := h
    rfl
  obtain ⟨x, t, b1, b2, rfl, hx, h1, h2, k⟩ := h
  refine ⟨_, (pss_one (ps_ret (pe_and (pe_callB (k_isi (K := K)) (by rfl) T.z_isinstance bt_isinstance (pa_cons (pv 0) (pa_cons (pe_bltn (v := .ty "int") (by rfl) T.z_int bt_int rfl) pa_nil))) (pe_one (pe_not (pe_callB (k_isi (K := K)) (by rfl) T.z_isinstance bt_isinstance (pa_cons (pv 0) (pa_cons (pe_bltn (v := .ty "bool") (by rfl) T.z_bool bt_bool rfl) pa_nil)))))))), ?_⟩
  refine ⟨_, rfl, x, _, t, _, b1, rfl, ClsV.ty _, hx, h1, b1, rfl, ?_⟩
  cases b1 with
  | false => exact iteF k
  | true =>
    refine iteT ?_
    exact ⟨_, rfl, x, _, t, _, b2, rfl, ClsV.ty _, hx, h2, b2, rfl, k⟩
end
section
variable {P : Program} {w : World} {K : PySem.W.Frag} {mg : Str → Option Value} {base : Heap}
theorem ok_begins (T : Top K mg) : FnOk P w K mg base CX0 1 T.a_begins T.d_begins ["paper", "word", "many"] (sp_begins K) := by
  refine T.F_begins.ok sc_begins (fun vs H Q E h => ?_) (fun cdv A outer s H vs Q E hr h => ?_)
  · obtain ⟨v, u, n, d, rfl, hv, n1, k⟩ := h
    rfl
  obtain ⟨v, u, n, d, rfl, hv, n1, k⟩ := h
  refine ⟨_, (pss_cons (ps_if (PW.pt (pw_or (pt_not (pt_val (pe_callB (k_isi (K := K)) (by rfl) T.z_isinstance bt_isinstance (pa_cons (pv 0) (pa_cons (pe_bltn (v := .ty "tuple") (by rfl) T.z_tuple bt_tuple rfl) pa_nil))))) (pw_or1 (pt_cmpR op_ne (pe_callB (k_len (K := K)) (by rfl) T.z_len bt_len (pa_cons (pv 0) pa_nil)) (pv 2) (nomark _))))) (pss_one (ps_ret pe_bl)) pss_nil)
      (pss_one (ps_ret (pe_and (pe_callB (k_isi (K := K)) (by rfl) T.z_isinstance bt_isinstance (pa_cons (pe_ix (k_ixT (K := K)) (pv 0) pe_int (fun _ _ => rfl)) (pa_cons (pe_bltn (v := .ty "str") (by rfl) T.z_str bt_str rfl) pa_nil))) (pe_one (pe_cmpR op_eq (pe_ix (k_ixT (K := K)) (pv 0) pe_int (fun _ _ => rfl)) (pv 1) (nomark _))))))), ?_⟩
  refine ⟨_, rfl, v, _, _, _, _, rfl, ClsV.ty _, hv.ty, kit_tup d, _, rfl, ?_⟩
  cases hv with
  | int i => exact iteT (iteT k)
  | bl i => exact iteT (iteT k)
  | str i => exact iteT (iteT k)
  | non => exact iteT (iteT k)
  | lst h => exact iteT (iteT k)
  | dct h => exact iteT (iteT k)
  | tup hT hX =>
    rename_i a xs ds
    refine iteF ?_
    have hlen := hX.len
    refine ⟨_, rfl, a, _, rfl, .inr hT, _, rfl, rfl, _, rfl, ?_⟩
    have this : Q (.bl (decide (((ds.length : Nat) : Int) = n) && bgsH u ds)) H := k
    by_cases e : (((ds.length : Nat) : Int) = n)
    · refine iteNS (by rw [hlen, e]) ?_
      rw [decide_eq_true e, Bool.true_and] at this
      cases hX with
      | nil =>
        simp at e
        omega
      | cons h1 h2 =>
        rename_i x xs' c ds'
        refine ⟨_, rfl, a, _, _, _, rfl, rfl, hT, at_zero, _, _, _, _, _, rfl, ClsV.ty _, h1.ty, kit_str c, _, rfl, ?_⟩
        cases h1 with
        | str s => exact iteT ⟨_, rfl, a, _, _, _, rfl, rfl, hT, at_zero, _, rfl, rfl, this⟩
        | int i => exact iteF this
        | bl i => exact iteF this
        | non => exact iteF this
        | lst h => exact iteF this
        | dct h => exact iteF this
        | tup h g => exact iteF this
    · have e2 : decide (V.int ((xs.length : Nat) : Int) = V.int n) = false := by
        refine decide_eq_false fun z => e ?_
        injection z with z
        rw [← z, hlen]
      rw [e2]
      refine iteT ?_
      rw [decide_eq_false e, Bool.false_and] at this
      exact this
end
section
variable {P : Program} {w : World} {K : PySem.W.Frag} {mg : Str → Option Value} {base : Heap}
theorem ok_common_divisor (T : Top K mg) : FnOk P w K mg base CX0 1 T.a_common_divisor T.d_common_divisor ["one", "other"] (sp_common_divisor K) := by
  refine T.F_common_divisor.ok sc_common_divisor (fun vs H Q E h => ?_) (fun cdv A outer s H vs Q E hr h => ?_)
  · obtain ⟨x, y, rfl, k⟩ := h
    rfl
  obtain ⟨x, y, rfl, k⟩ := h
  refine ⟨_, (Evl.pss_cut (ps_while PassesOwn.never (pt_cmpR op_ne (pv 1) pe_int (nomark _)) (pss_one (ps_par (i := 0) (j := 1) (by rfl) sc_common_divisor.nd rfl rfl (by decide) rfl rfl (pa_cons (pv 1) (pa_cons (pe_op op_modN (pv 0) (pv 1)) pa_nil)) (by rfl))))
      (pss_one (ps_ret (pv 0)))), ?_⟩
  refine ⟨fun σ H' => σ = [some (.int (Nat.gcd x y : Nat)), some (.int 0)] ∧ H' = H, ?_, ?_⟩
  · refine ⟨fun j σ H' => ∃ u : Nat, σ = [some (.int u), some (.int j)] ∧ Nat.gcd u j = Nat.gcd x y ∧ H' = H, ⟨y, x, rfl, rfl, rfl⟩, ?_⟩
    rintro j σ H1 ⟨u, rfl, e, rfl⟩
    refine ⟨_, rfl, rfl, _, rfl, ?_⟩
    rcases Nat.eq_zero_or_pos j with rfl | jp
    · refine ite2 (fun cc => absurd cc (by simp)) (fun _ => ?_)
      rw [Nat.gcd_zero_right] at e
      exact ⟨by rw [← e]; rfl, rfl⟩
    refine ite2 (fun _ => ?_) (fun cc => absurd (by simp; omega) cc)
    refine ⟨fun σ' H' => ∃ j' u' : Nat, j' < j ∧ σ' = [some (.int u'), some (.int j')] ∧ Nat.gcd u' j' = Nat.gcd x y ∧ H' = H1, ?_, ?_⟩
    · rintro σ' H' ⟨j', u', a1, a2, a3⟩
      exact ⟨j', a1, u', a2, a3⟩
    refine ⟨_, rfl, _, rfl, _, rfl, _, _, rfl, rfl, by omega, _, _, rfl, ?_⟩
    refine ⟨u % j, j, Nat.mod_lt _ jp, ?_, ?_, rfl⟩
    · show [some (V.int (j : Int)), some (V.int ((u : Int).fmod (j : Int)))] = _
      rw [fm_nat]
    · rw [← e, Nat.gcd_comm u j, Nat.gcd_rec j u, Nat.gcd_comm]
  rintro σ H1 ⟨rfl, rfl⟩
  exact ⟨_, rfl, k⟩
end
section
variable {P : Program} {w : World} {K : PySem.W.Frag} {mg : Str → Option Value} {base : Heap}
theorem ok__law_begun (T : Top K mg) : FnOk P w K mg base CX0 1 T.a__law_begun T.d__law_begun ["script"] (sp__law_begun K) := by
  refine T.F__law_begun.ok sc__law_begun (fun vs H Q E h => ?_) (fun cdv A outer s H vs Q E hr h => ?_)
  · obtain ⟨a, ns, rfl, hS, hl, k⟩ := h
    rfl
  obtain ⟨a, ns, rfl, hS, hl, k⟩ := h
  refine ⟨_, (pss_one (ps_ret (pe_disp (pps_cons pe_str (pe_callTy (k_list (K := K)) (by rfl) T.z_list bt_list (pa_cons (pv 0) pa_nil)) (pps_cons pe_str (pe_lc (own := [("cell", 1)]) rfl sc__law_begun.nd (k_piL (K := K) (pv 0)) (blkOk_by (own := [("cell", 1)]) (N := ["script", "cell"]) (sc := defScope s__law_begun) (by decide +kernel)) (fun _ _ _ _ _ => (pg_name (i := 1) sc__law_begun.nd rfl (Or.inl rfl))) (fun _ _ _ _ _ => (pts_one (pt_cmpR op_ge (pv 1) (pe_op op_pow pe_int pe_int) (nomark _)))) (fun _ _ _ _ _ => (pv 1))) (pps_cons pe_str pe_int pps_nil))) (by rfl) (by rfl) (fun z => by cases z) (by decide)))), ?_⟩
  refine fun p hp => ?_
  refine ⟨_, rfl, a, _, rfl, .inl ((same_upd hp _).seq hS), fun l hl' => ?_⟩
  have s1 : Same H (upd (upd H p (.dK [])) l (.lst (ns.map V.int))) := (same_upd hp _).trans (same_upd hl' _)
  have lp : l ≠ p := fun z => by rw [z, upd_same] at hl'; cases hl'
  refine ⟨_, rfl, a, rfl, ⟨_, s1.seq hS⟩, fun D hD => ?_⟩
  have Dp' : D ≠ p := fun z => by rw [z, upd_ne (Ne.symm lp), upd_same] at hD; cases hD
  have Dl : D ≠ l := fun z => by rw [z, upd_same] at hD; cases hD
  refine lc_list (K := K) (a := a) (xs := ns.map V.int) (fun i H' => ∃ acc : List Int, H' D = some (.lst (acc.map V.int)) ∧ acc.length ≤ i ∧ (∀ z ∈ acc, 0 ≤ z) ∧ Same (upd (upd H p (.dK [])) l (.lst (ns.map V.int))) H')
    ⟨[], upd_same, Nat.le_refl _, (by intro z hz; cases hz), same_upd hD _⟩ (fun i H' _ ⟨_, _, _, _, s⟩ => s.seq (s1.seq hS)) ?_ ?_
  · rintro i x H' hi ⟨acc, hA, hn, h0, s⟩
    obtain ⟨z, hz, rfl⟩ := map_int_get hi
    refine ⟨rfl, _, rfl, _, _, rfl, rfl, ⟨by decide, by decide, by decide⟩, _, _, rfl, rfl, _, rfl, ?_⟩
    refine ite2 (fun cc => ?_) (fun _ => ⟨acc, hA, by omega, h0, s⟩)
    have cz : (10 : Int) ^ (18 : Int).toNat ≤ z := of_decide_eq_true cc
    have cz' : 0 ≤ z := Int.le_trans (by decide) cz
    refine ⟨_, rfl, _, hA, by rw [List.length_map]; exact small1000 (by have := (List.getElem?_eq_some_iff.mp hz).1; omega), acc ++ [z], ?_, ?_, ?_, ?_⟩
    · rw [upd_same, List.map_append]
      all_goals rfl
    · rw [List.length_append, List.length_singleton]
      omega
    · intro y hy
      rcases List.mem_append.mp hy with q | q
      · exact h0 y q
      · rw [List.mem_singleton.mp q]
        exact cz'
    · intro b o q
      have bD : b ≠ D := ne_of_none q hD
      rw [upd_ne bD]
      exact s b o q
  · rintro H' ⟨acc, hA, hn, h0, s⟩
    rw [List.length_map] at hn
    have hp' : H' p = some (.dK []) := s _ _ (by rw [upd_ne (Ne.symm lp), upd_same])
    refine ⟨hp', [(kCells, .ref l), (kLeft, .ref D), (kAt, .int 0)], rfl, (by show 3 ≤ 15; decide), ?_⟩
    rw [merge3]
    have e : ∀ b, b ≠ p → upd H' p (.dK [(kCells, V.ref l), (kLeft, V.ref D), (kAt, V.int 0)]) b = H' b := fun b hb => upd_ne hb
    refine k p _ (fun b o q => ?_) ⟨l, D, upd_same, ⟨ns, ?_, hl⟩, ⟨acc, ?_, by omega, h0⟩, Ne.symm Dl⟩
    · rw [e b (ne_of_none q hp)]
      exact s _ _ (s1 _ _ q)
    · rw [e _ lp]
      exact s _ _ upd_same
    · rw [e _ Dp']
      exact hA
end
section
variable {P : Program} {w : World} {K : PySem.W.Frag} {mg : Str → Option Value} {base : Heap}
theorem ok__law_next (T : Top K mg) : FnOk P w K mg base CX0 1 T.a__law_next T.d__law_next ["m", "many"] (sp__law_next K) := by
  refine T.F__law_next.ok sc__law_next (fun vs H Q E h => ?_) (fun cdv A outer s H vs Q E hr h => ?_)
  · obtain ⟨m, many, n, rfl, M, h0, h9, hn, k⟩ := h
    rfl
  obtain ⟨m, many, n, rfl, M, h0, h9, hn, k⟩ := h
  refine ⟨_, (Evl.pss_cut (ps_while PassesOwn.never (PW.pt (pw_and (pt_cmpR (k_neD (K := K) hr.units) (pe_dget (hu_of hr) (pv 0) pe_str (fun _ _ => rfl)) (pe_lst pa_nil) (nomark _)) (pw_and1 (pt_cmpR op_eq (pe_ix (k_ixL (K := K)) (pe_dget (hu_of hr) (pv 0) pe_str (fun _ _ => rfl)) pe_int (fun _ _ => rfl)) pe_int (nomark _))))) (pss_one (ps_dput (hu_of hr) (pv 0) pe_str (pe_slice (k_slL (K := K)) (pe_dget (hu_of hr) (pv 0) pe_str (fun _ _ => rfl)) (po_some pe_int) po_none) rfl)))
      (pss_cons (ps_if (pt_cmpR (k_neD (K := K) hr.units) (pe_dget (hu_of hr) (pv 0) pe_str (fun _ _ => rfl)) (pe_lst pa_nil) (nomark _)) (pss_cons (ps_set (i := 2) sc__law_next.nd rfl (Or.inl rfl) (pe_callTy call_int1 (by rfl) T.z_int bt_int (pa_cons (pe_ix (k_ixL (K := K)) (pe_dget (hu_of hr) (pv 0) pe_str (fun _ _ => rfl)) pe_int (fun _ _ => rfl)) pa_nil)))
      (pss_cons (ps_asg (pe_op op_fdivW (pv 2) (pv 1)) (pg_sub (pe_dget (hu_of hr) (pv 0) pe_str (fun _ _ => rfl)) pe_int set_list))
      (pss_one (ps_ret (pe_op op_modN (pv 2) (pv 1)))))) pss_nil)
      (pss_cons (ps_set (i := 3) sc__law_next.nd rfl (Or.inl rfl) (pe_op op_add (pe_dget (hu_of hr) (pv 0) pe_str (fun _ _ => rfl)) pe_int))
      (pss_cons (ps_dput (hu_of hr) (pv 0) pe_str (pv 3) rfl)
      (pss_cons (ps_set (i := 4) sc__law_next.nd rfl (Or.inl rfl) (pe_ifExp (pt_cmpR (k_neD (K := K) hr.units) (pe_dget (hu_of hr) (pv 0) pe_str (fun _ _ => rfl)) (pe_lst pa_nil) (nomark _)) (pe_ix (k_ixL (K := K)) (pe_dget (hu_of hr) (pv 0) pe_str (fun _ _ => rfl)) (pe_op op_modN (pe_callTy call_int1 (by rfl) T.z_int bt_int (pa_cons (pv 3) pa_nil)) (pe_callB (k_len (K := K)) (by rfl) T.z_len bt_len (pa_cons (pe_dget (hu_of hr) (pv 0) pe_str (fun _ _ => rfl)) pa_nil))) (fun _ _ => rfl)) pe_int))
      (pss_cons (ps_set (i := 5) sc__law_next.nd rfl (Or.inl rfl) (pe_op op_mul (pe_callTy call_int1 (by rfl) T.z_int bt_int (pa_cons (pe_op op_add (pe_op op_add (pe_op op_modN (pe_callTy call_int1 (by rfl) T.z_int bt_int (pa_cons (pv 4) pa_nil)) pe_int) (pe_op op_mul pe_int (pv 3))) (pe_op op_mul (pe_op op_mul pe_int (pv 3)) (pv 3))) pa_nil)) pe_int))
      (pss_cons (ps_set (i := 5) sc__law_next.nd rfl (Or.inl rfl) (pe_op op_mul (pe_callTy call_int1 (by rfl) T.z_int bt_int (pa_cons (pe_op op_add (pe_op op_modN (pe_callTy call_int1 (by rfl) T.z_int bt_int (pa_cons (pv 5) pa_nil)) pe_int) (pe_op op_mul pe_int (pv 3))) pa_nil)) pe_int))
      (pss_one (ps_ret (pe_op op_modN (pe_callTy call_int1 (by rfl) T.z_int bt_int (pa_cons (pe_op op_fdivN (pe_op op_modN (pe_callTy call_int1 (by rfl) T.z_int bt_int (pa_cons (pv 5) pa_nil)) pe_int) pe_int) pa_nil)) (pv 1))))))))))), ?_⟩
  refine ⟨fun σ H' => σ = [some (.ref m), some (.int many), none, none, none, none] ∧ MS H' m n ∧ Ef m H H', ?_, ?_⟩
  · refine ⟨fun j σ H' => σ = [some (.ref m), some (.int many), none, none, none, none] ∧ Ef m H H' ∧ ∃ (c l : Addr) (ls : List Int), MAt H' m c l n ∧ H' l = some (.lst (ls.map V.int)) ∧ ls.length = j, ?_, ?_⟩
    · obtain ⟨c, l, M⟩ := M
      obtain ⟨ls, hl, _⟩ := M.ls
      exact ⟨ls.length, rfl, Ef.refl, c, l, ls, M, hl, rfl⟩
    · rintro j σ H1 ⟨rfl, e1, c, l, ls, M1, hl, rfl⟩
      refine ⟨_, rfl, m, _, rfl, M1.left, rd_ne_nil hl fun p hp => ?_⟩
      have s2 := same_upd hp (.lst [])
      have lp : l ≠ p := ne_of_none hl hp
      have M2 : MS (upd H1 p (.lst [])) m n := MS.same ⟨c, l, M1⟩ s2
      have e2 : Ef m H (upd H1 p (.lst [])) := e1.trans (Ef.ofSame ⟨c, l, M1⟩ s2)
      cases ls with
      | nil => exact ⟨_, rfl, iteF (iteF ⟨rfl, M2, e2⟩)⟩
      | cons z r =>
        obtain ⟨c', l', M2'⟩ := M2
        have dk2 := s2 _ _ M1.dk
        rw [M2'.dk] at dk2
        have ecl : c' = c ∧ l' = l := by
          have q := HO.dK.inj (Option.some.inj dk2)
          simp [mKvs] at q
          exact q
        obtain ⟨rfl, rfl⟩ := ecl
        have hl2 := s2 _ _ hl
        refine ⟨_, rfl, iteT ?_⟩
        refine ⟨_, rfl, m, _, rfl, M2'.left, l', _, _, V.int z, rfl, rfl, SqL.of hl2, at_zero, rfl, _, rfl, ?_⟩
        refine ite2 (fun _ => ?_) (fun _ => ⟨rfl, ⟨c', l', M2'⟩, e2⟩)
        refine ⟨fun σ' H' => σ' = [some (.ref m), some (.int many), none, none, none, none] ∧ Ef m H H' ∧ ∃ (c l : Addr) (ls : List Int), MAt H' m c l n ∧ H' l = some (.lst (ls.map V.int)) ∧ ls.length = r.length, ?_, ?_⟩
        · rintro σ' H' ⟨a1, a2, a3⟩
          exact ⟨r.length, Nat.lt_succ_self _, a1, a2, a3⟩
        · refine ⟨_, rfl, m, _, rfl, M2'.left, 1, rfl, l', _, rfl, SqL.of hl2, fun q hq => ?_⟩
          rw [cut_tail]
          have mq : m ≠ q := ne_of_none M2'.dk hq
          have s3 := same_upd hq (.lst (r.map V.int))
          refine ⟨_, rfl, m, _, rfl, DPut.k (k := kLeft) (s3 _ _ M2'.dk) (by show 3 < sizeLine; decide), ?_⟩
          have ep : putK (mKvs c' l' n) kLeft (.ref q) = mKvs c' q n := put3_2
          rw [ep]
          obtain ⟨cs, hc, hc2⟩ := M2'.cs
          obtain ⟨ls', hl3, hl4, hl5⟩ := M2'.ls
          have els : ls' = z :: r := map_int_inj (HO.lst.inj (Option.some.inj (hl3.symm.trans hl2)))
          subst els
          have cq : c' ≠ q := ne_of_none hc hq
          have cm : c' ≠ m := ne_of hc M2'.dk (by intro w; cases w)
          refine ⟨rfl, ?_, c', q, r, ⟨upd_same, ⟨cs, ?_, hc2⟩, ⟨r, ?_, ?_, ?_⟩, cq⟩, ?_, rfl⟩
          · refine e2.trans ⟨fun b o hb h1 _ => ?_, fun b hb => ?_, fun o ho => ⟨_, upd_same⟩⟩
            · rw [upd_ne h1, upd_ne (ne_of_none hb hq)]
              exact hb
            · obtain ⟨kvs, kk, w1, w2⟩ := hb
              rw [upd_same] at w1
              cases w1
              rcases mKvs_ref w2 with q1 | q1
              · rw [q1]
                exact .inl M2'.ownC
              · rw [q1]
                exact .inr hq
          · rw [upd_ne cm, upd_ne cq]
            exact hc
          · rw [upd_ne (Ne.symm mq), upd_same]
          · simp at hl4
            omega
          · exact fun y hy => hl5 y (List.mem_cons_of_mem _ hy)
          · rw [upd_ne (Ne.symm mq), upd_same]
  · rintro σ H1 ⟨rfl, M1, e1⟩
    obtain ⟨c, l, M1⟩ := M1
    obtain ⟨ls, hl, hl4, hl5⟩ := M1.ls
    refine ⟨_, rfl, m, _, rfl, M1.left, rd_ne_nil hl fun p hp => ⟨_, rfl, ?_⟩⟩
    have s2 := same_upd hp (.lst [])
    have M2 : MAt (upd H1 p (.lst [])) m c l n := M1.same s2
    have e2 : Ef m H (upd H1 p (.lst [])) := e1.trans (Ef.ofSame ⟨c, l, M1⟩ s2)
    have hl2 := s2 _ _ hl
    have lm : l ≠ m := ne_of hl2 M2.dk (by intro w; cases w)
    cases ls with
    | cons z r =>
      refine iteT ?_
      refine ⟨_, rfl, m, _, rfl, M2.left, l, _, _, V.int z, rfl, rfl, SqL.of hl2, at_zero, .inl ⟨_, rfl, ?_⟩⟩
      refine ⟨_, rfl, _, rfl, _, _, rfl, rfl, ⟨h0, log_ok h0 h9⟩, _, rfl, m, _, rfl, M2.left, l, _, 0, 0, rfl, rfl, hl2, by simp [ixN], ?_⟩
      refine ⟨_, rfl, _, rfl, _, _, rfl, rfl, by omega, ?_⟩
      refine k _ n _ (Int.fmod_nonneg_of_pos _ h0) (Int.fmod_lt_of_pos _ h0) (Nat.le_succ n) ⟨c, l, ?_, ?_, ⟨(z / many) :: r, ?_, hl4, ?_⟩, M2.cl⟩ (e2.trans ⟨fun b o hb h1 h2 => ?_, fun b hb => ?_, fun o ho => ⟨o, ?_⟩⟩)
      · rw [upd_ne (Ne.symm lm)]
        exact M2.dk
      · obtain ⟨cs, hc, hc2⟩ := M2.cs
        exact ⟨cs, by rw [upd_ne M2.cl]; exact hc, hc2⟩
      · rw [upd_same]
        all_goals rfl
      · intro y hy
        rcases List.mem_cons.mp hy with q | q
        · rw [q]
          exact Int.ediv_nonneg (hl5 z List.mem_cons_self) (by omega)
        · exact hl5 y (List.mem_cons_of_mem _ q)
      · rw [upd_ne (fun q => h2 (by rw [q]; exact M2.ownL))]
        exact hb
      · exact .inl (hb.upd (Ne.symm lm))
      · rw [upd_ne (Ne.symm lm)]
        exact ho
    | nil =>
      refine iteF ?_
      refine ⟨_, rfl, m, _, rfl, M2.at, _, _, rfl, rfl, ?_⟩
      refine ⟨_, rfl, _, rfl, m, _, rfl, DPut.k (k := kAt) M2.dk (by show 3 < sizeLine; decide), ?_⟩
      have ep : putK (mKvs c l n) kAt (.int ((n : Int) + 1)) = mKvs c l (n + 1) := put3_3
      rw [ep]
      have M3 : MAt (upd (upd H1 p (.lst [])) m (.dK (mKvs c l (n + 1)))) m c l (n + 1) := by
        obtain ⟨cs, hc, hc2⟩ := M2.cs
        obtain ⟨ls', q1, q2, q3⟩ := M2.ls
        exact ⟨upd_same, ⟨cs, by rw [upd_ne (ne_of hc M2.dk (by intro w; cases w))]; exact hc, hc2⟩, ⟨ls', by rw [upd_ne lm]; exact q1, q2, q3⟩, M2.cl⟩
      have e3 : Ef m H (upd (upd H1 p (.lst [])) m (.dK (mKvs c l (n + 1)))) := by
        refine e2.trans ⟨fun b o hb h1 _ => by rw [upd_ne h1]; exact hb, fun b hb => ?_, fun o _ => ⟨_, upd_same⟩⟩
        obtain ⟨kvs, kk, w1, w2⟩ := hb
        rw [upd_same] at w1
        cases w1
        rcases mKvs_ref w2 with q1 | q1
        · rw [q1]
          exact .inl M2.ownC
        · rw [q1]
          exact .inl M2.ownL
      dsimp only
      refine seq_cut (fun v H' => ∃ i : Int, v = .int i ∧ MS H' m (n + 1) ∧ Ef m H H') (fun Q' k' => ?_) ?_
      · obtain ⟨cs, hc, hc2⟩ := M3.cs
        refine ⟨_, rfl, m, _, rfl, M3.cells, rd_ne_nil hc fun q hq => ⟨_, rfl, ?_⟩⟩
        have s4 := same_upd hq (.lst [])
        have M4 := M3.same s4
        have e4 := e3.trans (Ef.ofSame ⟨c, l, M3⟩ s4)
        have hc4 := s4 _ _ hc
        cases cs with
        | nil => exact iteF (k' _ _ ⟨3, rfl, ⟨c, l, M4⟩, e4⟩)
        | cons z r =>
          refine iteT ?_
          have hp0 : (0 : Int) < (((z :: r).map V.int).length : Int) := by
            rw [List.length_map, List.length_cons]
            omega
          obtain ⟨v, hv⟩ := at_mod (n + 1 : Int) (xs := z :: r) hp0
          refine ⟨_, rfl, m, _, rfl, M4.cells, _, rfl, .inl ⟨_, rfl, _, rfl, m, _, rfl, M4.cells, c, _, rfl, .inl (SqL.of hc4), _, _, rfl, rfl, by omega, c, _, _, V.int v, rfl, rfl, SqL.of hc4, hv, ?_⟩⟩
          exact k' _ _ ⟨v, rfl, ⟨c, l, M4⟩, e4⟩
      · rintro v H4 ⟨i, rfl, M4, e4⟩
        have z0 : (0 : Int) ≤ (n : Int) + 1 := by omega
        have z1 : ((n : Int) + 1) < 2 ^ 41 := by
          have hn' : ((n : Nat) : Int) < ((2 ^ 40 : Nat) : Int) := Int.ofNat_lt.mpr hn
          have : ((2 ^ 40 : Nat) : Int) = 1099511627776 := by decide
          omega
        refine ⟨_, rfl, .inl ⟨_, rfl, _, _, rfl, rfl, by omega, _, rfl, _, _, rfl, rfl, .inl (by decide), _, _, rfl, rfl, ?_⟩⟩
        refine ⟨_, rfl, _, _, rfl, rfl, .inl (by decide), _, rfl, _, _, rfl, rfl, .inl (by constructor <;> omega), _, _, rfl, rfl, .inl ⟨_, rfl, _, _, rfl, rfl, .inr (by decide), ?_⟩⟩
        refine ⟨_, rfl, .inl ⟨_, rfl, _, _, rfl, rfl, by omega, _, rfl, _, _, rfl, rfl, .inl (by decide), _, _, rfl, rfl, .inl ⟨_, rfl, _, _, rfl, rfl, .inr (by decide), ?_⟩⟩⟩
        refine ⟨_, rfl, .inl ⟨_, rfl, _, _, rfl, rfl, by omega, _, _, rfl, rfl, ⟨by decide, by decide⟩, .inl ⟨_, rfl, _, rfl, _, _, rfl, rfl, by omega, ?_⟩⟩⟩
        exact k _ (n + 1) _ (Int.fmod_nonneg_of_pos _ h0) (Int.fmod_lt_of_pos _ h0) (Nat.le_refl _) M4 e4
end
section
variable {P : Program} {w : World} {K : PySem.W.Frag} {mg : Str → Option Value} {base : Heap}
theorem ok__law_common (T : Top K mg) : FnOk P w K mg base CX0 1 T.a__law_common T.d__law_common ["one", "other"] (sp__law_common K) := by
  refine T.F__law_common.ok sc__law_common (fun vs H Q E h => ?_) (fun cdv A outer s H vs Q E hr h => ?_)
  · obtain ⟨x, y, rfl, k⟩ := h
    rfl
  obtain ⟨x, y, rfl, k⟩ := h
  refine ⟨_, (Evl.pss_cut (ps_while PassesOwn.never (pt_cmpR op_ne (pv 1) pe_int (nomark _)) (pss_one (ps_par (i := 0) (j := 1) (by rfl) sc__law_common.nd rfl rfl (by decide) rfl rfl (pa_cons (pv 1) (pa_cons (pe_op op_modN (pe_callTy call_int1 (by rfl) T.z_int bt_int (pa_cons (pv 0) pa_nil)) (pv 1)) pa_nil)) (by rfl))))
      (pss_one (ps_ret (pv 0)))), ?_⟩
  refine ⟨fun σ H' => σ = [some (.int (Nat.gcd x y : Nat)), some (.int 0)] ∧ H' = H, ?_, ?_⟩
  · refine ⟨fun j σ H' => ∃ u : Nat, σ = [some (.int u), some (.int j)] ∧ Nat.gcd u j = Nat.gcd x y ∧ H' = H, ⟨y, x, rfl, rfl, rfl⟩, ?_⟩
    rintro j σ H1 ⟨u, rfl, e, rfl⟩
    refine ⟨_, rfl, rfl, _, rfl, ?_⟩
    rcases Nat.eq_zero_or_pos j with rfl | jp
    · refine ite2 (fun cc => absurd cc (by simp)) (fun _ => ?_)
      rw [Nat.gcd_zero_right] at e
      exact ⟨by rw [← e]; rfl, rfl⟩
    refine ite2 (fun _ => ?_) (fun cc => absurd (by simp; omega) cc)
    refine ⟨fun σ' H' => ∃ j' u' : Nat, j' < j ∧ σ' = [some (.int u'), some (.int j')] ∧ Nat.gcd u' j' = Nat.gcd x y ∧ H' = H1, ?_, ?_⟩
    · rintro σ' H' ⟨j', u', a1, a2, a3⟩
      exact ⟨j', a1, u', a2, a3⟩
    refine ⟨_, rfl, _, rfl, .inl ⟨_, rfl, _, rfl, _, _, rfl, rfl, by omega, _, _, rfl, ?_⟩⟩
    refine ⟨u % j, j, Nat.mod_lt _ jp, ?_, ?_, rfl⟩
    · show [some (V.int (j : Int)), some (V.int ((u : Int).fmod (j : Int)))] = _
      rw [fm_nat]
    · rw [← e, Nat.gcd_comm u j, Nat.gcd_rec j u, Nat.gcd_comm]
  rintro σ H1 ⟨rfl, rfl⟩
  exact ⟨_, rfl, k⟩
end
section
variable {P : Program} {w : World} {K : PySem.W.Frag} {mg : Str → Option Value} {base : Heap}
theorem ok__law_is_number (T : Top K mg) : FnOk P w K mg base CX0 1 T.a__law_is_number T.d__law_is_number ["thing"] (sp__law_is_number K) := by
  refine T.F__law_is_number.ok sc__law_is_number (fun vs H Q E h => ?_) (fun cdv A outer s H vs Q E hr h => ?_)
  · obtain ⟨x, t, b1, b2, rfl, hx, h1, h2, k⟩ := h
    rfl
  obtain ⟨x, t, b1, b2, rfl, hx, h1, h2, k⟩ := h
  refine ⟨_, (pss_one (ps_ret (pe_and (pe_callB (k_isi (K := K)) (by rfl) T.z_isinstance bt_isinstance (pa_cons (pv 0) (pa_cons (pe_bltn (v := .ty "int") (by rfl) T.z_int bt_int rfl) pa_nil))) (pe_one (pe_not (pe_callB (k_isi (K := K)) (by rfl) T.z_isinstance bt_isinstance (pa_cons (pv 0) (pa_cons (pe_bltn (v := .ty "bool") (by rfl) T.z_bool bt_bool rfl) pa_nil)))))))), ?_⟩
  refine ⟨_, rfl, x, _, t, _, b1, rfl, ClsV.ty _, hx, h1, b1, rfl, ?_⟩
  cases b1 with
  | false => exact iteF k
  | true =>
    refine iteT ?_
    exact ⟨_, rfl, x, _, t, _, b2, rfl, ClsV.ty _, hx, h2, b2, rfl, k⟩
end
section
variable {P : Program} {w : World} {K : PySem.W.Frag} {mg : Str → Option Value} {base : Heap}
theorem ok_are_samples (T : Top K mg) : FnOk P w K mg base CX0 2 T.a_are_samples T.d_are_samples ["thing", "many"] (sp_are_samples K) := by
  refine T.F_are_samples.ok sc_are_samples (fun vs H Q E h => ?_) (fun cdv A outer s H vs Q E hr h => ?_)
  · obtain ⟨v, n, d, rfl, hv, hn5, k⟩ := h
    rfl
  obtain ⟨v, n, d, rfl, hv, hn5, k⟩ := h
  refine ⟨_, (pss_cons (ps_if (PW.pt (pw_or (pt_not (pt_val (pe_callB (k_isi (K := K)) (by rfl) T.z_isinstance bt_isinstance (pa_cons (pv 0) (pa_cons (pe_bltn (v := .ty "tuple") (by rfl) T.z_tuple bt_tuple rfl) pa_nil))))) (pw_or1 (pt_cmpR op_ne (pe_callB (k_len (K := K)) (by rfl) T.z_len bt_len (pa_cons (pv 0) pa_nil)) (pv 1) (nomark _))))) (pss_one (ps_ret pe_bl)) pss_nil)
      (pss_one (ps_ret (pe_callB (k_all (K := K) rfl) (by rfl) T.z_all bt_all (pa_cons (pe_lc (own := [("sample", 2)]) rfl sc_are_samples.nd (k_piT (K := K) (pv 0)) (blkOk_by (own := [("sample", 2)]) (N := ["thing", "many", "sample"]) (sc := defScope s_are_samples) (by decide +kernel)) (fun _ _ _ _ _ => (pg_name (i := 2) sc_are_samples.nd rfl (Or.inl rfl))) (fun _ _ _ _ _ => pts_nil) (fun _ _ _ _ _ => (pe_call (ok_is_whole T) (hr.mono (by decide)) (by rfl) T.m_is_whole T.F_is_whole.kp T.b_is_whole .nil pass0 (pa_cons (pv 2) pa_nil)))) pa_nil))))), ?_⟩
  refine ⟨_, rfl, v, _, _, _, _, rfl, ClsV.ty _, hv.ty, kit_tup d, _, rfl, ?_⟩
  cases hv with
  | int i => exact iteT (iteT (k H (Same.refl H)))
  | bl i => exact iteT (iteT (k H (Same.refl H)))
  | str i => exact iteT (iteT (k H (Same.refl H)))
  | non => exact iteT (iteT (k H (Same.refl H)))
  | lst h => exact iteT (iteT (k H (Same.refl H)))
  | dct h => exact iteT (iteT (k H (Same.refl H)))
  | tup hT hX =>
    rename_i a xs ds
    refine iteF ?_
    have hlen := hX.len
    refine ⟨_, rfl, a, _, rfl, .inr hT, _, rfl, rfl, _, rfl, ?_⟩
    by_cases e : (((ds.length : Nat) : Int) = n)
    · refine iteNS (by rw [hlen, e]) ?_
      refine ⟨_, rfl, a, rfl, ⟨_, hT⟩, fun D hD => ?_⟩
      refine lc_it walk_tup (fun i H' => H' D = some (.lst (((ds.map isInt).take i).map V.bl)) ∧ Same H H') ⟨by rw [upd_same]; rfl, same_upd hD _⟩ (fun i H' _ p => Same.tk p.2 _ _ hT) ?_ ?_
      · rintro i x H1 H2 hi ⟨hA, s1⟩ ⟨rfl, hx⟩
        obtain ⟨c, hc, hC⟩ := hX.get hx
        have hC1 := hC.at s1
        refine ⟨rfl, ?_⟩
        refine ⟨_, rfl, x, _, _, _, rfl, hC1.ty, kit_int c, kit_bool c, ?_⟩
        refine ⟨_, hA, ?_, ?_, ?_⟩
        · rw [List.length_map, List.length_take, List.length_map]
          exact small1000 (by omega)
        · rw [upd_same, whole_th, take_more (l := ds.map isInt) (i := i) (x := isInt c) (by rw [List.getElem?_map, hc]; rfl), List.map_append]
          rfl
        · exact fun b' o q => by
            rw [upd_ne (ne_of_none q hD)]
            exact s1 _ _ q
      · rintro H1 ⟨hA, s1⟩
        rw [hlen, ← List.length_map (f := isInt) (as := ds), List.take_length] at hA
        refine ⟨D, _, rfl, SqL.of hA, ?_⟩
        have this : Q (.bl (decide (((ds.length : Nat) : Int) = n) && (ds.map isInt).all id)) H1 := k H1 s1
        rw [decide_eq_true e, Bool.true_and] at this
        exact this
    · have e2 : decide (V.int ((xs.length : Nat) : Int) = V.int n) = false := by
        refine decide_eq_false fun z => e ?_
        injection z with z
        rw [← z, hlen]
      rw [e2]
      refine iteT ?_
      have this : Q (.bl (decide (((ds.length : Nat) : Int) = n) && (ds.map isInt).all id)) H := k H (Same.refl H)
      rw [decide_eq_false e, Bool.false_and] at this
      exact this
end
section
variable {P : Program} {w : World} {K : PySem.W.Frag} {mg : Str → Option Value} {base : Heap}
theorem ok_need_lengths (T : Top K mg) : FnOk P w K mg base CX0 2 T.a_need_lengths T.d_need_lengths ["thing"] (sp_need_lengths K) := by
  refine T.F_need_lengths.ok sc_need_lengths (fun vs H Q E h => ?_) (fun cdv A outer s H vs Q E hr h => ?_)
  · obtain ⟨v, ds, rfl, hv, ok, k⟩ := h
    rfl
  obtain ⟨v, ds, rfl, hv, ok, k⟩ := h
  refine ⟨_, (pss_cons (ps_if (PW.pt (pw_or (pt_not (pt_val (pe_callB (k_isi (K := K)) (by rfl) T.z_isinstance bt_isinstance (pa_cons (pv 0) (pa_cons (pe_bltn (v := .ty "tuple") (by rfl) T.z_tuple bt_tuple rfl) pa_nil))))) (pw_or1 (pt_cmpR op_gt (pe_callB (k_len (K := K)) (by rfl) T.z_len bt_len (pa_cons (pv 0) pa_nil)) (pe_glob (v := .int 6) rfl T.c_MOST_LENGTHS ⟨_, rfl⟩) (nomark _))))) (pss_one ps_never) pss_nil)
      (pss_cons (ps_for PassesOwn.never rfl (k_piET (K := K) (by rfl) T.z_enumerate (pa_cons (pv 0) pa_nil)) (pg_tup rfl (pgs_cons (pg_name (i := 1) sc_need_lengths.nd rfl (Or.inl rfl)) (pgs_cons (pg_name (i := 2) sc_need_lengths.nd rfl (Or.inl rfl)) pgs_nil))) (pss_one (ps_if (PW.pt (pw_or (pt_not (pt_val (pe_call (ok_is_whole T) (hr.mono (by decide)) (by rfl) T.m_is_whole T.F_is_whole.kp T.b_is_whole .nil pass0 (pa_cons (pv 2) pa_nil)))) (pw_or1 (pt_not (pt_chain op_le op_le pe_int (pv 2) (pe_glob (v := .int 64) rfl T.c_MOST_LENGTH ⟨_, rfl⟩)))))) (pss_one ps_never) pss_nil)))
      (pss_one (ps_ret (pv 0))))), ?_⟩
  obtain ⟨ok1, ok2⟩ := ok
  obtain ⟨a, rfl, hT⟩ := hv.ints
  refine ⟨_, rfl, _, _, _, _, true, rfl, ClsV.ty _, hT.ty, kit_tt, true, rfl, iteF ?_⟩
  refine ⟨_, rfl, a, _, rfl, .inr hT, _, _, rfl, rfl, _, rfl, iteN (by rw [List.length_map]; omega) ?_⟩
  refine ⟨_, rfl, a, _, rfl, hT, ?_⟩
  refine for_it walk_enumT (fun i σ H' => ∃ w1 w2, σ = [some (.ref a), w1, w2] ∧ Same H H') ⟨none, none, rfl, Same.refl H⟩ (fun i σ H' _ ⟨_, _, _, s⟩ => Same.tk s _ _ hT) ?_ ?_
  · rintro i x σ H1 H2 hi ⟨w1, w2, rfl, s1⟩ ⟨t, y, z, rfl, ht, rfl, hy, hz⟩
    cases hy
    obtain ⟨c, hc, rfl⟩ := map_int_get hz
    obtain ⟨c1, c2⟩ := ok2 c (List.mem_of_getElem? hc)
    have s2 := same_step s1 ht (.tup [.int (i : Nat), .int c])
    refine ⟨t, _, rfl, SqT.of upd_same, rfl, _, _, rfl, _, _, rfl, rfl, ?_⟩
    refine ⟨_, rfl, .int c, _, true, false, rfl, .base (.int c), kit_ii, kit_ib, _, rfl, ?_⟩
    refine iteF ?_
    refine ⟨_, rfl, _, _, rfl, rfl, _, rfl, iteP c1 ?_⟩
    refine ⟨_, _, rfl, rfl, _, rfl, ?_⟩
    show (if (!decide (c ≤ (64 : Int))) = true then _ else _)
    rw [decide_eq_true c2]
    exact iteF ⟨_, _, rfl, s2⟩
  rintro σ H2 ⟨w1, w2, rfl, s2⟩
  exact ⟨_, rfl, k H2 s2⟩
end
section
variable {P : Program} {w : World} {K : PySem.W.Frag} {mg : Str → Option Value} {base : Heap}
theorem ok_common_multiple (T : Top K mg) : FnOk P w K mg base CX0 2 T.a_common_multiple T.d_common_multiple ["lengths"] (sp_common_multiple K) := by
  refine T.F_common_multiple.ok sc_common_multiple (fun vs H Q E h => ?_) (fun cdv A outer s H vs Q E hr h => ?_)
  · obtain ⟨v, ns, rfl, hv, h1, h2, k⟩ := h
    rfl
  obtain ⟨v, ns, rfl, hv, h1, h2, k⟩ := h
  refine ⟨_, (pss_cons (ps_set (i := 1) sc_common_multiple.nd rfl (Or.inl rfl) pe_int)
      (pss_cons (ps_for PassesOwn.never rfl (k_piT (K := K) (pv 0)) (pg_name (i := 2) sc_common_multiple.nd rfl (Or.inl rfl)) (pss_one (ps_set (i := 1) sc_common_multiple.nd rfl (Or.inl rfl) (pe_op op_mul (pv 1) (pe_op op_fdivW (pv 2) (pe_call (ok_common_divisor T) (hr.mono (by decide)) (by rfl) T.m_common_divisor T.F_common_divisor.kp T.b_common_divisor .nil pass0 (pa_cons (pv 1) (pa_cons (pv 2) pa_nil))))))))
      (pss_one (ps_ret (pv 1))))), ?_⟩
  obtain ⟨a, rfl, hT⟩ := hv.ints
  refine ⟨_, rfl, a, rfl, ⟨_, hT⟩, ?_⟩
  refine for_it walk_tup (fun i σ H' => ∃ w1, σ = [some (.ref a), some (.int (lcmN (ns.take i) : Nat)), w1] ∧ H' = H) ⟨none, rfl, rfl⟩ (fun i σ H' _ ⟨_, _, s⟩ => s ▸ hT) ?_ ?_
  · rintro i x σ H2 H3 hi ⟨w1, rfl, rfl⟩ ⟨rfl, hx⟩
    obtain ⟨c, hc, rfl⟩ := map_int_get hx
    obtain ⟨n, hn, rfl⟩ := nn_get hc
    have n1 := h1 n (List.mem_of_getElem? hn)
    have gp : 0 < Nat.gcd (lcmN (ns.take i)) n := Nat.gcd_pos_of_pos_right _ n1
    have nL : n ≤ lcmN ns := Nat.le_of_dvd (lcmN_pos h1) (dvd_lcmN (List.mem_of_getElem? hn))
    have gL : Nat.gcd (lcmN (ns.take i)) n ≤ 2 ^ 40 := Nat.le_trans (Nat.gcd_le_right _ n1) (Nat.le_trans nL h2)
    have qL : n / Nat.gcd (lcmN (ns.take i)) n ≤ 2 ^ 40 := Nat.le_trans (Nat.div_le_self _ _) (Nat.le_trans nL h2)
    have q0 : 0 ≤ (n : Int) / ((Nat.gcd (lcmN (ns.take i)) n : Nat) : Int) := Int.ediv_nonneg (by omega) (by omega)
    refine ⟨_, rfl, _, rfl, _, rfl, _, rfl, lcmN (ns.take i), n, rfl, _, _, rfl, rfl, ⟨by omega, log_nat gL⟩, _, _, rfl, rfl, .inr ⟨by omega, by omega⟩, ?_⟩
    refine ⟨some (V.int (n : Nat)), ?_, rfl⟩
    rw [lcmN_take hn, ← lcm_a, Int.natCast_mul, Int.natCast_ediv]
    rfl
  rintro σ H2 ⟨w1, rfl, rfl⟩
  rw [List.length_map, nn_len, List.take_length]
  exact ⟨_, rfl, k⟩
end
section
variable {P : Program} {w : World} {K : PySem.W.Frag} {mg : Str → Option Value} {base : Heap}
theorem ok_never_meet (T : Top K mg) : FnOk P w K mg base CX0 2 T.a_never_meet T.d_never_meet ["lengths", "places", "one", "other"] (sp_never_meet K) := by
  refine T.F_never_meet.ok sc_never_meet (fun vs H Q E h => ?_) (fun cdv A outer s H vs Q E hr h => ?_)
  · obtain ⟨v, w, ns, ps, i, j, rfl, hv, hw, ok, okp, hi, hj, k⟩ := h
    rfl
  obtain ⟨v, w, ns, ps, i, j, rfl, hv, hw, ok, okp, hi, hj, k⟩ := h
  refine ⟨_, (pss_one (ps_ret (pe_cmpR op_ne (pe_op op_modN (pe_op op_sub (pe_ix (k_ixT (K := K)) (pv 1) (pv 2) (fun _ _ => rfl)) (pe_ix (k_ixT (K := K)) (pv 1) (pv 3) (fun _ _ => rfl))) (pe_call (ok_common_divisor T) (hr.mono (by decide)) (by rfl) T.m_common_divisor T.F_common_divisor.kp T.b_common_divisor .nil pass0 (pa_cons (pe_ix (k_ixT (K := K)) (pv 0) (pv 2) (fun _ _ => rfl)) (pa_cons (pe_ix (k_ixT (K := K)) (pv 0) (pv 3) (fun _ _ => rfl)) pa_nil)))) pe_int (nomark _)))), ?_⟩
  obtain ⟨pl, pb⟩ := id okp
  obtain ⟨ok1, ok2⟩ := id ok
  obtain ⟨b, rfl, hU⟩ := hw.ints
  obtain ⟨a, rfl, hT⟩ := hv.ints
  have ei : ns[i]? = some ns[i] := List.getElem?_eq_getElem hi
  have ej : ns[j]? = some ns[j] := List.getElem?_eq_getElem hj
  have fi : ps[i]? = some (ps[i]'(by omega)) := List.getElem?_eq_getElem (by omega)
  have fj : ps[j]? = some (ps[j]'(by omega)) := List.getElem?_eq_getElem (by omega)
  have gp : 0 < Nat.gcd ns[i] ns[j] := Nat.gcd_pos_of_pos_left _ (ok2 _ (List.getElem_mem hi)).1
  refine ⟨_, rfl, _, rfl, b, _, _, _, rfl, rfl, hU, int_at fi, _, rfl, _, rfl, b, _, _, _, rfl, rfl, hU, int_at fj, _, _, rfl, rfl, ?_⟩
  refine ⟨_, rfl, _, rfl, a, _, _, _, rfl, rfl, hT, nn_at ei, _, rfl, _, rfl, a, _, _, _, rfl, rfl, hT, nn_at ej, _, _, rfl, _, _, rfl, rfl, by omega, rfl, ?_⟩
  refine k _ ?_
  show (!decide (V.int ((ps[i] - ps[j]).fmod ((ns[i].gcd ns[j] : Nat) : Int)) = V.int 0)) = true ↔ _
  rw [Int.fmod_eq_emod_of_nonneg _ (by omega)]
  constructor
  · intro h
    refine ⟨_, _, _, _, ei, ej, fi, fj, fun z => ?_⟩
    rw [Int.emod_eq_zero_of_dvd z] at h
    cases h
  · rintro ⟨a', b', p', q', h1, h2, h3, h4, h5⟩
    rw [ei] at h1
    rw [ej] at h2
    rw [fi] at h3
    rw [fj] at h4
    cases h1
    cases h2
    cases h3
    cases h4
    simp
    intro z
    exact h5 (Int.dvd_of_emod_eq_zero z)
end
section
variable {P : Program} {w : World} {K : PySem.W.Frag} {mg : Str → Option Value} {base : Heap}
theorem ok__law_lengths (T : Top K mg) : FnOk P w K mg base CX0 2 T.a__law_lengths T.d__law_lengths ["m", "many", "most"] (sp__law_lengths K) := by
  refine T.F__law_lengths.ok sc__law_lengths (fun vs H Q E h => ?_) (fun cdv A outer s H vs Q E hr h => ?_)
  · obtain ⟨m, many, most, n, rfl, M, h0, h1, h2, h3, hn, k⟩ := h
    rfl
  obtain ⟨m, many, most, n, rfl, M, h0, h1, h2, h3, hn, k⟩ := h
  refine ⟨_, (pss_one (ps_ret (pe_callTy (k_tuple (K := K)) (by rfl) T.z_tuple bt_tuple (pa_cons (pe_lc (own := [("k", 3)]) rfl sc__law_lengths.nd (pi_range1 (by rfl) T.z_range (pa_cons (pe_call (ok__law_next T) (hr.mono (by decide)) (by rfl) T.m__law_next T.F__law_next.kp T.b__law_next .nil pass0 (pa_cons (pv 0) (pa_cons (pe_op op_add (pv 1) pe_int) pa_nil))) pa_nil)) (blkOk_by (own := [("k", 3)]) (N := ["m", "many", "most", "k"]) (sc := defScope s__law_lengths) (by decide +kernel)) (fun _ _ _ _ _ => (pg_name (i := 3) sc__law_lengths.nd rfl (Or.inl rfl))) (fun _ _ _ _ _ => pts_nil) (fun _ _ _ _ _ => (pe_op op_add pe_int (pe_call (ok__law_next T) (hr.mono (by decide)) (by rfl) T.m__law_next T.F__law_next.kp T.b__law_next .nil pass0 (pa_cons (pv 0) (pa_cons (pv 2) pa_nil)))))) pa_nil)))), ?_⟩
  refine ⟨_, rfl, _, rfl, _, _, rfl, rfl, m, _, n, rfl, M, by omega, by omega, by omega, fun r n1 H1 r0 r4 hn1 M1 e1 => ?_⟩
  refine ⟨r, rfl, by omega, by omega, fun D hD => ?_⟩
  refine lc_it walk_range (fun i H' => ∃ (acc : List Int) (n' : Nat), H' D = some (.lst (acc.map V.int)) ∧ acc.length = i ∧ (∀ z ∈ acc, 1 ≤ z ∧ z ≤ most) ∧ n' ≤ n1 + i ∧ MS H' m n' ∧ ¬ Lf H' m D ∧ Ef m H1 H')
    ⟨[], n1, upd_same, rfl, (by intro z hz; cases hz), Nat.le_refl _, M1.same (same_upd hD _), fun z => M1.notLf hD (z.upd (M1.mne hD)), Ef.ofSame M1 (same_upd hD _)⟩ (fun _ _ _ _ => trivial) ?_ ?_
  · rintro i x H2 H3 hi ⟨acc, n', hA, hi2, hb, hn', M2, nl, e2⟩ ⟨rfl, rfl⟩
    refine ⟨rfl, ?_⟩
    have hir : i < 100 := by omega
    refine ⟨_, rfl, _, rfl, m, most, n', rfl, M2, by omega, by omega, by omega, fun r2 n2 H4 a0 a1 hn2 M4 e4 => ⟨_, _, rfl, rfl, ?_⟩⟩
    obtain ⟨hA4, nl4⟩ := e4.lst M2 hA nl
    refine ⟨_, hA4, by rw [List.length_map]; exact small1000 (by omega), acc ++ [1 + r2], n2, ?_, ?_, ?_, by omega, M4.upd hA4 nl4, fun z => nl4 (z.upd (M4.mneL hA4)), (e2.trans e4).upd hD (M4.mneL hA4)⟩
    · rw [upd_same, List.map_append]
      all_goals rfl
    · rw [List.length_append, List.length_singleton, hi2]
    · intro y hy
      rcases List.mem_append.mp hy with q | q
      · exact hb y q
      · rw [List.mem_singleton.mp q]
        exact ⟨by omega, by omega⟩
  · rintro H2 ⟨acc, n', hA, hi2, hb, hn', M2, nl, e2⟩
    refine ⟨D, _, rfl, .inl ⟨SqL.of hA, fun t ht => ?_⟩⟩
    refine k _ acc n' _ (Dp.ofInts (SqT.of upd_same)) (by omega) hb (by omega) (M2.same (same_upd ht _)) ((e1.trans e2).trans (Ef.ofSame M2 (same_upd ht _)))
end
section
variable {P : Program} {w : World} {K : PySem.W.Frag} {mg : Str → Option Value} {base : Heap}
theorem ok__law_round (T : Top K mg) : FnOk P w K mg base CX0 2 T.a__law_round T.d__law_round ["lengths"] (sp__law_round K) := by
  refine T.F__law_round.ok sc__law_round (fun vs H Q E h => ?_) (fun cdv A outer s H vs Q E hr h => ?_)
  · obtain ⟨v, ns, rfl, hv, h1, h2, k⟩ := h
    rfl
  obtain ⟨v, ns, rfl, hv, h1, h2, k⟩ := h
  refine ⟨_, (pss_cons (ps_set (i := 1) sc__law_round.nd rfl (Or.inl rfl) pe_int)
      (pss_cons (ps_for PassesOwn.never rfl (k_piT (K := K) (pv 0)) (pg_name (i := 2) sc__law_round.nd rfl (Or.inl rfl)) (pss_one (ps_set (i := 1) sc__law_round.nd rfl (Or.inl rfl) (pe_op op_mul (pe_op op_fdivW (pv 1) (pe_call (ok__law_common T) (hr.mono (by decide)) (by rfl) T.m__law_common T.F__law_common.kp T.b__law_common .nil pass0 (pa_cons (pv 1) (pa_cons (pv 2) pa_nil)))) (pv 2)))))
      (pss_one (ps_ret (pv 1))))), ?_⟩
  obtain ⟨a, rfl, hT⟩ := hv.ints
  refine ⟨_, rfl, a, rfl, ⟨_, hT⟩, ?_⟩
  refine for_it walk_tup (fun i σ H' => ∃ w1, σ = [some (.ref a), some (.int (lcmN (ns.take i) : Nat)), w1] ∧ H' = H) ⟨none, rfl, rfl⟩ (fun i σ H' _ ⟨_, _, s⟩ => s ▸ hT) ?_ ?_
  · rintro i x σ H2 H3 hi ⟨w1, rfl, rfl⟩ ⟨rfl, hx⟩
    obtain ⟨c, hc, rfl⟩ := map_int_get hx
    obtain ⟨n, hn, rfl⟩ := nn_get hc
    have n1 := h1 n (List.mem_of_getElem? hn)
    have gp : 0 < Nat.gcd (lcmN (ns.take i)) n := Nat.gcd_pos_of_pos_right _ n1
    have nL : n ≤ lcmN ns := Nat.le_of_dvd (lcmN_pos h1) (dvd_lcmN (List.mem_of_getElem? hn))
    have gL : Nat.gcd (lcmN (ns.take i)) n ≤ 2 ^ 40 := Nat.le_trans (Nat.gcd_le_right _ n1) (Nat.le_trans nL h2)
    have qL : n ≤ 2 ^ 40 := Nat.le_trans nL h2
    refine ⟨_, rfl, _, rfl, _, rfl, lcmN (ns.take i), n, rfl, _, _, rfl, rfl, ⟨by omega, log_nat gL⟩, _, rfl, _, _, rfl, rfl, .inr ⟨by omega, by omega⟩, ?_⟩
    refine ⟨some (V.int (n : Nat)), ?_, rfl⟩
    rw [lcmN_take hn, ← lcm_b, Int.natCast_mul, Int.natCast_ediv]
    rfl
  rintro σ H2 ⟨w1, rfl, rfl⟩
  rw [List.length_map, nn_len, List.take_length]
  exact ⟨_, rfl, k⟩
end
section
variable {P : Program} {w : World} {K : PySem.W.Frag} {mg : Str → Option Value} {base : Heap}
theorem ok__law_is_stranger (T : Top K mg) : FnOk P w K mg base CX0 2 T.a__law_is_stranger T.d__law_is_stranger ["lengths", "places", "one", "other"] (sp__law_is_stranger K) := by
  refine T.F__law_is_stranger.ok sc__law_is_stranger (fun vs H Q E h => ?_) (fun cdv A outer s H vs Q E hr h => ?_)
  · obtain ⟨v, w, ns, ps, i, j, rfl, hv, hw, ok, okp, k⟩ := h
    rfl
  obtain ⟨v, w, ns, ps, i, j, rfl, hv, hw, ok, okp, k⟩ := h
  refine ⟨_, (pss_cons (ps_if (pt_not (pt_chain3 op_le op_lt op_lt pe_int (pv 2) (pv 3) (pe_callB (k_len (K := K)) (by rfl) T.z_len bt_len (pa_cons (pv 0) pa_nil)))) (pss_one (ps_ret pe_bl)) pss_nil)
      (pss_one (ps_ret (pe_cmpR op_ne (pe_op op_modN (pe_callTy call_int1 (by rfl) T.z_int bt_int (pa_cons (pe_op op_sub (pe_ix (k_ixT (K := K)) (pv 1) (pv 2) (fun _ _ => rfl)) (pe_ix (k_ixT (K := K)) (pv 1) (pv 3) (fun _ _ => rfl))) pa_nil)) (pe_call (ok__law_common T) (hr.mono (by decide)) (by rfl) T.m__law_common T.F__law_common.kp T.b__law_common .nil pass0 (pa_cons (pe_ix (k_ixT (K := K)) (pv 0) (pv 2) (fun _ _ => rfl)) (pa_cons (pe_ix (k_ixT (K := K)) (pv 0) (pv 3) (fun _ _ => rfl)) pa_nil)))) pe_int (nomark _))))), ?_⟩
  obtain ⟨ok1, ok2⟩ := id ok
  obtain ⟨pl, pb⟩ := id okp
  obtain ⟨b, rfl, hU⟩ := hw.ints
  obtain ⟨a, rfl, hT⟩ := hv.ints
  have no : ¬ nevOk ns ps i j → Q (.bl false) H := fun z => k false ⟨fun q => Bool.noConfusion q, fun q => absurd q z⟩
  refine ⟨_, rfl, _, _, rfl, rfl, _, rfl, ?_⟩
  by_cases i0 : 0 ≤ i
  rotate_left
  · refine iteN i0 ?_
    exact ⟨_, rfl, iteT (no fun z => i0 z.1)⟩
  refine iteP i0 ⟨_, rfl, _, _, rfl, rfl, _, rfl, ?_⟩
  by_cases ij : i < j
  rotate_left
  · refine iteN ij ?_
    exact ⟨_, rfl, iteT (no fun z => ij z.2.1)⟩
  refine iteP ij ⟨_, rfl, a, _, rfl, .inr hT, _, _, rfl, rfl, _, rfl, ?_⟩
  have el : (((NN ns).map V.int).length : Int) = (ns.length : Int) := by rw [List.length_map, nn_len]
  rw [el]
  by_cases jl : j < (ns.length : Int)
  rotate_left
  · rw [decide_eq_false jl]
    exact iteT (no fun z => jl z.2.2.1)
  rw [decide_eq_true jl]
  refine iteF ?_
  obtain ⟨i', rfl⟩ := Int.eq_ofNat_of_zero_le i0
  obtain ⟨j', rfl⟩ := Int.eq_ofNat_of_zero_le (show 0 ≤ j by omega)
  have hi : i' < ns.length := by omega
  have hj : j' < ns.length := by omega
  have ei : ns[i']? = some ns[i'] := List.getElem?_eq_getElem hi
  have ej : ns[j']? = some ns[j'] := List.getElem?_eq_getElem hj
  have fi : ps[i']? = some (ps[i']'(by omega)) := List.getElem?_eq_getElem (by omega)
  have fj : ps[j']? = some (ps[j']'(by omega)) := List.getElem?_eq_getElem (by omega)
  have gp : 0 < Nat.gcd ns[i'] ns[j'] := Nat.gcd_pos_of_pos_left _ (ok2 _ (List.getElem_mem hi)).1
  refine ⟨_, rfl, _, rfl, b, _, _, _, rfl, rfl, hU, int_at fi, _, rfl, _, rfl, b, _, _, _, rfl, rfl, hU, int_at fj, _, _, rfl, rfl, .inl ⟨_, rfl, ?_⟩⟩
  refine ⟨_, rfl, _, rfl, a, _, _, _, rfl, rfl, hT, nn_at ei, _, rfl, _, rfl, a, _, _, _, rfl, rfl, hT, nn_at ej, _, _, rfl, _, _, rfl, rfl, by omega, rfl, ?_⟩
  refine k _ ((nvp_iff ei ej fi fj).trans ?_)
  exact ⟨fun z => ⟨i0, ij, jl, z⟩, fun z => z.2.2.2⟩
end
section
variable {P : Program} {w : World} {K : PySem.W.Frag} {mg : Str → Option Value} {base : Heap}
theorem ok_need_places (T : Top K mg) : FnOk P w K mg base CX0 3 T.a_need_places T.d_need_places ["lengths", "places"] (sp_need_places K) := by
  refine T.F_need_places.ok sc_need_places (fun vs H Q E h => ?_) (fun cdv A outer s H vs Q E hr h => ?_)
  · obtain ⟨v, w, ns, ps, rfl, hv, hw, ok, okp, k⟩ := h
    rfl
  obtain ⟨v, w, ns, ps, rfl, hv, hw, ok, okp, k⟩ := h
  refine ⟨_, (pss_cons (ps_if (pt_not (pt_val (pe_call (ok_are_samples T) (hr.mono (by decide)) (by rfl) T.m_are_samples T.F_are_samples.kp T.b_are_samples .nil pass0 (pa_cons (pv 1) (pa_cons (pe_callB (k_len (K := K)) (by rfl) T.z_len bt_len (pa_cons (pv 0) pa_nil)) pa_nil))))) (pss_one ps_never) pss_nil)
      (pss_one (ps_if (pt_not (pt_val (pe_callB (k_all (K := K) rfl) (by rfl) T.z_all bt_all (pa_cons (pe_lc (own := [("place", 2), ("length", 3)]) rfl sc_need_places.nd (k_piZA (K := K) (by rfl) T.z_zip (pa_cons (pv 1) (pa_cons (pv 0) pa_nil))) (blkOk_by (own := [("place", 2), ("length", 3)]) (N := ["lengths", "places", "place", "length"]) (sc := defScope s_need_places) (by decide +kernel)) (fun _ _ _ _ _ => (k_pgt (K := K) (n := 2) rfl (pgs_cons (pg_name (i := 2) sc_need_places.nd rfl (Or.inl rfl)) (pgs_cons (pg_name (i := 3) sc_need_places.nd rfl (Or.inl rfl)) pgs_nil)))) (fun _ _ _ _ _ => pts_nil) (fun _ _ _ _ _ => (pe_chain op_le op_lt pe_int (pv 2) (pv 3)))) pa_nil)))) (pss_one ps_never) pss_nil))), ?_⟩
  obtain ⟨pl, pb⟩ := id okp
  obtain ⟨ok1, ok2⟩ := id ok
  obtain ⟨b, rfl, hU⟩ := hw.ints
  obtain ⟨a, rfl, hT⟩ := hv.ints
  refine ⟨_, rfl, _, rfl, a, _, rfl, .inr hT, .ref b, _, .tup (ps.map Th.int), rfl, rt_ints hU, by rw [List.length_map, nn_len]; omega, fun H1 s1 => ?_⟩
  rw [smp_ints (by rw [List.length_map, nn_len, pl])]
  refine ⟨_, rfl, iteF ?_⟩
  have hT1 := Same.tk s1 _ _ hT
  have hU1 := Same.tk s1 _ _ hU
  refine ⟨_, rfl, _, rfl, b, a, _, _, rfl, .inr ⟨hU1, hT1, fun D hD => ?_⟩⟩
  refine lc_it (walk_zipT (by rw [List.length_map, List.length_map, nn_len, pl])) (fun i H' => H' D = some (.lst ((List.replicate i true).map V.bl)) ∧ Same H1 H') ⟨upd_same, same_upd hD _⟩ (fun i H' _ p => ⟨Same.tk p.2 _ _ hU1, Same.tk p.2 _ _ hT1⟩) ?_ ?_
  · rintro i x H2 H3 hi ⟨hA, s2⟩ ⟨t, y, z, rfl, ht, rfl, hy, hz⟩
    obtain ⟨p, hp, rfl⟩ := map_int_get hy
    obtain ⟨c, hc, rfl⟩ := map_int_get hz
    obtain ⟨n, hn, rfl⟩ := nn_get hc
    obtain ⟨p0, p1⟩ := pb i n p hn hp
    have hA3 := (same_upd ht (.tup [.int p, .int (n : Nat)])) _ _ hA
    have s3 := same_step s2 ht (.tup [.int p, .int (n : Nat)])
    rw [List.length_map] at hi
    refine ⟨t, _, rfl, SqT.of upd_same, rfl, _, _, rfl, _, _, rfl, rfl, rfl, ?_⟩
    refine ⟨_, rfl, _, _, rfl, rfl, _, rfl, iteP p0 ⟨_, rfl, _, _, rfl, rfl, _, hA3, by rw [List.length_map, List.length_replicate]; exact small1000 (by have := ok1; omega), ?_, ?_⟩⟩
    · rw [upd_same]
      show some (HO.lst (List.map V.bl (List.replicate i true) ++ [V.bl (decide (p < (n : Int)))])) = _
      rw [decide_eq_true p1]
      exact rep_more
    · exact fun b' o q => by
        rw [upd_ne (ne_of_none q hD)]
        exact s3 _ _ q
  · rintro H2 ⟨hA, s2⟩
    refine ⟨D, _, rfl, SqL.of hA, ?_⟩
    rw [rep_bl]
    exact ⟨_, rfl, iteF (k H2 (s1.trans s2))⟩
end
section
variable {P : Program} {w : World} {K : PySem.W.Frag} {mg : Str → Option Value} {base : Heap}
theorem ok_is_first_meeting (T : Top K mg) : FnOk P w K mg base CX0 3 T.a_is_first_meeting T.d_is_first_meeting ["lengths", "places", "tick"] (sp_is_first_meeting K) := by
  refine T.F_is_first_meeting.ok sc_is_first_meeting (fun vs H Q E h => ?_) (fun cdv A outer s H vs Q E hr h => ?_)
  · obtain ⟨v, w, ns, ps, t, rfl, hv, hw, ok, okp, k⟩ := h
    rfl
  obtain ⟨v, w, ns, ps, t, rfl, hv, hw, ok, okp, k⟩ := h
  refine ⟨_, (pss_cons (ps_if (pt_not (pt_chain op_le op_lt pe_int (pv 2) (pe_call (ok_common_multiple T) (hr.mono (by decide)) (by rfl) T.m_common_multiple T.F_common_multiple.kp T.b_common_multiple .nil pass0 (pa_cons (pv 0) pa_nil)))) (pss_one (ps_ret pe_bl)) pss_nil)
      (pss_one (ps_ret (pe_callB (k_all (K := K) rfl) (by rfl) T.z_all bt_all (pa_cons (pe_lc (own := [("length", 3), ("place", 4)]) rfl sc_is_first_meeting.nd (k_piZA (K := K) (by rfl) T.z_zip (pa_cons (pv 0) (pa_cons (pv 1) pa_nil))) (blkOk_by (own := [("length", 3), ("place", 4)]) (N := ["lengths", "places", "tick", "length", "place"]) (sc := defScope s_is_first_meeting) (by decide +kernel)) (fun _ _ _ _ _ => (k_pgt (K := K) (n := 2) rfl (pgs_cons (pg_name (i := 3) sc_is_first_meeting.nd rfl (Or.inl rfl)) (pgs_cons (pg_name (i := 4) sc_is_first_meeting.nd rfl (Or.inl rfl)) pgs_nil)))) (fun _ _ _ _ _ => pts_nil) (fun _ _ _ _ _ => (pe_cmpR op_eq (pe_op op_modN (pv 2) (pv 3)) (pv 4) (nomark _)))) pa_nil))))), ?_⟩
  obtain ⟨ok1, ok2⟩ := id ok
  obtain ⟨pl, pb⟩ := id okp
  obtain ⟨b, rfl, hU⟩ := hw.ints
  obtain ⟨a, rfl, hT⟩ := hv.ints
  have no : ¬ tickOk ns ps t → Q (.bl false) H := fun z => k false H ⟨fun q => Bool.noConfusion q, fun q => absurd q z⟩ (Same.refl H)
  refine ⟨_, rfl, _, _, rfl, rfl, _, rfl, ?_⟩
  by_cases t0 : 0 ≤ t
  rotate_left
  · refine iteN t0 ?_
    exact ⟨_, rfl, iteT (no fun z => t0 z.1)⟩
  refine iteP t0 ⟨_, rfl, .ref a, ns, rfl, hv, fun n hn => (ok2 n hn).1, okm_lcm ok, _, _, rfl, rfl, _, rfl, ?_⟩
  show (if (!decide (t < ((lcmN ns : Nat) : Int))) = true then _ else _)
  by_cases t1 : t < ((lcmN ns : Nat) : Int)
  rotate_left
  · rw [decide_eq_false t1]
    exact iteT (no fun z => t1 z.2.1)
  rw [decide_eq_true t1]
  refine iteF ?_
  refine ⟨_, rfl, _, rfl, a, b, _, _, rfl, .inr ⟨hT, hU, fun D hD => ?_⟩⟩
  refine lc_it (walk_zipT (by rw [List.length_map, List.length_map, nn_len, pl])) (fun i H' => ∃ bs : List Bool, bs.length = i ∧ (bs.all id = true ↔ ps.take i = plc (ns.take i) t) ∧ H' D = some (.lst (bs.map V.bl)) ∧ Same H H') ⟨[], rfl, ⟨fun _ => rfl, fun _ => rfl⟩, upd_same, same_upd hD _⟩ (fun i H' _ ⟨_, _, _, _, p⟩ => ⟨Same.tk p _ _ hT, Same.tk p _ _ hU⟩) ?_ ?_
  · rintro i x H2 H3 hi ⟨bs, hb, hbt, hA, s2⟩ ⟨t', y, z, rfl, ht, rfl, hy, hz⟩
    obtain ⟨c, hc, rfl⟩ := map_int_get hy
    obtain ⟨n, hn, rfl⟩ := nn_get hc
    obtain ⟨p, hp, rfl⟩ := map_int_get hz
    have n1 := (ok2 n (List.mem_of_getElem? hn)).1
    have hA3 := (same_upd ht (.tup [.int (n : Nat), .int p])) _ _ hA
    have s3 := same_step s2 ht (.tup [.int (n : Nat), .int p])
    rw [List.length_map, nn_len] at hi
    refine ⟨t', _, rfl, SqT.of upd_same, rfl, _, _, rfl, _, _, rfl, rfl, rfl, ?_⟩
    refine ⟨_, rfl, _, rfl, _, _, rfl, rfl, by omega, _, rfl, rfl, _, hA3, by rw [List.length_map, hb]; exact small1000 (by omega), ?_⟩
    have e1 : t.fmod (n : Int) = t % (n : Int) := Int.fmod_eq_emod_of_nonneg _ (by omega)
    refine ⟨bs ++ [decide (V.int (t.fmod (n : Int)) = V.int p)], by rw [List.length_append, hb]; rfl, ?_, ?_, ?_⟩
    · rw [take_more hp, take_more hn, plc_snoc, all_snoc, hbt]
      exact snoc_iff e1
    · rw [upd_same, List.map_append]
      rfl
    · exact fun b' o q => by
        rw [upd_ne (ne_of_none q hD)]
        exact s3 _ _ q
  · rintro H2 ⟨bs, hb, hbt, hA, s2⟩
    refine ⟨D, _, rfl, SqL.of hA, ?_⟩
    refine k _ H2 (hbt.trans ?_) s2
    rw [List.length_map, nn_len, List.take_length, ← pl, List.take_length]
    exact ⟨fun z => ⟨t0, t1, z⟩, fun z => z.2.2⟩
end
section
variable {P : Program} {w : World} {K : PySem.W.Frag} {mg : Str → Option Value} {base : Heap}
theorem ok__law_due (T : Top K mg) : FnOk P w K mg base CX0 3 T.a__law_due T.d__law_due ["lengths", "places", "paper"] (sp__law_due K) := by
  refine T.F__law_due.ok sc__law_due (fun vs H Q E h => ?_) (fun cdv A outer s H vs Q E hr h => ?_)
  · obtain ⟨v, w, u, ns, ps, d, rfl, hv, hw, hu, ok, okp, hs, k⟩ := h
    rfl
  obtain ⟨v, w, u, ns, ps, d, rfl, hv, hw, hu, ok, okp, hs, k⟩ := h
  refine ⟨_, (pss_cons (ps_if (PW.pt (pw_or (pt_not (pt_val (pe_callB (k_isi (K := K)) (by rfl) T.z_isinstance bt_isinstance (pa_cons (pv 2) (pa_cons (pe_bltn (v := .ty "tuple") (by rfl) T.z_tuple bt_tuple rfl) pa_nil))))) (pw_or (pt_cmpR (op_eqT0 (K := K) hr.units) (pv 2) (pe_tup pa_nil) (nomark _)) (pw_or1 (pt_not (pt_val (pe_callB (k_isi (K := K)) (by rfl) T.z_isinstance bt_isinstance (pa_cons (pe_ix (k_ixT (K := K)) (pv 2) pe_int (fun _ _ => rfl)) (pa_cons (pe_bltn (v := .ty "str") (by rfl) T.z_str bt_str rfl) pa_nil))))))))) (pss_one (ps_ret (pe_lst (pa_cons pe_str pa_nil)))) pss_nil)
      (pss_cons (ps_if (pt_cmpR (k_notInD (K := K) (room65 hr)) (pe_lst (pa_cons (pe_ix (k_ixT (K := K)) (pv 2) pe_int (fun _ _ => rfl)) (pa_cons (pe_callB (k_len (K := K)) (by rfl) T.z_len bt_len (pa_cons (pv 2) pa_nil)) pa_nil))) (pe_lst (pa_cons (pe_lst (pa_cons pe_str (pa_cons pe_int pa_nil))) (pa_cons (pe_lst (pa_cons pe_str (pa_cons pe_int pa_nil))) pa_nil))) (by with_unfolding_all rfl)) (pss_one (ps_ret (pe_lst (pa_cons pe_str pa_nil)))) pss_nil)
      (pss_cons (ps_if (pt_cmpR (op_neL0 (K := K) hr.units) (pe_lc (own := [("thing", 6)]) rfl sc__law_due.nd (k_piT (K := K) (pe_slice (k_slT (K := K)) (pv 2) (po_some pe_int) po_none)) (blkOk_by (own := [("thing", 6)]) (N := ["lengths", "places", "paper", "wrong", "k", "length", "thing"]) (sc := defScope s__law_due) (by decide +kernel)) (fun _ _ _ _ _ => (pg_name (i := 6) sc__law_due.nd rfl (Or.inl rfl))) (fun _ _ _ _ _ => (pts_one (pt_not (pt_val (pe_call (ok__law_is_number T) (hr.mono (by decide)) (by rfl) T.m__law_is_number T.F__law_is_number.kp T.b__law_is_number .nil pass0 (pa_cons (pv 6) pa_nil)))))) (fun _ _ _ _ _ => (pv 6))) (pe_lst pa_nil) (nomark _)) (pss_one (ps_ret (pe_lst (pa_cons pe_str pa_nil)))) pss_nil)
      (pss_cons (ps_if (pt_cmpR op_eq (pe_ix (k_ixT (K := K)) (pv 2) pe_int (fun _ _ => rfl)) pe_str (nomark _)) (pss_one (ps_ret (pe_ifExp (pt_val (pe_call (ok__law_is_stranger T) (hr.mono (by decide)) (by rfl) T.m__law_is_stranger T.F__law_is_stranger.kp T.b__law_is_stranger .nil pass0 (pa_cons (pv 0) (pa_cons (pv 1) (pa_cons (pe_ix (k_ixT (K := K)) (pv 2) pe_int (fun _ _ => rfl)) (pa_cons (pe_ix (k_ixT (K := K)) (pv 2) pe_int (fun _ _ => rfl)) pa_nil)))))) pe_str (pe_lst (pa_cons pe_str pa_nil))))) pss_nil)
      (pss_cons (ps_if (pt_not (pt_chain op_le op_lt pe_int (pe_ix (k_ixT (K := K)) (pv 2) pe_int (fun _ _ => rfl)) (pe_call (ok__law_round T) (hr.mono (by decide)) (by rfl) T.m__law_round T.F__law_round.kp T.b__law_round .nil pass0 (pa_cons (pv 0) pa_nil)))) (pss_one (ps_ret (pe_lst (pa_cons pe_str pa_nil)))) pss_nil)
      (pss_cons (ps_setLc (i := 3) (own := [("k", 4), ("length", 5)]) rfl sc__law_due.nd rfl rfl (sw_true rfl rfl rfl (by decide +kernel)) (k_piET (K := K) (by rfl) T.z_enumerate (pa_cons (pv 0) pa_nil)) (blkOk_by (own := [("k", 4), ("length", 5)]) (N := ["lengths", "places", "paper", "wrong", "k", "length", "thing"]) (sc := defScope s__law_due) (by decide +kernel)) (fun _ _ _ _ _ => (k_pgt (K := K) (n := 2) rfl (pgs_cons (pg_name (i := 4) sc__law_due.nd rfl (Or.inl rfl)) (pgs_cons (pg_name (i := 5) sc__law_due.nd rfl (Or.inl rfl)) pgs_nil)))) (fun _ _ _ _ _ => (pts_one (pt_cmpR op_ne (pe_op op_modN (pe_callTy call_int1 (by rfl) T.z_int bt_int (pa_cons (pe_ix (k_ixT (K := K)) (pv 2) pe_int (fun _ _ => rfl)) pa_nil)) (pv 5)) (pe_ix (k_ixT (K := K)) (pv 1) (pv 4) (fun _ _ => rfl)) (nomark _)))) (fun _ _ _ _ _ => (pv 4)))
      (pss_one (ps_ret (pe_ifExp (pt_cmpR (k_eqD (K := K) hr.units) (pv 3) (pe_lst pa_nil) (nomark _)) pe_str (pe_lst (pa_cons pe_str pa_nil))))))))))), ?_⟩
  obtain ⟨ok1, ok2⟩ := id ok
  obtain ⟨pl, pb⟩ := id okp
  refine ⟨_, rfl, u, _, _, _, _, rfl, ClsV.ty _, hu.ty, kit_tup d, _, rfl, ?_⟩
  have bad : ∀ (x : String), jd ns ps d = (x, false) → ∀ H1, Same H H1 → ∀ p', H1 p' = none → Q (.ref p') (upd H1 p' (.lst [.str x])) := fun x e H1 s1 p' hp' => by
    refine k (.ref p') _ (s1.trans (same_upd hp' _)) ?_
    unfold jdD
    rw [e, if_neg Bool.false_ne_true]
    exact .lst (SqL.of upd_same) (.cons (.str _) .nil)
  have form : jd ns ps d = ("form", false) → ∀ H1, Same H H1 → 1 ≤ sizeLine ∧ ∀ p', H1 p' = none → Q (.ref p') (upd H1 p' (.lst [.str "form"])) := fun e H1 s1 => ⟨by show 1 ≤ sizeLine; decide, fun p' hp' => bad "form" e H1 s1 p' hp'⟩
  cases hu with
  | int i => exact iteT (iteT (form rfl H (Same.refl H)))
  | bl i => exact iteT (iteT (form rfl H (Same.refl H)))
  | str i => exact iteT (iteT (form rfl H (Same.refl H)))
  | non => exact iteT (iteT (form rfl H (Same.refl H)))
  | lst h => exact iteT (iteT (form rfl H (Same.refl H)))
  | dct h => exact iteT (iteT (form rfl H (Same.refl H)))
  | tup hC hX =>
    rename_i c xs ds
    refine iteF ?_
    refine ⟨_, rfl, (by show 0 ≤ sizeLine; decide), fun p0 hp0 => ?_⟩
    have s0 := same_upd hp0 (.tup [])
    refine ⟨c, p0, xs, rfl, rfl, Same.tk s0 _ _ hC, SqT.of upd_same, _, rfl, ?_⟩
    cases hX with
    | nil => exact iteT (iteT (form rfl _ s0))
    | cons x1 x2 =>
      rename_i x xs d1 ds
      refine iteF ?_
      have hC0 := Same.tk s0 _ _ hC
      refine ⟨_, rfl, c, _, _, _, rfl, rfl, hC0, at_zero, _, _, _, _, _, rfl, ClsV.ty _, (x1.at s0).ty, kit_str d1, _, rfl, ?_⟩
      have go : ∀ e, jd ns ps (.tup (d1 :: ds)) = e → True := fun _ _ => trivial
      cases x1 with
      | int i => exact iteT (form rfl _ s0)
      | bl i => exact iteT (form rfl _ s0)
      | non => exact iteT (form rfl _ s0)
      | lst h => exact iteT (form rfl _ s0)
      | dct h => exact iteT (form rfl _ s0)
      | tup h g => exact iteT (form rfl _ s0)
      | str s1 =>
        refine iteF ?_
        refine ⟨_, rfl, c, _, _, _, rfl, rfl, hC0, at_zero, _, rfl, c, _, rfl, .inr hC0, (by show 2 ≤ sizeLine; decide), fun p1 hp1 => ⟨(by show 2 ≤ sizeLine; decide), fun p2 hp2 => ⟨(by show 2 ≤ sizeLine; decide), fun p3 hp3 => ⟨(by show 2 ≤ sizeLine; decide), fun p4 hp4 => ?_⟩⟩⟩⟩
        have n1 := same_upd hp1 (.lst [.str s1, .int (((V.str s1 :: xs).length : Nat) : Int)])
        have n2 := same_upd hp2 (.lst [.str "tick", .int 2])
        have n3 := same_upd hp3 (.lst [.str "never", .int 3])
        have n4 := same_upd hp4 (.lst [.ref p2, .ref p3])
        refine ⟨.list [.str s1, .int (((V.str s1 :: xs).length : Nat) : Int)], dShapes, ?_, ?_, shp_pair _ (hs s1 ds rfl), shp_shapes, _, rfl, ?_⟩
        · exact .lst (SqL.of ((n2.trans (n3.trans n4)) _ _ upd_same)) (.cons (.str _) (.cons (.int _) .nil))
        · exact .lst (SqL.of upd_same) (.cons (.lst (SqL.of ((n3.trans n4) _ _ upd_same)) (.cons (.str _) (.cons (.int _) .nil))) (.cons (.lst (SqL.of (n4 _ _ upd_same)) (.cons (.str _) (.cons (.int _) .nil))) .nil))
        have t4 := s0.trans (n1.trans (n2.trans (n3.trans n4)))
        have hlen := x2.len
        by_cases e : (dShapes.any fun z => PyData.eqv z (.list [.str s1, .int (((V.str s1 :: xs).length : Nat) : Int)])) = true
        rotate_left
        · rw [Bool.eq_false_iff.mpr e]
          refine iteT (form (jd_form ?_ ?_) _ t4)
          · intro t z
            injection z with z
            injection z with z1 z2
            injection z1 with z1
            subst z1 z2
            exact e ((shapes_any _ _).mpr (.inl ⟨rfl, by simp at hlen ⊢; omega⟩))
          · intro i j z
            injection z with z
            injection z with z1 z2
            injection z1 with z1
            subst z1 z2
            exact e ((shapes_any _ _).mpr (.inr ⟨rfl, by simp at hlen ⊢; omega⟩))
        rw [e]
        have hsh := (shapes_any _ _).mp e
        have hds : ds.length ≤ 2 := by simp at hlen hsh; omega
        refine iteF ?_
        refine ⟨_, rfl, 1, rfl, ?_⟩
        dsimp only [tC, tNoPart]
        refine rd_cutTh (Same.tk t4 _ _ hC) (RtAll.same t4 _ _ (.cons (.str s1) x2)) fun w5 H5 s5 hw5 => ?_
        obtain ⟨c5, ys, rfl, hC5, hX5⟩ := hw5.tuple
        have hX5 : RtAll K H5 ys ds := hX5
        have hly := hX5.len
        refine ⟨c5, rfl, ⟨_, hC5⟩, fun D hD => ?_⟩
        refine lc_it walk_tup (fun i H' => ∃ zs : List V, H' D = some (.lst zs) ∧ (zs = [] ↔ ∀ (j : Nat) (y : Th), j < i → ds[j]? = some y → isInt y = true) ∧ zs.length ≤ i ∧ Same H5 H') ⟨[], upd_same, ⟨fun _ j y hj => absurd hj (Nat.not_lt_zero j), fun _ => rfl⟩, Nat.le_refl 0, same_upd hD _⟩ (fun i H' _ ⟨_, _, _, _, p⟩ => Same.tk p _ _ hC5) ?_ ?_
        · rintro i x H6 H7 hi ⟨zs, hA, hz, hzl, s6⟩ ⟨rfl, hx⟩
          obtain ⟨y, hy, hY⟩ := hX5.get hx
          have hY6 := hY.at s6
          have hlt := (List.getElem?_eq_some_iff.mp hy).1
          refine ⟨rfl, ?_⟩
          refine ⟨_, rfl, x, _, _, _, rfl, hY6.ty, kit_int y, kit_bool y, ?_⟩
          refine ⟨_, rfl, ?_⟩
          rw [whole_th]
          cases ei : isInt y with
          | true =>
            refine iteF ⟨zs, hA, hz.trans ?_, by omega, s6⟩
            constructor
            · intro z j y' hj hy'
              by_cases e' : j = i
              · subst e'
                rw [hy] at hy'
                cases hy'
                exact ei
              · exact z j y' (by omega) hy'
            · exact fun z j y' hj hy' => z j y' (by omega) hy'
          | false =>
            refine iteT ⟨_, rfl, zs, hA, small1000 (by omega), zs ++ [x], upd_same, ⟨fun z => absurd z (by simp), fun z => ?_⟩, by simp; omega, fun b' o q => ?_⟩
            · rw [z i y (by omega) hy] at ei
              cases ei
            · rw [upd_ne (ne_of_none q hD)]
              exact s6 _ _ q
        · rintro H6 ⟨zs, hA, hz, hzl, s6⟩
          refine ⟨(by show 0 ≤ sizeLine; decide), fun p6 hp6 => ?_⟩
          have s6' := s6.trans (same_upd hp6 (.lst []))
          refine ⟨D, p6, zs, rfl, rfl, SqL.of ((same_upd hp6 _) _ _ hA), SqL.of upd_same, ?_⟩
          refine ⟨_, rfl, ?_⟩
          have t6 := t4.trans (s5.trans s6')
          cases zs with
          | cons z0 zs =>
            refine iteT (form (jd_form ?_ ?_) _ t6)
            · intro t z
              injection z with z
              injection z with z1 z2
              subst z2
              refine absurd (hz.mpr fun j y hj hy => ?_) (by simp)
              cases j with
              | zero => cases hy; rfl
              | succ j => simp at hy
            · intro i j z
              injection z with z
              injection z with z1 z2
              subst z2
              refine absurd (hz.mpr fun j y hj hy => ?_) (by simp)
              match j, hy with
              | 0, hy => cases hy; rfl
              | 1, hy => cases hy; rfl
              | j + 2, hy => simp at hy
          | nil =>
            refine iteF ?_
            obtain ⟨is, rfl⟩ := two_ints (ds := ds) fun j y hj hy => hz.mp rfl j y (by omega) hy
            rw [List.length_map] at hlen
            have hC6 := Same.tk t6 _ _ hC
            refine ⟨_, rfl, c, _, _, _, rfl, rfl, hC6, at_zero, rfl, _, rfl, ?_⟩
            have hv6 := hv.same_at t6
            have hw6 := hw.same_at t6
            obtain ⟨a, rfl, hT6⟩ := hv6.ints
            obtain ⟨b, rfl, hU6⟩ := hw6.ints
            rcases hsh with ⟨rfl, hn⟩ | ⟨rfl, hn⟩
            · have hl2 : is.length = 1 := by rw [List.length_cons] at hn; omega
              match is, hl2 with
              | [t], hl2 =>
                cases x2 with
                | cons x2 x3 =>
                cases x2
                cases x3
                refine iteF ?_
                have no : ¬ tickOk ns ps t → ∀ H1, Same H H1 → 1 ≤ sizeLine ∧ ∀ p', H1 p' = none → Q (.ref p') (upd H1 p' (.lst [.str "tick"])) := fun z H1 s1 =>
                  ⟨by show 1 ≤ sizeLine; decide, fun p' hp' => bad "tick" (jd_tick ns ps t ⟨fun q => Bool.noConfusion q, fun q => absurd q z⟩) H1 s1 p' hp'⟩
                refine ⟨_, rfl, c, _, _, _, rfl, rfl, hC6, at_of (j := 1) rfl rfl, _, _, rfl, rfl, _, rfl, ?_⟩
                by_cases t0 : 0 ≤ t
                rotate_left
                · refine iteN t0 ?_
                  exact ⟨_, rfl, iteT (no (fun z => t0 z.1) _ t6)⟩
                refine iteP t0 ⟨_, rfl, .ref a, ns, rfl, hv6, fun n hn => (ok2 n hn).1, okm_lcm ok, _, _, rfl, rfl, _, rfl, ?_⟩
                show (if (!decide (t < ((lcmN ns : Nat) : Int))) = true then _ else _)
                by_cases t1 : t < ((lcmN ns : Nat) : Int)
                rotate_left
                · rw [decide_eq_false t1]
                  exact iteT (no (fun z => t1 z.2.1) _ t6)
                rw [decide_eq_true t1]
                refine iteF ?_
                refine ⟨_, rfl, a, _, rfl, hT6, fun D2 hD2 => ?_⟩
                refine lc_it walk_enumT (fun j H' => ∃ acc : List Int, H' D2 = some (.lst (acc.map V.int)) ∧ acc.length ≤ j ∧ Same (upd H6 p6 (.lst [])) H' ∧ (acc = [] ↔ ps.take j = plc (ns.take j) t))
                  ⟨[], upd_same, Nat.le_refl _, same_upd hD2 _, ⟨fun _ => rfl, fun _ => rfl⟩⟩ (fun j H' _ ⟨_, _, _, s, _⟩ => Same.tk s _ _ hT6) ?_ ?_
                · rintro j x G1 G2 hj ⟨acc, hA2, hal, g1, hacc⟩ ⟨t', y', z', rfl, ht', rfl, hy', hz'⟩
                  cases hy'
                  obtain ⟨cn, hc, rfl⟩ := map_int_get hz'
                  obtain ⟨n, hn, rfl⟩ := nn_get hc
                  have n1 := (ok2 n (List.mem_of_getElem? hn)).1
                  rw [List.length_map, nn_len] at hj
                  have hp : ps[j]? = some (ps[j]'(by omega)) := List.getElem?_eq_getElem (by omega)
                  have g2 := same_step g1 ht' (.tup [.int (j : Nat), .int (n : Nat)])
                  have hA3 := (same_upd ht' (.tup [.int (j : Nat), .int (n : Nat)])) _ _ hA2
                  refine ⟨t', _, rfl, SqT.of upd_same, rfl, _, _, rfl, _, _, rfl, rfl, rfl, ?_⟩
                  refine ⟨_, rfl, c, _, _, _, rfl, rfl, Same.tk g2 _ _ hC6, at_of (j := 1) rfl rfl, .inl ⟨_, rfl, _, rfl, _, _, rfl, rfl, by omega, _, rfl, _, rfl, b, _, _, _, rfl, rfl, Same.tk g2 _ _ hU6, int_at hp, rfl, _, rfl, ?_⟩⟩
                  have e1 : t.fmod (n : Int) = t % (n : Int) := Int.fmod_eq_emod_of_nonneg _ (by omega)
                  rw [show decide ((fun i j => V.int (i.fmod j)) t (n : Int) = V.int ps[j]) = decide (V.int (t.fmod (n : Int)) = V.int ps[j]) from rfl]
                  have key : ps.take (j + 1) = plc (ns.take (j + 1)) t ↔ (ps.take j = plc (ns.take j) t ∧ decide (V.int (t.fmod (n : Int)) = V.int ps[j]) = true) := by
                    rw [take_more hp, take_more hn, plc_snoc, snoc_iff e1]
                  cases eb : decide (V.int (t.fmod (n : Int)) = V.int ps[j]) with
                  | true =>
                    refine iteF ⟨acc, hA3, by omega, g2, ?_⟩
                    rw [key, eb, hacc]
                    exact ⟨fun z => ⟨z, rfl⟩, fun z => z.1⟩
                  | false =>
                    refine iteT ⟨_, rfl, _, hA3, by rw [List.length_map]; exact small1000 (by omega), acc ++ [((j : Nat) : Int)], ?_, ?_, ?_, ?_⟩
                    · rw [upd_same, List.map_append]
                      all_goals rfl
                    · rw [List.length_append, List.length_singleton]
                      omega
                    · exact fun b' o q => by
                        rw [upd_ne (ne_of_none q hD2)]
                        exact g2 _ _ q
                    · rw [key, eb]
                      exact ⟨fun z => absurd z (by simp), fun z => absurd z.2 (by decide)⟩
                · rintro G1 ⟨acc, hA2, hal, g1, hacc⟩
                  rw [List.length_map, nn_len, List.take_length, ← pl, List.take_length] at hacc
                  have g7 := t6.trans g1
                  refine ⟨_, rfl, rd_eq_nil hA2 fun p7 hp7 => ⟨_, rfl, ?_⟩⟩
                  have g8 := g7.trans (same_upd hp7 (.lst []))
                  cases acc with
                  | nil =>
                    refine iteT (k _ _ g8 ?_)
                    unfold jdD
                    rw [show jd ns ps (.tup (.str "tick" :: List.map Th.int [t])) = _ from jd_tick ns ps t (b := true) ⟨fun _ => ⟨t0, t1, hacc.mp rfl⟩, fun _ => rfl⟩, if_pos rfl]
                    exact .str _
                  | cons z r => exact iteF (no (fun z => absurd (hacc.mpr z.2.2) (by simp)) _ g8)
              | [], hl2 => exact absurd hl2 (by simp)
              | _ :: _ :: _, hl2 => exact absurd hl2 (by simp)
            · have hl2 : is.length = 2 := by rw [List.length_cons] at hn; omega
              match is, hl2 with
              | [i, j], hl2 =>
                cases x2 with
                | cons x2 x3 =>
                cases x2
                cases x3 with
                | cons x3 x4 =>
                cases x3
                cases x4
                refine iteT ?_
                refine ⟨_, rfl, _, rfl, _, rfl, c, _, _, _, rfl, rfl, hC6, at_of (j := 1) rfl rfl, _, rfl, c, _, _, _, rfl, rfl, hC6, at_of (j := 2) rfl rfl, .ref a, .ref b, ns, ps, i, j, rfl, hv6, hw6, ok, okp, fun b hb => ⟨_, rfl, ?_⟩⟩
                cases b with
                | true =>
                  refine iteT (k _ _ t6 ?_)
                  unfold jdD
                  rw [show jd ns ps (.tup (.str "never" :: List.map Th.int [i, j])) = _ from jd_never ns ps i j hb, if_pos rfl]
                  exact .str _
                | false => exact iteF ⟨by show 1 ≤ sizeLine; decide, fun p' hp' => bad "never" (jd_never ns ps i j hb) _ t6 p' hp'⟩
              | [], hl2 => exact absurd hl2 (by simp)
              | [_], hl2 => exact absurd hl2 (by simp)
              | _ :: _ :: _ :: _, hl2 => exact absurd hl2 (by simp)
end
section
variable {P : Program} {w : World} {K : PySem.W.Frag} {mg : Str → Option Value} {base : Heap}
theorem okX_check_meeting (T : Top K mg) : FnOk P w K mg base (L2.CX P w) 4 T.a_check_meeting T.d_check_meeting ["lengths", "places", "paper"] (sp_check_meetingX K T.x_BadPaper.C) := by
  refine T.F_check_meeting.okX sc_check_meeting (fun vs H Q E h => ?_) (fun cdv A outer s H vs Q E hr h => ?_)
  · obtain ⟨v, w, u, ns, ps, d, rfl, hv, hw, hu, ok, okp, k1, k2⟩ := h
    rfl
  obtain ⟨v, w, u, ns, ps, d, rfl, hv, hw, hu, ok, okp, k1, k2⟩ := h
  refine ⟨_, (pss_cons (ps_expr (pe_call (ok_need_lengths T) (hr.mono (by decide)) (by rfl) T.m_need_lengths T.F_need_lengths.kp T.b_need_lengths .nil pass0 (pa_cons (pv 0) pa_nil)))
      (pss_cons (ps_expr (pe_call (ok_need_places T) (hr.mono (by decide)) (by rfl) T.m_need_places T.F_need_places.kp T.b_need_places .nil pass0 (pa_cons (pv 0) (pa_cons (pv 1) pa_nil))))
      (pss_cons (ps_if (PW.pt (pw_and (pt_val (pe_call (ok_begins T) (hr.mono (by decide)) (by rfl) T.m_begins T.F_begins.kp T.b_begins .nil pass0 (pa_cons (pv 2) (pa_cons pe_str (pa_cons pe_int pa_nil))))) (pw_and1 (pt_val (pe_call (ok_are_samples T) (hr.mono (by decide)) (by rfl) T.m_are_samples T.F_are_samples.kp T.b_are_samples .nil pass0 (pa_cons (pe_slice (k_slT (K := K)) (pv 2) (po_some pe_int) po_none) (pa_cons pe_int pa_nil))))))) (pss_cons (ps_if (pt_not (pt_val (pe_call (ok_is_first_meeting T) (hr.mono (by decide)) (by rfl) T.m_is_first_meeting T.F_is_first_meeting.kp T.b_is_first_meeting .nil pass0 (pa_cons (pv 0) (pa_cons (pv 1) (pa_cons (pe_ix (k_ixT (K := K)) (pv 2) pe_int (fun _ _ => rfl)) pa_nil)))))) (pss_one (ps_raise rfl (takes_of rfl rfl rfl rfl) (pmk_oex T.x_BadPaper.ox T.x_BadPaper.iC T.x_BadPaper.tI (ok_BadPaper_init T) (hr.mono (by decide)) T.x_BadPaper.b .nil pass0 (by rfl) T.x_BadPaper.m (pa_cons pe_str pa_nil)))) pss_nil)
      (pss_one (ps_ret pe_str))) pss_nil)
      (pss_cons (ps_if (PW.pt (pw_and (pt_val (pe_call (ok_begins T) (hr.mono (by decide)) (by rfl) T.m_begins T.F_begins.kp T.b_begins .nil pass0 (pa_cons (pv 2) (pa_cons pe_str (pa_cons pe_int pa_nil))))) (pw_and1 (pt_val (pe_call (ok_are_samples T) (hr.mono (by decide)) (by rfl) T.m_are_samples T.F_are_samples.kp T.b_are_samples .nil pass0 (pa_cons (pe_slice (k_slT (K := K)) (pv 2) (po_some pe_int) po_none) (pa_cons pe_int pa_nil))))))) (pss_cons (ps_asg (pe_slice (k_slT (K := K)) (pv 2) (po_some pe_int) po_none) (pg_tup rfl (pgs_cons (pg_name (i := 3) sc_check_meeting.nd rfl (Or.inl rfl)) (pgs_cons (pg_name (i := 4) sc_check_meeting.nd rfl (Or.inl rfl)) pgs_nil))))
      (pss_cons (ps_if (PW.pt (pw_or (pt_not (pt_chain3 op_le op_lt op_lt pe_int (pv 3) (pv 4) (pe_callB (k_len (K := K)) (by rfl) T.z_len bt_len (pa_cons (pv 0) pa_nil)))) (pw_or1 (pt_not (pt_val (pe_call (ok_never_meet T) (hr.mono (by decide)) (by rfl) T.m_never_meet T.F_never_meet.kp T.b_never_meet .nil pass0 (pa_cons (pv 0) (pa_cons (pv 1) (pa_cons (pv 3) (pa_cons (pv 4) pa_nil)))))))))) (pss_one (ps_raise rfl (takes_of rfl rfl rfl rfl) (pmk_oex T.x_BadPaper.ox T.x_BadPaper.iC T.x_BadPaper.tI (ok_BadPaper_init T) (hr.mono (by decide)) T.x_BadPaper.b .nil pass0 (by rfl) T.x_BadPaper.m (pa_cons pe_str pa_nil)))) pss_nil)
      (pss_one (ps_ret pe_str)))) pss_nil)
      (pss_one (ps_raise rfl (takes_of rfl rfl rfl rfl) (pmk_oex T.x_BadPaper.ox T.x_BadPaper.iC T.x_BadPaper.tI (ok_BadPaper_init T) (hr.mono (by decide)) T.x_BadPaper.b .nil pass0 (by rfl) T.x_BadPaper.m (pa_cons pe_str pa_nil)))))))), ?_⟩
  obtain ⟨ok1, ok2⟩ := id ok
  obtain ⟨pl, pb⟩ := id okp
  refine ⟨_, rfl, v, NN ns, rfl, hv, okm_n ok, fun H1 s1 => ?_⟩
  refine ⟨_, rfl, _, rfl, v, w, ns, ps, rfl, hv.same_at s1, hw.same_at s1, ok, okp, fun H2 s2 => ?_⟩
  have t2 := s1.trans s2
  have hv2 := hv.same_at t2
  have hw2 := hw.same_at t2
  have hu2 := hu.at t2
  obtain ⟨a, rfl, hT⟩ := hv2.ints
  refine ⟨_, rfl, u, "tick", 2, d, rfl, hu2, by decide, _, rfl, ?_⟩
  have boom : ∀ (x : String), jd ns ps d = (x, false) → ∀ dd H', Same H2 H' → H' dd = some (.xd [("part", .str x)]) → E (.ref T.x_BadPaper.C) (some dd) H' := fun x e dd H' s' hd' =>
    k2 (by rw [e]) dd _ H' (t2.trans s') hd' (by rw [e]; exact .str _)
  by_cases e1 : bgs "tick" 2 d = true
  · rw [e1]
    refine iteT ?_
    obtain ⟨ds, rfl, hl⟩ := bgs_of e1
    obtain ⟨c, xs, rfl, hC, hX⟩ := hu2.tuple
    refine ⟨_, rfl, 1, rfl, ?_⟩
    dsimp only [tC, tNoPart, gName]
    refine rd_cutTh hC hX fun w3 H3 s3 hw3 => ?_
    refine ⟨w3, 1, .tup ds, rfl, hw3, by decide, fun H4 s4 => ⟨_, rfl, ?_⟩⟩
    have t4 := s3.trans s4
    by_cases e2 : smpT 1 (.tup ds) = true
    · rw [e2]
      refine iteT ?_
      obtain ⟨t, rfl⟩ := smp_one e2
      have hC4 := Same.tk t4 _ _ hC
      cases hX with
      | cons x1 x2 =>
      cases x2 with
      | cons x2 x3 =>
      cases x2
      rename_i x0
      refine ⟨_, rfl, _, rfl, _, rfl, c, _, _, _, rfl, rfl, hC4, at_of (j := 1) rfl rfl, .ref a, w, ns, ps, t, rfl, hv2.same_at t4, hw2.same_at t4, ok, okp, fun b H5 hb s5 => ⟨_, rfl, ?_⟩⟩
      have ej := jd_tick ns ps t hb
      cases b with
      | true =>
        refine iteF ?_
        have q := k1 (by rw [ej]) H5 (t2.trans (t4.trans s5))
        rw [ej] at q
        exact q
      | false => exact iteT ⟨(by show 1 ≤ 1000; decide), exc_made fun dd H' s' hd' => boom "tick" ej dd H' (t4.trans (s5.trans s')) hd'⟩
    · rw [Bool.eq_false_iff.mpr e2]
      refine iteF ?_
      refine ⟨_, rfl, .ref c, "never", 3, .tup (.str "tick" :: ds), rfl, hu2.at t4, by decide, _, rfl, ?_⟩
      have e3 : bgs "never" 3 (.tup (.str "tick" :: ds)) = false := by
        show (decide (((ds.length + 1 : Nat) : Int) = 3) && false) = false
        exact Bool.and_false _
      rw [e3]
      refine iteF ?_
      refine ⟨(by show 1 ≤ 1000; decide), exc_made fun dd H' s' hd' => boom "form" (jd_form ?_ ?_) dd H' (t4.trans s') hd'⟩
      · intro t z
        injection z with z
        injection z with _ z
        subst z
        exact e2 rfl
      · intro i j z
        injection z with z
        injection z with z _
        injection z with z
        exact absurd z (by decide)
  · rw [Bool.eq_false_iff.mpr e1]
    refine iteF ?_
    have no1 : ∀ t, d ≠ .tup [.str "tick", .int t] := fun t z => e1 (by rw [z]; rfl)
    refine ⟨_, rfl, u, "never", 3, d, rfl, hu2, by decide, _, rfl, ?_⟩
    by_cases e3 : bgs "never" 3 d = true
    · rw [e3]
      refine iteT ?_
      obtain ⟨ds, rfl, hl⟩ := bgs_of e3
      obtain ⟨c, xs, rfl, hC, hX⟩ := hu2.tuple
      refine ⟨_, rfl, 1, rfl, ?_⟩
      dsimp only [tC, tNoPart, gName]
      refine rd_cutTh hC hX fun w3 H3 s3 hw3 => ?_
      refine ⟨w3, 2, .tup ds, rfl, hw3, by decide, fun H4 s4 => ⟨_, rfl, ?_⟩⟩
      have t4 := s3.trans s4
      by_cases e4 : smpT 2 (.tup ds) = true
      · rw [e4]
        refine iteT ?_
        obtain ⟨i, j, rfl⟩ := smp_two e4
        refine ⟨_, rfl, 1, rfl, ?_⟩
        dsimp only [tC, tNoPart, gName]
        refine rd_cutTh (Same.tk t4 _ _ hC) (RtAll.same t4 _ _ hX) fun w5 H5 s5 hw5 => ?_
        obtain ⟨c5, ys, rfl, hC5, hX5⟩ := hw5.tuple
        cases hX5 with
        | cons x1 x2 =>
        cases x1
        cases x2 with
        | cons x2 x3 =>
        cases x2
        cases x3
        have t5 := t4.trans s5
        have hT5 := Same.tk t5 _ _ hT
        refine ⟨c5, _, rfl, hC5, rfl, _, _, rfl, _, _, rfl, rfl, ?_⟩
        have bad : ¬ nevOk ns ps i j → ∀ dd H', Same H5 H' → H' dd = some (.xd [("part", .str "never")]) → E (.ref T.x_BadPaper.C) (some dd) H' := fun z dd H' s' hd' =>
          boom "never" (jd_never ns ps i j ⟨fun q => Bool.noConfusion q, fun q => absurd q z⟩) dd H' (t5.trans s') hd'
        refine ⟨_, rfl, _, _, rfl, rfl, _, rfl, ?_⟩
        by_cases i0 : 0 ≤ i
        rotate_left
        · refine iteN i0 ⟨_, rfl, iteT (iteT ⟨(by show 1 ≤ 1000; decide), exc_made fun dd H' s' hd' => bad (fun z => i0 z.1) dd H' s' hd'⟩)⟩
        refine iteP i0 ⟨_, rfl, _, _, rfl, rfl, _, rfl, ?_⟩
        by_cases ij : i < j
        rotate_left
        · refine iteN ij ⟨_, rfl, iteT (iteT ⟨(by show 1 ≤ 1000; decide), exc_made fun dd H' s' hd' => bad (fun z => ij z.2.1) dd H' s' hd'⟩)⟩
        refine iteP ij ⟨_, rfl, a, _, rfl, .inr hT5, _, _, rfl, rfl, _, rfl, ?_⟩
        have el : (((NN ns).map V.int).length : Int) = (ns.length : Int) := by rw [List.length_map, nn_len]
        rw [el]
        by_cases jl : j < (ns.length : Int)
        rotate_left
        · rw [decide_eq_false jl]
          exact iteT (iteT ⟨(by show 1 ≤ 1000; decide), exc_made fun dd H' s' hd' => bad (fun z => jl z.2.2.1) dd H' s' hd'⟩)
        rw [decide_eq_true jl]
        refine iteF ?_
        obtain ⟨i', rfl⟩ := Int.eq_ofNat_of_zero_le i0
        obtain ⟨j', rfl⟩ := Int.eq_ofNat_of_zero_le (show 0 ≤ j by omega)
        refine ⟨_, rfl, _, rfl, _, rfl, _, rfl, .ref a, w, ns, ps, i', j', rfl, hv2.same_at t5, hw2.same_at t5, ok, okp, by omega, by omega, fun b hb => ⟨_, rfl, ?_⟩⟩
        have ej := jd_never ns ps i' j' (b := b) (hb.trans ⟨fun z => ⟨i0, ij, jl, z⟩, fun z => z.2.2.2⟩)
        cases b with
        | true =>
          refine iteF ?_
          have q := k1 (by rw [ej]) H5 (t2.trans t5)
          rw [ej] at q
          exact q
        | false => exact iteT ⟨(by show 1 ≤ 1000; decide), exc_made fun dd H' s' hd' => boom "never" ej dd H' (t5.trans s') hd'⟩
      · rw [Bool.eq_false_iff.mpr e4]
        refine iteF ?_
        refine ⟨(by show 1 ≤ 1000; decide), exc_made fun dd H' s' hd' => boom "form" (jd_form no1 ?_) dd H' (t4.trans s') hd'⟩
        intro i j z
        injection z with z
        injection z with _ z
        subst z
        exact e4 rfl
    · rw [Bool.eq_false_iff.mpr e3]
      refine iteF ?_
      exact ⟨(by show 1 ≤ 1000; decide), exc_made fun dd H' s' hd' => boom "form" (jd_form no1 fun i j z => e3 (by rw [z]; rfl)) dd H' s' hd'⟩
end
section
variable {P : Program} {w : World} {K : PySem.W.Frag} {mg : Str → Option Value} {base : Heap}
theorem ok__law_outcome (T : Top K mg) : FnOk P w K mg base CX0 5 T.a__law_outcome T.d__law_outcome ["lengths", "places", "paper"] (sp__law_outcome K) := by
  refine T.F__law_outcome.ok sc__law_outcome (fun vs H Q E h => ?_) (fun cdv A outer s H vs Q E hr h => ?_)
  · obtain ⟨v, w, u, ns, ps, d, rfl, hv, hw, hu, ok, okp, k⟩ := h
    rfl
  obtain ⟨v, w, u, ns, ps, d, rfl, hv, hw, hu, ok, okp, k⟩ := h
  refine ⟨_, (pss_cons (ps_set (i := 3) sc__law_outcome.nd rfl (Or.inl rfl) pe_str)
      (pss_cons (ps_try_as (i := 4) (tb := (fun W => tAsg (tCallS (sp_check_meetingX K T.x_BadPaper.C) (WE W) (tCons (tVar 0) (tCons (tVar 1) (tCons (tVar 2) tNil)))) (gName 3))) (ts := (fun a cls d => tAsg (tLst (tCons (tXf a cls d T.x_BadPaper.C "part" (tVar 4)) tNil)) (gName 3))) (Wout := fun _ _ _ _ => False) rfl rfl sc__law_outcome.nd rfl rfl ⟨rfl, by decide, Or.inl T.x_BadPaper.m⟩ takes0 (fun W pn xe tk _ => pss_one (ps_set (i := 3) sc__law_outcome.nd rfl (Or.inl rfl) (by exact (pe_callS (okX_check_meeting T) (hr.mono (by decide)) (by rfl) T.m_check_meeting T.F_check_meeting.kp T.b_check_meeting (fun σ => passAt tk σ) (by exact (pa_cons (pv 0) (pa_cons (pv 1) (pa_cons (pv 2) pa_nil)))))))) (fun a oe cls d pn hz hf => pss_one (ps_set (i := 3) sc__law_outcome.nd rfl (Or.inl rfl) (by exact (pe_lst (pa_cons (pe_xf T.x_BadPaper.xf T.x_BadPaper.nf hz hf (pv 4)) pa_nil))))))
      (pss_one (ps_ret (pv 3))))), ?_⟩
  refine ⟨_, rfl, _, rfl, _, rfl, v, w, u, ns, ps, d, rfl, hv, hw, hu, ok, okp, fun e0 H1 s1 => ?_, fun e1 dd w' H1 s1 hd hw' => ?_⟩
  · refine ⟨_, rfl, k _ H1 s1 ?_⟩
    unfold jdD
    rw [if_pos e0]
    exact .str _
  · refine ⟨true, T.x_BadPaper.te, fun _ a ha => ?_, fun q => Bool.noConfusion q⟩
    refine ⟨_, rfl, rfl, rfl, dd, [("part", w')], w', rfl, hd, by simp [List.lookup], (by show 1 ≤ sizeLine; decide), fun p' hp' => ?_⟩
    have s2 := same_upd hp' (.lst [w'])
    refine ⟨_, rfl, k (.ref p') _ (s1.trans s2) ?_⟩
    unfold jdD
    rw [if_neg (by rw [e1]; decide)]
    exact .lst (SqL.of upd_same) (.cons (hw'.same_at s2) .nil)
end
end My

namespace My
open PySem PySem.Spec PyProof.Rows L2
section
variable {P : Program} {w : World} {K : PySem.W.Frag} {mg : Str → Option Value} {base : Heap}
theorem ok_law (T : Top K mg) : FnG P w K mg base 6 T.a_law T.d_law ["script"] (sp_law K) := by
  refine T.F_law.okG sc_law (fun vs H Q E h => ?_) (fun cdv A outer s H vs Q E hr hG h => ?_)
  · obtain ⟨a, ns, rfl, hS, hl, q⟩ := h
    rfl
  obtain ⟨a, ns, rfl, hS, hl, q⟩ := h
  refine ⟨_, (pss_cons (ps_set (i := 1) sc_law.nd rfl (Or.inr rfl) (pe_call (ok__law_begun T) (hr.mono (by decide)) (by rfl) T.m__law_begun T.F__law_begun.kp T.b__law_begun .nil pass0 (pa_cons (pv 0) pa_nil)))
      (pss_cons (ps_for PassesOwn.never rfl (pi_range1 (by rfl) T.z_range (pa_cons (pe_op op_add pe_int (pe_callB (call_min2 rfl) (by rfl) T.z_min bt_min (pa_cons (pe_callB (k_len (K := K)) (by rfl) T.z_len bt_len (pa_cons (pv 0) pa_nil)) (pa_cons pe_int pa_nil)))) pa_nil)) (pg_name (i := 2) sc_law.nd rfl (Or.inl rfl)) (pss_cons (ps_set (i := 3) sc_law.nd rfl (Or.inl rfl) (pe_call (ok__law_lengths T) (hr.mono (by decide)) (by rfl) T.m__law_lengths T.F__law_lengths.kp T.b__law_lengths .nil pass0 (pa_cons (pv 1) (pa_cons pe_int (pa_cons (pe_ix (k_ixL (K := K)) (pe_lst (pa_cons pe_int (pa_cons pe_int pa_nil))) (pe_call (ok__law_next T) (hr.mono (by decide)) (by rfl) T.m__law_next T.F__law_next.kp T.b__law_next .nil pass0 (pa_cons (pv 1) (pa_cons pe_int pa_nil))) (fun _ _ => rfl)) pa_nil)))))
      (pss_cons (ps_set (i := 4) sc_law.nd rfl (Or.inl rfl) (pe_call (ok__law_round T) (hr.mono (by decide)) (by rfl) T.m__law_round T.F__law_round.kp T.b__law_round .nil pass0 (pa_cons (pv 3) pa_nil)))
      (pss_cons (ps_set (i := 5) sc_law.nd rfl (Or.inr rfl) (pe_call (ok__law_next T) (hr.mono (by decide)) (by rfl) T.m__law_next T.F__law_next.kp T.b__law_next .nil pass0 (pa_cons (pv 1) (pa_cons (pv 4) pa_nil))))
      (pss_cons (ps_set (i := 6) sc_law.nd rfl (Or.inl rfl) (pe_callTy (k_tuple (K := K)) (by rfl) T.z_tuple bt_tuple (pa_cons (pe_lc (own := [("length", 10)]) rfl sc_law.nd (k_piT (K := K) (pv 3)) (blkOk_by (own := [("length", 10)]) (N := ["script", "m", "turn", "lengths", "size", "tick", "places", "some", "one", "paper", "length", "other"]) (sc := defScope s_law) (by decide +kernel)) (fun _ _ _ _ _ => (pg_name (i := 10) sc_law.nd rfl (Or.inl rfl))) (fun _ _ _ _ _ => pts_nil) (fun _ _ _ _ _ => (pe_op op_modN (pe_callTy call_int1 (by rfl) T.z_int bt_int (pa_cons (pv 5) pa_nil)) (pv 10)))) pa_nil)))
      (Evl.pss_cut (ps_if (pt_cmpR op_eq (pe_call (ok__law_next T) (hr.mono (by decide)) (by rfl) T.m__law_next T.F__law_next.kp T.b__law_next .nil pass0 (pa_cons (pv 1) (pa_cons pe_int pa_nil))) pe_int (nomark _)) (pss_one (ps_set (i := 6) sc_law.nd rfl (Or.inl rfl) (pe_callTy (k_tuple (K := K)) (by rfl) T.z_tuple bt_tuple (pa_cons (pe_lc (own := [("length", 10)]) rfl sc_law.nd (k_piT (K := K) (pv 3)) (blkOk_by (own := [("length", 10)]) (N := ["script", "m", "turn", "lengths", "size", "tick", "places", "some", "one", "paper", "length", "other"]) (sc := defScope s_law) (by decide +kernel)) (fun _ _ _ _ _ => (pg_name (i := 10) sc_law.nd rfl (Or.inl rfl))) (fun _ _ _ _ _ => pts_nil) (fun _ _ _ _ _ => (pe_call (ok__law_next T) (hr.mono (by decide)) (by rfl) T.m__law_next T.F__law_next.kp T.b__law_next .nil pass0 (pa_cons (pv 1) (pa_cons (pv 10) pa_nil))))) pa_nil)))) pss_nil)
      (pss_cons (ps_set (i := 7) sc_law.nd rfl (Or.inl rfl) (pe_lst (pa_cons (pe_tup (pa_cons pe_str (pa_cons (pv 5) pa_nil))) (pa_cons (pe_tup (pa_cons pe_str (pa_cons (pe_op op_add (pv 5) (pv 4)) pa_nil))) (pa_cons (pe_tup (pa_cons pe_str (pa_cons (pe_op op_sub (pv 5) (pv 4)) pa_nil))) (pa_cons (pe_tup (pa_cons pe_str (pa_cons pe_int pa_nil))) pa_nil))))))
      (pss_cons (ps_expr (pe_bm PySem.F.plainAttrs_list PySem.F.slot_list_append PySem.F.type_list_append mt_append (pv 7) (pa_cons (pe_tup (pa_cons pe_str (pa_cons (pe_call (ok__law_next T) (hr.mono (by decide)) (by rfl) T.m__law_next T.F__law_next.kp T.b__law_next .nil pass0 (pa_cons (pv 1) (pa_cons (pv 4) pa_nil))) pa_nil))) pa_nil)))
      (pss_cons (ps_for PassesOwn.never rfl (pi_range2 (by rfl) T.z_range (pa_cons (pe_un un_neg pe_int) (pa_cons (pe_op op_add (pe_callB (k_len (K := K)) (by rfl) T.z_len bt_len (pa_cons (pv 3) pa_nil)) pe_int) pa_nil))) (pg_name (i := 8) sc_law.nd rfl (Or.inr rfl)) (pss_one (ps_set (i := 7) sc_law.nd rfl (Or.inl rfl) (pe_op op_cat (pv 7) (pe_lc (own := [("other", 11)]) rfl sc_law.nd (pi_range2 (by rfl) T.z_range (pa_cons (pe_un un_neg pe_int) (pa_cons (pe_op op_add (pe_callB (k_len (K := K)) (by rfl) T.z_len bt_len (pa_cons (pv 3) pa_nil)) pe_int) pa_nil))) (blkOk_by (own := [("other", 11)]) (N := ["script", "m", "turn", "lengths", "size", "tick", "places", "some", "one", "paper", "length", "other"]) (sc := defScope s_law) (by decide +kernel)) (fun _ _ _ _ _ => (pg_name (i := 11) sc_law.nd rfl (Or.inl rfl))) (fun _ _ _ _ _ => pts_nil) (fun _ _ _ _ _ => (pe_tup (pa_cons pe_str (pa_cons (pv 8) (pa_cons (pv 11) pa_nil))))))))))
      (pss_cons (ps_set (i := 7) sc_law.nd rfl (Or.inl rfl) (pe_op op_cat (pv 7) (pe_lst (pa_cons (pe_tup (pa_cons pe_str pa_nil)) (pa_cons (pe_tup (pa_cons pe_str (pa_cons (pv 5) (pa_cons pe_int pa_nil)))) (pa_cons (pe_tup (pa_cons pe_str (pa_cons pe_int pa_nil))) (pa_cons (pe_tup (pa_cons pe_str (pa_cons pe_int (pa_cons pe_int (pa_cons pe_int pa_nil))))) (pa_cons (pe_lst (pa_cons pe_str (pa_cons (pv 5) pa_nil))) (pa_cons pe_non (pa_cons (pe_tup pa_nil) pa_nil))))))))))
      (pss_cons (ps_set (i := 7) sc_law.nd rfl (Or.inl rfl) (pe_op op_cat (pv 7) (pe_lst (pa_cons (pe_tup (pa_cons pe_str (pa_cons pe_non pa_nil))) (pa_cons (pe_tup (pa_cons pe_str (pa_cons pe_bl pa_nil))) (pa_cons (pe_tup (pa_cons pe_str (pa_cons pe_str pa_nil))) (pa_cons (pe_tup (pa_cons pe_str (pa_cons pe_int (pa_cons pe_non pa_nil)))) (pa_cons (pe_tup (pa_cons pe_str (pa_cons pe_bl (pa_cons pe_bl pa_nil)))) pa_nil))))))))
      (pss_cons (ps_set (i := 7) sc_law.nd rfl (Or.inl rfl) (pe_op op_cat (pv 7) (pe_lst (pa_cons (pe_tup (pa_cons pe_str (pa_cons (pv 5) pa_nil))) (pa_cons (pe_tup (pa_cons pe_non (pa_cons (pv 5) pa_nil))) (pa_cons (pe_tup (pa_cons pe_str (pa_cons pe_int pa_nil))) (pa_cons (pe_tup (pa_cons pe_str (pa_cons (pe_tup (pa_cons pe_int pa_nil)) (pa_cons pe_int pa_nil)))) (pa_cons pe_dnewK (pa_cons (pe_tup (pa_cons pe_str (pa_cons (pe_tup (pa_cons (pv 5) pa_nil)) pa_nil))) (pa_cons (pe_tup (pa_cons pe_int (pa_cons pe_int pa_nil))) (pa_cons pe_int pa_nil)))))))))))
      (pss_cons (ps_expr (pe_bm PySem.F.plainAttrs_list PySem.F.slot_list_append PySem.F.type_list_append mt_append (pv 7) (pa_cons pe_str pa_nil)))
      (pss_one (ps_for PassesOwn.never rfl (k_piL (K := K) (pv 7)) (pg_name (i := 9) sc_law.nd rfl (Or.inl rfl)) (pss_one (ps_if (pt_cmpR op_ne (pe_callB (k_reprV (K := K) hr.units hG) (by rfl) T.z_repr bt_repr (pa_cons (pe_call (ok__law_outcome T) (hr.mono (by decide)) (by rfl) T.m__law_outcome T.F__law_outcome.kp T.b__law_outcome .nil pass0 (pa_cons (pv 3) (pa_cons (pv 6) (pa_cons (pv 9) pa_nil)))) pa_nil)) (pe_callB (k_reprV (K := K) hr.units hG) (by rfl) T.z_repr bt_repr (pa_cons (pe_call (ok__law_due T) (hr.mono (by decide)) (by rfl) T.m__law_due T.F__law_due.kp T.b__law_due .nil pass0 (pa_cons (pv 3) (pa_cons (pv 6) (pa_cons (pv 9) pa_nil)))) pa_nil)) (nomark _)) (pss_one (ps_ret pe_bl)) pss_nil)))))))))))))))))
      (pss_one (ps_ret pe_bl)))), ?_⟩
  refine ⟨_, rfl, a, ns, rfl, hS, hl, fun m H1 s1 M1 => ?_⟩
  have hmin := min4' (((ns.map V.int).length : Nat) : Int) (by omega)
  refine ⟨_, rfl, a, _, rfl, .inl (s1.seq hS), _, _, rfl, _, _, rfl, rfl, _, rfl, by omega, by omega, ?_⟩
  refine for_it walk_range (fun i σ H' => ∃ (n : Nat) (w2 w3 w4 w5 w6 w7 w8 w9 wa wb : Option V), σ = [some (.ref a), some (.ref m), w2, w3, w4, w5, w6, w7, w8, w9, wa, wb] ∧ MS H' m n ∧ n ≤ 2000 * i)
    ⟨0, none, none, none, none, none, none, none, none, none, none, rfl, M1, by omega⟩ (fun _ _ _ _ _ => trivial) ?_ ?_
  rotate_left
  · rintro σ H2 ⟨n, w2, w3, w4, w5, w6, w7, w8, w9, wa, wb, rfl, M2, hn⟩
    exact q H2
  rintro i x σ H2 H3 hi ⟨n, w2, w3, w4, w5, w6, w7, w8, w9, wa, wb, rfl, M2, hn⟩ ⟨rfl, rfl⟩
  have hi7 : i < 7 := by omega
  refine ⟨_, rfl, (by show 2 ≤ sizeLine; decide), fun p hp => ?_⟩
  have s3 := same_upd hp (.lst ([(6 : Int), 64].map V.int))
  have M3 := M2.same s3
  refine ⟨_, rfl, m, 2, n, rfl, M3, by decide, by decide, by omega, fun r n4 H4 r0 r2 hn4 M4 e4 => ?_⟩
  obtain ⟨hp4, _⟩ := e4.lst M3 upd_same (fun z => M2.notLf hp (z.upd (M2.mne hp)))
  obtain ⟨b, hb, hb2⟩ := pick2 (x := 6) (y := 64) r0 r2
  refine ⟨p, _, r, .int b, rfl, rfl, SqL.of hp4, hb, ?_⟩
  refine ⟨m, 5, b, n4, rfl, M4, by decide, by decide, by omega, by omega, by omega, fun v5 ds n5 H5 hd5 hl5 hb5 hn5 M5 e5 => ?_⟩
  obtain ⟨ls, rfl⟩ := nn_of fun d hd => (hb5 d hd).1
  rw [nn_len] at hl5
  have ok5 : OkM ls := ⟨by omega, fun l hl => by have := hb5 l (List.mem_map_of_mem hl); omega⟩
  have Lp : 0 < lcmN ls := lcmN_pos fun n hn => (ok5.2 n hn).1
  have Ll := okm_lcm ok5
  refine ⟨_, rfl, v5, ls, rfl, hd5, fun n hn => (ok5.2 n hn).1, Ll, _, rfl, _, rfl, m, _, n5, rfl, M5, by omega, by omega, by omega, fun tk n6 H6 a6 b6 hn6 M6 e6 => ?_⟩
  have hd6 : Dp K H6 v5 (dInts (NN ls)) := Dp.keepT (e6.tk M5) _ _ (to_ints _) hd5
  obtain ⟨la, rfl, hT6⟩ := hd6.ints
  refine ⟨_, rfl, la, rfl, ⟨_, hT6⟩, fun D2 hD2 => ?_⟩
  refine lc_it walk_tup (fun i H' => H' D2 = some (.lst ((plc (ls.take i) tk).map V.int)) ∧ Same H6 H') ⟨by rw [upd_same]; rfl, same_upd hD2 _⟩ (fun i H' _ p => Same.tk p.2 _ _ hT6) ?_ ?_
  · rintro j x G2 G3 hj ⟨hA2, g2⟩ ⟨rfl, hx⟩
    obtain ⟨c, hc, rfl⟩ := map_int_get hx
    obtain ⟨l, hl, rfl⟩ := nn_get hc
    have l1 := ok5.2 l (List.mem_of_getElem? hl)
    have l6 := ok5.1
    refine ⟨rfl, ?_⟩
    refine ⟨_, rfl, .inl ⟨_, rfl, _, rfl, _, _, rfl, rfl, by omega, _, hA2, ?_, ?_, ?_⟩⟩
    · rw [List.length_map, plc_len, List.length_take]
      exact small1000 (by omega)
    · rw [upd_same, take_more hl]
      show some (HO.lst (List.map V.int (plc (ls.take j) tk) ++ [V.int (tk.fmod (l : Int))])) = _
      rw [fm_int]
      unfold plc
      rw [List.map_append, List.map_append]
      rfl
    · exact fun b' o z => by
        rw [upd_ne (ne_of_none z hD2)]
        exact g2 _ _ z
  rintro G2 ⟨hA2, g2⟩
  rw [List.length_map, nn_len, List.take_length] at hA2
  refine ⟨D2, _, rfl, .inl ⟨SqL.of hA2, fun t2 ht2 => ?_⟩⟩
  have hw7 : Dp K (upd G2 t2 (.tup ((plc ls tk).map V.int))) (.ref t2) (dInts (plc ls tk)) := Dp.ofInts (SqT.of upd_same)
  have g3 := g2.trans (same_upd ht2 (.tup ((plc ls tk).map V.int)))
  have M7 := M6.same g3
  have hd7 := hd6.same_at g3
  refine ⟨fun σ H' => ∃ (n' : Nat) (w : V) (ps : List Int) (wa : Option V), σ = [some (.ref a), some (.ref m), some (.int (0 + (i : Nat))), some (.ref la), some (.int (lcmN ls : Nat)), some (.int tk), some w, w7, w8, w9, wa, wb] ∧ MS H' m n' ∧ n' ≤ n + 400 ∧ Dp K H' (.ref la) (dInts (NN ls)) ∧ Dp K H' w (dInts ps) ∧ OkP ls ps, ?_, ?_⟩
  · refine ⟨_, rfl, m, 2, n6, rfl, M7, by decide, by decide, by omega, fun r n9 H9 a9 b9 hn9 M9 e9 => ⟨rfl, _, rfl, ?_⟩⟩
    have hd9 : Dp K H9 (.ref la) (dInts (NN ls)) := Dp.keepT (e9.tk M7) _ _ (to_ints _) hd7
    have hw9 : Dp K H9 (.ref t2) (dInts (plc ls tk)) := Dp.keepT (e9.tk M7) _ _ (to_ints _) hw7
    refine ite2 (fun _ => ?_) (fun _ => ⟨n9, .ref t2, _, _, rfl, M9, by omega, hd9, hw9, plc_ok ok5 tk⟩)
    obtain ⟨_, ea, hT9⟩ := hd9.ints
    cases ea
    refine ⟨_, rfl, la, rfl, ⟨_, hT9⟩, fun D hD => ?_⟩
    refine lc_it walk_tup (fun i H' => ∃ (acc : List Int) (n' : Nat), H' D = some (.lst (acc.map V.int)) ∧ acc.length = i ∧ (∀ (k l : Nat) (p : Int), ls[k]? = some l → acc[k]? = some p → 0 ≤ p ∧ p < (l : Int)) ∧ n' ≤ n9 + i ∧ MS H' m n' ∧ ¬ Lf H' m D ∧ Ef m H9 H')
      ⟨[], n9, upd_same, rfl, (by intro k l p _ h; simp at h), Nat.le_refl _, M9.same (same_upd hD _), fun z => M9.notLf hD (z.upd (M9.mne hD)), Ef.ofSame M9 (same_upd hD _)⟩ (fun i H' _ ⟨_, _, _, _, _, _, _, _, e⟩ => (e.tk M9) _ _ hT9) ?_ ?_
    · rintro j x G2 G3 hj ⟨acc, n', hA, hi2, hb, hn', N2, nl, g2⟩ ⟨rfl, hx⟩
      obtain ⟨c, hc, rfl⟩ := map_int_get hx
      obtain ⟨l, hl, rfl⟩ := nn_get hc
      have l1 := ok5.2 l (List.mem_of_getElem? hl)
      rw [List.length_map, nn_len] at hj
      refine ⟨rfl, ?_⟩
      refine ⟨_, rfl, _, rfl, m, _, n', rfl, N2, by omega, by omega, by omega, fun r2 n2 G4 a0 a1 hn2 N4 g4 => ?_⟩
      obtain ⟨hA4, nl4⟩ := g4.lst N2 hA nl
      refine ⟨_, hA4, by rw [List.length_map]; exact small1000 (by omega), acc ++ [r2], n2, ?_, ?_, ?_, by omega, N4.upd hA4 nl4, fun z => nl4 (z.upd (N4.mneL hA4)), (g2.trans g4).upd hD (N4.mneL hA4)⟩
      · rw [upd_same, List.map_append]
        all_goals rfl
      · rw [List.length_append, List.length_singleton, hi2]
      · intro k l' p h1 h2
        by_cases e : k < acc.length
        · rw [List.getElem?_append_left e] at h2
          exact hb k l' p h1 h2
        · have e2 : k = acc.length := by
            have := (List.getElem?_eq_some_iff.mp h2).1
            rw [List.length_append, List.length_singleton] at this
            omega
          subst e2
          rw [List.getElem?_append_right (Nat.le_refl _), Nat.sub_self] at h2
          cases h2
          rw [hi2, hl] at h1
          cases h1
          exact ⟨a0, a1⟩
    rintro H7 ⟨acc, n7, hA, hi2, hb, hn7, M7, nl, e7⟩
    rw [List.length_map, nn_len] at hi2 hn7
    refine ⟨D, _, rfl, .inl ⟨SqL.of hA, fun t ht => ?_⟩⟩
    have s8 := same_upd ht (.tup (acc.map V.int))
    have hd7 : Dp K H7 (.ref la) (dInts (NN ls)) := Dp.keepT (e7.tk M9) _ _ (to_ints _) hd9
    exact ⟨n7, .ref t, acc, _, rfl, M7.same s8, by omega, hd7.same_at s8, Dp.ofInts (SqT.of upd_same), hi2, hb⟩
  rintro σ H9 ⟨n9, w, ps, wa, rfl, M9, hn9, hd9, hw9, okp⟩
  refine ⟨_, rfl, (by show 2 ≤ sizeLine; decide), fun p1 hp1 => ⟨_, rfl, _, rfl, _, _, rfl, rfl, (by show 2 ≤ sizeLine; decide), fun p2 hp2 => ⟨_, rfl, _, rfl, _, _, rfl, rfl, (by show 2 ≤ sizeLine; decide), fun p3 hp3 => ⟨(by show 2 ≤ sizeLine; decide), fun p4 hp4 => ⟨(by show 4 ≤ sizeLine; decide), fun p5 hp5 => ?_⟩⟩⟩⟩⟩
  have np1 := same_upd hp1 (.tup [(.str "tick"), (.int tk)])
  have np2 := same_upd hp2 (.tup [(.str "tick"), (.int (tk + (lcmN ls : Nat)))])
  have np3 := same_upd hp3 (.tup [(.str "tick"), (.int (tk - (lcmN ls : Nat)))])
  have np4 := same_upd hp4 (.tup [(.str "tick"), (.int 0)])
  have np5 := same_upd hp5 (.lst [(.ref p1), (.ref p2), (.ref p3), (.ref p4)])
  have t10 := (np1.trans (np2.trans (np3.trans (np4.trans np5))))
  have M10 := M9.same t10
  have M9b := M9.same (np1.trans (np2.trans (np3.trans np4)))
  refine ⟨_, rfl, .inl ⟨rfl, _, SqL.of upd_same⟩, _, rfl, _, rfl, m, _, n9, rfl, M10, by omega, by omega, by omega, fun r11 n11 H11 a11 b11 hn11 M11 e11 => ⟨(by show 2 ≤ sizeLine; decide), fun p6 h6 => ?_⟩⟩
  obtain ⟨hA11, nl11⟩ := e11.lst M10 upd_same (fun z => M9b.notLf hp5 (z.upd (M9b.mne hp5)))
  have s12 := same_upd h6 (.tup [.str "tick", .int r11])
  have hA12 := s12 _ _ hA11
  refine ⟨p5, _, _, rfl, rfl, hA12, (by show 4 < sizeLine; decide), ?_⟩
  have k11 := e11.tk (K := K) M10
  have k13 := (Same.tk (K := K) s12).trans (tk_upd (K := K) (o := .lst ([.ref p1, .ref p2, .ref p3, .ref p4] ++ [.ref p6])) hA12)
  have x13 : RtAll K (upd (upd H11 p6 (.tup [.str "tick", .int r11])) p5 (.lst ([.ref p1, .ref p2, .ref p3, .ref p4] ++ [.ref p6]))) [.ref p1, .ref p2, .ref p3, .ref p4, .ref p6] [.tup [.str "tick", .int tk], .tup [.str "tick", .int (tk + (lcmN ls : Nat))], .tup [.str "tick", .int (tk - (lcmN ls : Nat))], .tup [.str "tick", .int 0], .tup [.str "tick", .int r11]] := (.cons (.tup (k13 _ _ (k11 _ _ (SqT.of ((np2.trans (np3.trans (np4.trans np5))) _ _ upd_same)))) (.cons (.str _) (.cons (.int _) .nil))) (.cons (.tup (k13 _ _ (k11 _ _ (SqT.of ((np3.trans (np4.trans np5)) _ _ upd_same)))) (.cons (.str _) (.cons (.int _) .nil))) (.cons (.tup (k13 _ _ (k11 _ _ (SqT.of ((np4.trans np5) _ _ upd_same)))) (.cons (.str _) (.cons (.int _) .nil))) (.cons (.tup (k13 _ _ (k11 _ _ (SqT.of (np5 _ _ upd_same)))) (.cons (.str _) (.cons (.int _) .nil))) (.cons (.tup (tk_upd hA12 _ _ (SqT.of upd_same)) (.cons (.str _) (.cons (.int _) .nil))) .nil)))))
  have M13 := (M11.same s12).upd (o := .lst ([.ref p1, .ref p2, .ref p3, .ref p4] ++ [.ref p6])) hA12 (noLf_same M11 s12 nl11)
  have hd13 : Dp K _ (.ref la) (dInts (NN ls)) := Dp.keepT k13 _ _ (to_ints _) (Dp.keepT k11 _ _ (to_ints _) (hd9.same_at t10))
  have hw13 : Dp K _ w (dInts ps) := Dp.keepT k13 _ _ (to_ints _) (Dp.keepT k11 _ _ (to_ints _) (hw9.same_at t10))
  have hS13 : upd (upd H11 p6 (.tup [.str "tick", .int r11])) p5 (.lst ([.ref p1, .ref p2, .ref p3, .ref p4] ++ [.ref p6])) p5 = some (.lst [.ref p1, .ref p2, .ref p3, .ref p4, .ref p6]) := upd_same
  generalize upd (upd H11 p6 (.tup [.str "tick", .int r11])) p5 (.lst ([.ref p1, .ref p2, .ref p3, .ref p4] ++ [.ref p6])) = H13 at x13 M13 hd13 hw13 hS13 ⊢
  obtain ⟨_, ea, hT13⟩ := hd13.ints
  cases ea
  have l6 := ok5.1
  refine ⟨_, rfl, _, rfl, la, _, rfl, .inr hT13, _, _, rfl, rfl, _, _, rfl, ⟨by decide, by decide, by rw [List.length_map, nn_len]; omega, by rw [List.length_map, nn_len]; omega⟩, ?_⟩
  refine for_it walk_range (fun i2 σ H' => ∃ (S : Addr) (xs : List V) (ds : List Th) (x8 xb : Option V), σ = [some (.ref a), some (.ref m), some (.int (0 + (i : Nat))), some (.ref la), some (.int (lcmN ls : Nat)), some (.int tk), some w, some (.ref S), x8, w9, wa, xb] ∧ H' S = some (.lst xs) ∧ RtAll K H' xs ds ∧ okA ds ∧ xs.length ≤ 5 + 12 * i2 ∧ Same H13 H')
    ⟨p5, _, _, w8, wb, rfl, hS13, x13, ?_, (by show 5 ≤ 5 + 12 * 0; decide), Same.refl _⟩ (fun _ _ _ _ _ => trivial) ?_ ?_
  · exact okA_cons (okS_str (by decide +kernel)) (okA_cons (okS_str (by decide +kernel)) (okA_cons (okS_str (by decide +kernel)) (okA_cons (okS_str (by decide +kernel)) (okA_cons (okS_str (by decide +kernel)) okA_nil))))
  · rintro i2 x2 σ H14 H15 hi2 ⟨S, xs, ds, x8, xb, rfl, hS, hx, ho, hlx, s14⟩ ⟨rfl, rfl⟩
    have hi9 : i2 < 9 := by rw [List.length_map, nn_len] at hi2; omega
    have hT14 := Same.tk s14 _ _ hT13
    refine ⟨_, rfl, _, rfl, _, rfl, la, _, rfl, .inr hT14, _, _, rfl, rfl, _, _, rfl, ⟨by decide, by decide, by rw [List.length_map, nn_len]; omega, by rw [List.length_map, nn_len]; omega⟩, fun D hD => ?_⟩
    refine lc_it walk_range (fun j H' => ∃ (ys : List V) (es : List Th), H' D = some (.lst ys) ∧ RtAll K H' ys es ∧ okA es ∧ ys.length = j ∧ Same H15 H')
      ⟨[], [], upd_same, .nil, okA_nil, rfl, same_upd hD _⟩ (fun _ _ _ _ => trivial) ?_ ?_
    · rintro j y G1 G2 hj ⟨ys, es, hA, hy, hoe, hlj, g1⟩ ⟨rfl, rfl⟩
      rw [List.length_map, nn_len] at hj
      refine ⟨rfl, ?_⟩
      refine ⟨_, rfl, _, rfl, (by show 3 ≤ sizeLine; decide), fun t ht => ?_⟩
      have g2 := same_upd ht (.tup [.str "never", .int (-1 + (i2 : Nat)), .int (-1 + (j : Nat))])
      have hA2 := g2 _ _ hA
      refine ⟨_, hA2, small1000 (by omega), ys ++ [.ref t], es ++ [.tup [.str "never", .int (-1 + (i2 : Nat)), .int (-1 + (j : Nat))]], upd_same, ?_, okA_app hoe (okA_cons (okS_str (by decide +kernel)) okA_nil), by simp [hlj], fun b' o q => ?_⟩
      · exact RtAll.mut hA2 _ _ (RtAll.app (RtAll.same g2 _ _ hy) (.cons (.tup (SqT.of upd_same) (.cons (.str _) (.cons (.int _) (.cons (.int _) .nil)))) .nil))
      · rw [upd_ne (ne_of_none q hD)]
        exact g2 _ _ (g1 _ _ q)
    rintro G1 ⟨ys, es, hA, hy, hoe, hlj, g1⟩
    rw [List.length_map, nn_len] at hlj
    refine ⟨S, D, xs, ys, rfl, rfl, g1 _ _ hS, hA, Nat.le_of_lt (small1000 (by omega)), fun S2 hS2 => ?_⟩
    have g2 := same_upd hS2 (.lst (xs ++ ys))
    exact ⟨S2, xs ++ ys, ds ++ es, _, _, rfl, upd_same, RtAll.same g2 _ _ (RtAll.app (RtAll.same g1 _ _ hx) hy), okA_app ho hoe, by rw [List.length_append]; omega, s14.trans (g1.trans g2)⟩
  rintro σ H20 ⟨S, xs, ds, x8, xb, rfl, hS20, x20, ok20, l20, t20⟩
  rw [List.length_map, nn_len] at l20
  have l20' : xs.length ≤ 200 := by omega
  clear l20
  refine ⟨_, rfl, ?_⟩
  refine ⟨(by show 1 ≤ sizeLine; decide), fun q1 hq1 => ⟨_, rfl, (by show 3 ≤ sizeLine; decide), fun q2 hq2 => ⟨(by show 2 ≤ sizeLine; decide), fun q3 hq3 => ⟨(by show 4 ≤ sizeLine; decide), fun q4 hq4 => ⟨_, rfl, (by show 2 ≤ sizeLine; decide), fun q5 hq5 => ⟨(by show 0 ≤ sizeLine; decide), fun q6 hq6 => ⟨(by show 7 ≤ sizeLine; decide), fun q7 hq7 => ?_⟩⟩⟩⟩⟩⟩⟩
  have nq1 := same_upd hq1 (.tup [(.str "tick")])
  have nq2 := same_upd hq2 (.tup [(.str "tick"), (.int tk), (.int 0)])
  have nq3 := same_upd hq3 (.tup [(.str "never"), (.int 0)])
  have nq4 := same_upd hq4 (.tup [(.str "never"), (.int 0), (.int 1), (.int 2)])
  have nq5 := same_upd hq5 (.lst [(.str "tick"), (.int tk)])
  have nq6 := same_upd hq6 (.tup [])
  have nq7 := same_upd hq7 (.lst [(.ref q1), (.ref q2), (.ref q3), (.ref q4), (.ref q5), .non, (.ref q6)])
  have m21 := (nq1.trans (nq2.trans (nq3.trans (nq4.trans (nq5.trans (nq6.trans nq7))))))
  have y21 : RtAll K _ [(.ref q1), (.ref q2), (.ref q3), (.ref q4), (.ref q5), .non, (.ref q6)] [(.tup [(.str "tick")]), (.tup [(.str "tick"), (.int tk), (.int 0)]), (.tup [(.str "never"), (.int 0)]), (.tup [(.str "never"), (.int 0), (.int 1), (.int 2)]), .lst, .non, (.tup [])] := (.cons (.tup (SqT.of ((nq2.trans (nq3.trans (nq4.trans (nq5.trans (nq6.trans nq7))))) _ _ upd_same)) (.cons (.str _) .nil)) (.cons (.tup (SqT.of ((nq3.trans (nq4.trans (nq5.trans (nq6.trans nq7)))) _ _ upd_same)) (.cons (.str _) (.cons (.int _) (.cons (.int _) .nil)))) (.cons (.tup (SqT.of ((nq4.trans (nq5.trans (nq6.trans nq7))) _ _ upd_same)) (.cons (.str _) (.cons (.int _) .nil))) (.cons (.tup (SqT.of ((nq5.trans (nq6.trans nq7)) _ _ upd_same)) (.cons (.str _) (.cons (.int _) (.cons (.int _) (.cons (.int _) .nil))))) (.cons (.lst ((nq6.trans nq7) _ _ upd_same)) (.cons .non (.cons (.tup (SqT.of (nq7 _ _ upd_same)) .nil) .nil)))))))
  refine ⟨S, q7, _, _, rfl, rfl, m21 _ _ hS20, upd_same, Nat.le_of_lt (small1000 (by simp; omega)), fun S21 eS21 => ?_⟩
  have g21 := same_upd eS21 (.lst (xs ++ [(.ref q1), (.ref q2), (.ref q3), (.ref q4), (.ref q5), .non, (.ref q6)]))
  have x21 := RtAll.same g21 _ _ (RtAll.app (RtAll.same m21 _ _ x20) y21)
  have ok21 : okA (ds ++ [(.tup [(.str "tick")]), (.tup [(.str "tick"), (.int tk), (.int 0)]), (.tup [(.str "never"), (.int 0)]), (.tup [(.str "never"), (.int 0), (.int 1), (.int 2)]), .lst, .non, (.tup [])]) := okA_app ok20 (okA_cons (okS_str (by decide +kernel)) (okA_cons (okS_str (by decide +kernel)) (okA_cons (okS_str (by decide +kernel)) (okA_cons (okS_str (by decide +kernel)) (okA_cons (okS_no (by intro s r e; cases e)) (okA_cons (okS_no (by intro s r e; cases e)) (okA_cons (okS_no (by intro s r e; cases e)) okA_nil)))))))
  have t21 := t20.trans (m21.trans g21)
  have hS21 := new_at eS21 (.lst (xs ++ [(.ref q1), (.ref q2), (.ref q3), (.ref q4), (.ref q5), .non, (.ref q6)]))
  have l21 : ((xs ++ [(.ref q1), (.ref q2), (.ref q3), (.ref q4), (.ref q5), .non, (.ref q6)]) : List V).length ≤ 207 := by simp; omega
  have N21 := M13.same (t20.trans m21)
  have nl21 : ¬ Lf _ m S21 := fun z => N21.notLf eS21 (z.upd (o := .lst (xs ++ [(.ref q1), (.ref q2), (.ref q3), (.ref q4), (.ref q5), .non, (.ref q6)])) (N21.mne eS21))
  generalize (upd (upd (upd (upd (upd (upd (upd (upd H20 q1 (.tup [(.str "tick")])) q2 (.tup [(.str "tick"), (.int tk), (.int 0)])) q3 (.tup [(.str "never"), (.int 0)])) q4 (.tup [(.str "never"), (.int 0), (.int 1), (.int 2)])) q5 (.lst [(.str "tick"), (.int tk)])) q6 (.tup [])) q7 (.lst [(.ref q1), (.ref q2), (.ref q3), (.ref q4), (.ref q5), .non, (.ref q6)])) S21 (.lst (xs ++ [(.ref q1), (.ref q2), (.ref q3), (.ref q4), (.ref q5), .non, (.ref q6)]))) = H21 at x21 t21 hS21 nl21 ⊢
  generalize ((xs ++ [(.ref q1), (.ref q2), (.ref q3), (.ref q4), (.ref q5), .non, (.ref q6)]) : List V) = X21 at x21 hS21 l21
  generalize ((ds ++ [(.tup [(.str "tick")]), (.tup [(.str "tick"), (.int tk), (.int 0)]), (.tup [(.str "never"), (.int 0)]), (.tup [(.str "never"), (.int 0), (.int 1), (.int 2)]), .lst, .non, (.tup [])]) : List Th) = Y21 at x21 ok21
  refine ⟨_, rfl, ?_⟩
  refine ⟨(by show 2 ≤ sizeLine; decide), fun r1 hr1 => ⟨(by show 2 ≤ sizeLine; decide), fun r2 hr2 => ⟨(by show 2 ≤ sizeLine; decide), fun r3 hr3 => ⟨(by show 3 ≤ sizeLine; decide), fun r4 hr4 => ⟨(by show 3 ≤ sizeLine; decide), fun r5 hr5 => ⟨(by show 5 ≤ sizeLine; decide), fun r6 hr6 => ?_⟩⟩⟩⟩⟩⟩
  have nr1 := same_upd hr1 (.tup [(.str "tick"), .non])
  have nr2 := same_upd hr2 (.tup [(.str "tick"), (.bl true)])
  have nr3 := same_upd hr3 (.tup [(.str "tick"), (.str "0")])
  have nr4 := same_upd hr4 (.tup [(.str "never"), (.int 0), .non])
  have nr5 := same_upd hr5 (.tup [(.str "never"), (.bl false), (.bl true)])
  have nr6 := same_upd hr6 (.lst [(.ref r1), (.ref r2), (.ref r3), (.ref r4), (.ref r5)])
  have m22 := (nr1.trans (nr2.trans (nr3.trans (nr4.trans (nr5.trans nr6)))))
  have y22 : RtAll K _ [(.ref r1), (.ref r2), (.ref r3), (.ref r4), (.ref r5)] [(.tup [(.str "tick"), .non]), (.tup [(.str "tick"), (.bl true)]), (.tup [(.str "tick"), (.str "0")]), (.tup [(.str "never"), (.int 0), .non]), (.tup [(.str "never"), (.bl false), (.bl true)])] := (.cons (.tup (SqT.of ((nr2.trans (nr3.trans (nr4.trans (nr5.trans nr6)))) _ _ upd_same)) (.cons (.str _) (.cons .non .nil))) (.cons (.tup (SqT.of ((nr3.trans (nr4.trans (nr5.trans nr6))) _ _ upd_same)) (.cons (.str _) (.cons (.bl _) .nil))) (.cons (.tup (SqT.of ((nr4.trans (nr5.trans nr6)) _ _ upd_same)) (.cons (.str _) (.cons (.str _) .nil))) (.cons (.tup (SqT.of ((nr5.trans nr6) _ _ upd_same)) (.cons (.str _) (.cons (.int _) (.cons .non .nil)))) (.cons (.tup (SqT.of (nr6 _ _ upd_same)) (.cons (.str _) (.cons (.bl _) (.cons (.bl _) .nil)))) .nil)))))
  refine ⟨S21, r6, _, _, rfl, rfl, m22 _ _ hS21, upd_same, Nat.le_of_lt (small1000 (by simp; omega)), fun S22 eS22 => ?_⟩
  have g22 := same_upd eS22 (.lst (X21 ++ [(.ref r1), (.ref r2), (.ref r3), (.ref r4), (.ref r5)]))
  have x22 := RtAll.same g22 _ _ (RtAll.app (RtAll.same m22 _ _ x21) y22)
  have ok22 : okA (Y21 ++ [(.tup [(.str "tick"), .non]), (.tup [(.str "tick"), (.bl true)]), (.tup [(.str "tick"), (.str "0")]), (.tup [(.str "never"), (.int 0), .non]), (.tup [(.str "never"), (.bl false), (.bl true)])]) := okA_app ok21 (okA_cons (okS_str (by decide +kernel)) (okA_cons (okS_str (by decide +kernel)) (okA_cons (okS_str (by decide +kernel)) (okA_cons (okS_str (by decide +kernel)) (okA_cons (okS_str (by decide +kernel)) okA_nil)))))
  have t22 := t21.trans (m22.trans g22)
  have hS22 := new_at eS22 (.lst (X21 ++ [(.ref r1), (.ref r2), (.ref r3), (.ref r4), (.ref r5)]))
  have l22 : ((X21 ++ [(.ref r1), (.ref r2), (.ref r3), (.ref r4), (.ref r5)]) : List V).length ≤ 212 := by simp; omega
  have N22 := M13.same (t21.trans m22)
  have nl22 : ¬ Lf _ m S22 := fun z => N22.notLf eS22 (z.upd (o := .lst (X21 ++ [(.ref r1), (.ref r2), (.ref r3), (.ref r4), (.ref r5)])) (N22.mne eS22))
  generalize (upd (upd (upd (upd (upd (upd (upd H21 r1 (.tup [(.str "tick"), .non])) r2 (.tup [(.str "tick"), (.bl true)])) r3 (.tup [(.str "tick"), (.str "0")])) r4 (.tup [(.str "never"), (.int 0), .non])) r5 (.tup [(.str "never"), (.bl false), (.bl true)])) r6 (.lst [(.ref r1), (.ref r2), (.ref r3), (.ref r4), (.ref r5)])) S22 (.lst (X21 ++ [(.ref r1), (.ref r2), (.ref r3), (.ref r4), (.ref r5)]))) = H22 at x22 t22 hS22 nl22 ⊢
  generalize ((X21 ++ [(.ref r1), (.ref r2), (.ref r3), (.ref r4), (.ref r5)]) : List V) = X22 at x22 hS22 l22
  generalize ((Y21 ++ [(.tup [(.str "tick"), .non]), (.tup [(.str "tick"), (.bl true)]), (.tup [(.str "tick"), (.str "0")]), (.tup [(.str "never"), (.int 0), .non]), (.tup [(.str "never"), (.bl false), (.bl true)])]) : List Th) = Y22 at x22 ok22
  refine ⟨_, rfl, ?_⟩
  refine ⟨_, rfl, (by show 2 ≤ sizeLine; decide), fun s1 hs1 => ⟨_, rfl, (by show 2 ≤ sizeLine; decide), fun s2 hs2 => ⟨(by show 2 ≤ sizeLine; decide), fun s3 hs3 => ⟨(by show 1 ≤ sizeLine; decide), fun s4 hs4 => ⟨(by show 3 ≤ sizeLine; decide), fun s5 hs5 => fun s6 hs6 => ⟨_, rfl, (by show 1 ≤ sizeLine; decide), fun s7 hs7 => ⟨(by show 2 ≤ sizeLine; decide), fun s8 hs8 => ⟨(by show 2 ≤ sizeLine; decide), fun s9 hs9 => ⟨(by show 8 ≤ sizeLine; decide), fun s10 hs10 => ?_⟩⟩⟩⟩⟩⟩⟩⟩⟩
  have ns1 := same_upd hs1 (.tup [(.str "Tick"), (.int tk)])
  have ns2 := same_upd hs2 (.tup [.non, (.int tk)])
  have ns3 := same_upd hs3 (.tup [(.str ""), (.int 0)])
  have ns4 := same_upd hs4 (.tup [(.int 0)])
  have ns5 := same_upd hs5 (.tup [(.str "never"), (.ref s4), (.int 1)])
  have ns6 := same_upd hs6 (.dK [])
  have ns7 := same_upd hs7 (.tup [(.int tk)])
  have ns8 := same_upd hs8 (.tup [(.str "tick"), (.ref s7)])
  have ns9 := same_upd hs9 (.tup [(.int 0), (.int 1)])
  have ns10 := same_upd hs10 (.lst [(.ref s1), (.ref s2), (.ref s3), (.ref s5), (.ref s6), (.ref s8), (.ref s9), (.int 5)])
  have m23 := (ns1.trans (ns2.trans (ns3.trans (ns4.trans (ns5.trans (ns6.trans (ns7.trans (ns8.trans (ns9.trans ns10)))))))))
  have y23 : RtAll K _ [(.ref s1), (.ref s2), (.ref s3), (.ref s5), (.ref s6), (.ref s8), (.ref s9), (.int 5)] [(.tup [(.str "Tick"), (.int tk)]), (.tup [.non, (.int tk)]), (.tup [(.str ""), (.int 0)]), (.tup [(.str "never"), (.tup [(.int 0)]), (.int 1)]), .dct, (.tup [(.str "tick"), (.tup [(.int tk)])]), (.tup [(.int 0), (.int 1)]), (.int 5)] := (.cons (.tup (SqT.of ((ns2.trans (ns3.trans (ns4.trans (ns5.trans (ns6.trans (ns7.trans (ns8.trans (ns9.trans ns10)))))))) _ _ upd_same)) (.cons (.str _) (.cons (.int _) .nil))) (.cons (.tup (SqT.of ((ns3.trans (ns4.trans (ns5.trans (ns6.trans (ns7.trans (ns8.trans (ns9.trans ns10))))))) _ _ upd_same)) (.cons .non (.cons (.int _) .nil))) (.cons (.tup (SqT.of ((ns4.trans (ns5.trans (ns6.trans (ns7.trans (ns8.trans (ns9.trans ns10)))))) _ _ upd_same)) (.cons (.str _) (.cons (.int _) .nil))) (.cons (.tup (SqT.of ((ns6.trans (ns7.trans (ns8.trans (ns9.trans ns10)))) _ _ upd_same)) (.cons (.str _) (.cons (.tup (SqT.of ((ns5.trans (ns6.trans (ns7.trans (ns8.trans (ns9.trans ns10))))) _ _ upd_same)) (.cons (.int _) .nil)) (.cons (.int _) .nil)))) (.cons (.dct ((ns7.trans (ns8.trans (ns9.trans ns10))) _ _ upd_same)) (.cons (.tup (SqT.of ((ns9.trans ns10) _ _ upd_same)) (.cons (.str _) (.cons (.tup (SqT.of ((ns8.trans (ns9.trans ns10)) _ _ upd_same)) (.cons (.int _) .nil)) .nil))) (.cons (.tup (SqT.of (ns10 _ _ upd_same)) (.cons (.int _) (.cons (.int _) .nil))) (.cons (.int _) .nil))))))))
  refine ⟨S22, s10, _, _, rfl, rfl, m23 _ _ hS22, upd_same, Nat.le_of_lt (small1000 (by simp; omega)), fun S23 eS23 => ?_⟩
  have g23 := same_upd eS23 (.lst (X22 ++ [(.ref s1), (.ref s2), (.ref s3), (.ref s5), (.ref s6), (.ref s8), (.ref s9), (.int 5)]))
  have x23 := RtAll.same g23 _ _ (RtAll.app (RtAll.same m23 _ _ x22) y23)
  have ok23 : okA (Y22 ++ [(.tup [(.str "Tick"), (.int tk)]), (.tup [.non, (.int tk)]), (.tup [(.str ""), (.int 0)]), (.tup [(.str "never"), (.tup [(.int 0)]), (.int 1)]), .dct, (.tup [(.str "tick"), (.tup [(.int tk)])]), (.tup [(.int 0), (.int 1)]), (.int 5)]) := okA_app ok22 (okA_cons (okS_str (by decide +kernel)) (okA_cons (okS_no (by intro s r e; cases e)) (okA_cons (okS_str (by decide +kernel)) (okA_cons (okS_str (by decide +kernel)) (okA_cons (okS_no (by intro s r e; cases e)) (okA_cons (okS_str (by decide +kernel)) (okA_cons (okS_no (by intro s r e; cases e)) (okA_cons (okS_no (by intro s r e; cases e)) okA_nil))))))))
  have t23 := t22.trans (m23.trans g23)
  have hS23 := new_at eS23 (.lst (X22 ++ [(.ref s1), (.ref s2), (.ref s3), (.ref s5), (.ref s6), (.ref s8), (.ref s9), (.int 5)]))
  have l23 : ((X22 ++ [(.ref s1), (.ref s2), (.ref s3), (.ref s5), (.ref s6), (.ref s8), (.ref s9), (.int 5)]) : List V).length ≤ 220 := by simp; omega
  have N23 := M13.same (t22.trans m23)
  have nl23 : ¬ Lf _ m S23 := fun z => N23.notLf eS23 (z.upd (o := .lst (X22 ++ [(.ref s1), (.ref s2), (.ref s3), (.ref s5), (.ref s6), (.ref s8), (.ref s9), (.int 5)])) (N23.mne eS23))
  generalize (upd (upd (upd (upd (upd (upd (upd (upd (upd (upd (upd H22 s1 (.tup [(.str "Tick"), (.int tk)])) s2 (.tup [.non, (.int tk)])) s3 (.tup [(.str ""), (.int 0)])) s4 (.tup [(.int 0)])) s5 (.tup [(.str "never"), (.ref s4), (.int 1)])) s6 (.dK [])) s7 (.tup [(.int tk)])) s8 (.tup [(.str "tick"), (.ref s7)])) s9 (.tup [(.int 0), (.int 1)])) s10 (.lst [(.ref s1), (.ref s2), (.ref s3), (.ref s5), (.ref s6), (.ref s8), (.ref s9), (.int 5)])) S23 (.lst (X22 ++ [(.ref s1), (.ref s2), (.ref s3), (.ref s5), (.ref s6), (.ref s8), (.ref s9), (.int 5)]))) = H23 at x23 t23 hS23 nl23 ⊢
  generalize ((X22 ++ [(.ref s1), (.ref s2), (.ref s3), (.ref s5), (.ref s6), (.ref s8), (.ref s9), (.int 5)]) : List V) = X23 at x23 hS23 l23
  generalize ((Y22 ++ [(.tup [(.str "Tick"), (.int tk)]), (.tup [.non, (.int tk)]), (.tup [(.str ""), (.int 0)]), (.tup [(.str "never"), (.tup [(.int 0)]), (.int 1)]), .dct, (.tup [(.str "tick"), (.tup [(.int tk)])]), (.tup [(.int 0), (.int 1)]), (.int 5)]) : List Th) = Y23 at x23 ok23
  refine ⟨_, rfl, .inl ⟨rfl, _, SqL.of hS23⟩, S23, _, _, rfl, rfl, hS23, small1000 (by omega), ?_⟩
  have x30 := RtAll.mut (zs := X23 ++ [.str "tick"]) hS23 _ _ (RtAll.app x23 (.cons (.str "tick") .nil))
  have ok30 := okA_app ok23 (okA_cons (okS_no (d := .str "tick") (by intro s r e; cases e)) okA_nil)
  have k30 : TK K H13 _ := (Same.tk (K := K) t23).trans (tk_upd (K := K) (o := .lst (X23 ++ [.str "tick"])) hS23)
  have hd30 : Dp K _ (.ref la) (dInts (NN ls)) := Dp.keepT k30 _ _ (to_ints _) hd13
  have hw30 : Dp K _ w (dInts ps) := Dp.keepT k30 _ _ (to_ints _) hw13
  have M30 := (M13.same t23).upd (o := .lst (X23 ++ [.str "tick"])) hS23 nl23
  have hS30 := SqL.of (K := K) (upd_same (H := H23) (a := S23) (o := .lst (X23 ++ [.str "tick"])))
  generalize upd H23 S23 (.lst (X23 ++ [.str "tick"])) = H30 at x30 k30 hd30 hw30 M30 hS30 ⊢
  refine ⟨_, rfl, S23, rfl, ⟨_, hS30⟩, ?_⟩
  refine for_it walk_list (fun j σ H' => ∃ (z9 : Option V), σ = [some (.ref a), some (.ref m), some (.int (0 + (i : Nat))), some (.ref la), some (.int (lcmN ls : Nat)), some (.int tk), some w, some (.ref S23), x8, z9, wa, xb] ∧ Same H30 H') ⟨w9, rfl, Same.refl _⟩ (fun j σ H' _ ⟨_, _, s⟩ => s.seq hS30) ?_ ?_
  · rintro j x σ G1 G2 hj ⟨z9, rfl, g1⟩ ⟨rfl, hx⟩
    obtain ⟨c, hc, hC⟩ := x30.get hx
    refine ⟨_, rfl, _, rfl, _, rfl, .ref la, w, x, ls, ps, c, rfl, hd30.same_at g1, hw30.same_at g1, hC.at g1, ok5, okp, fun z1 H31 s31 hz1 => ?_⟩
    have g2 := g1.trans s31
    refine ⟨_, _, rfl, hz1, jdD_ok _ _ _, _, rfl, _, rfl, _, rfl, .ref la, w, x, ls, ps, c, rfl, hd30.same_at g2, hw30.same_at g2, hC.at g2, ok5, okp, ok30 _ (List.mem_of_getElem? hc), fun z2 H32 s32 hz2 => ?_⟩
    refine ⟨_, _, rfl, hz2, jdD_ok _ _ _, rfl, _, rfl, iteNS rfl ?_⟩
    exact ⟨_, rfl, g2.trans s32⟩
  rintro σ H40 ⟨z9, rfl, g40⟩
  exact ⟨n11, _, _, _, _, _, _, _, _, _, _, rfl, M30.same g40, by omega⟩
end
end My

namespace My
open PySem PySem.Spec PyProof.Rows L2
theorem all_mk {P : Program} {w : World} {K : PySem.W.Frag} {h : Heap} {mg : Str → Option Value} {fa : Addr} (X : K.In h) (G : h.Ns mainGlobals mg) (hfa : mg "law" = some (.ref fa))
    {f0 f1 f2 f3 f4 f5 f6 f7 f8 f9 f10 f11 f12 f13 f14 f15 f16 f17 f18 f19 : Addr} {od0 an0 od1 an1 od2 an2 od3 an3 od4 an4 od5 an5 od6 an6 od7 an7 od8 an8 od9 an9 od10 an10 od11 an11 od12 an12 od13 an13 od14 an14 od15 an15 od16 an16 od17 an17 od18 an18 od19 an19 : Option Addr} {sl0 sl1 sl2 sl3 sl4 sl5 sl6 sl7 sl8 sl9 sl10 sl11 sl12 sl13 sl14 sl15 sl16 sl17 sl18 sl19 : Array (Option Value)}
    {oc0 kV0 dc0 pm0 cd0 ct0 oc1 kV1 dc1 pm1 cd1 ct1 oc2 kV2 dc2 pm2 cd2 ct2 oc3 kV3 dc3 pm3 cd3 ct3 oc4 kV4 dc4 pm4 cd4 ct4 oc5 kV5 dc5 pm5 cd5 ct5 oc6 kV6 dc6 pm6 cd6 ct6 oc7 kV7 dc7 pm7 cd7 ct7 oc8 kV8 dc8 pm8 cd8 ct8 oc9 kV9 dc9 pm9 cd9 ct9 oc10 kV10 dc10 pm10 cd10 ct10 oc11 kV11 dc11 pm11 cd11 ct11 oc12 kV12 dc12 pm12 cd12 ct12 oc13 kV13 dc13 pm13 cd13 ct13 oc14 kV14 dc14 pm14 cd14 ct14 oc15 kV15 dc15 pm15 cd15 ct15 oc16 kV16 dc16 pm16 cd16 ct16 oc17 kV17 dc17 pm17 cd17 ct17 oc18 kV18 dc18 pm18 cd18 ct18 oc19 kV19 dc19 pm19 cd19 ct19 : Value}
    {tk_MOST_LENGTHS tk_MOST_LENGTH : Tok}
    (a0 : PySem.W.nsIn K mainGlobals "is_whole" = some (some (.ref f0)))
    (l0 : K.lookup f0 = some ⟨oc0, od0, .func (PySem.W.fnOf "is_whole" "is_whole" (defArgs s_is_whole) (defBody s_is_whole) (defScope s_is_whole) .none kV0 dc0 pm0 an0 cd0 ct0), sl0⟩)
    (c0 : PySem.W.codeIn K cd0 "is_whole" = true) (k0 : PySem.W.keepIn K (.ref f0) = true)
    (a1 : PySem.W.nsIn K mainGlobals "are_samples" = some (some (.ref f1)))
    (l1 : K.lookup f1 = some ⟨oc1, od1, .func (PySem.W.fnOf "are_samples" "are_samples" (defArgs s_are_samples) (defBody s_are_samples) (defScope s_are_samples) .none kV1 dc1 pm1 an1 cd1 ct1), sl1⟩)
    (c1 : PySem.W.codeIn K cd1 "are_samples" = true) (k1 : PySem.W.keepIn K (.ref f1) = true)
    (a2 : PySem.W.nsIn K mainGlobals "begins" = some (some (.ref f2)))
    (l2 : K.lookup f2 = some ⟨oc2, od2, .func (PySem.W.fnOf "begins" "begins" (defArgs s_begins) (defBody s_begins) (defScope s_begins) .none kV2 dc2 pm2 an2 cd2 ct2), sl2⟩)
    (c2 : PySem.W.codeIn K cd2 "begins" = true) (k2 : PySem.W.keepIn K (.ref f2) = true)
    (a3 : PySem.W.nsIn K mainGlobals "need_lengths" = some (some (.ref f3)))
    (l3 : K.lookup f3 = some ⟨oc3, od3, .func (PySem.W.fnOf "need_lengths" "need_lengths" (defArgs s_need_lengths) (defBody s_need_lengths) (defScope s_need_lengths) .none kV3 dc3 pm3 an3 cd3 ct3), sl3⟩)
    (c3 : PySem.W.codeIn K cd3 "need_lengths" = true) (k3 : PySem.W.keepIn K (.ref f3) = true)
    (a4 : PySem.W.nsIn K mainGlobals "common_divisor" = some (some (.ref f4)))
    (l4 : K.lookup f4 = some ⟨oc4, od4, .func (PySem.W.fnOf "common_divisor" "common_divisor" (defArgs s_common_divisor) (defBody s_common_divisor) (defScope s_common_divisor) .none kV4 dc4 pm4 an4 cd4 ct4), sl4⟩)
    (c4 : PySem.W.codeIn K cd4 "common_divisor" = true) (k4 : PySem.W.keepIn K (.ref f4) = true)
    (a5 : PySem.W.nsIn K mainGlobals "common_multiple" = some (some (.ref f5)))
    (l5 : K.lookup f5 = some ⟨oc5, od5, .func (PySem.W.fnOf "common_multiple" "common_multiple" (defArgs s_common_multiple) (defBody s_common_multiple) (defScope s_common_multiple) .none kV5 dc5 pm5 an5 cd5 ct5), sl5⟩)
    (c5 : PySem.W.codeIn K cd5 "common_multiple" = true) (k5 : PySem.W.keepIn K (.ref f5) = true)
    (a6 : PySem.W.nsIn K mainGlobals "check_meeting" = some (some (.ref f6)))
    (l6 : K.lookup f6 = some ⟨oc6, od6, .func (PySem.W.fnOf "check_meeting" "check_meeting" (defArgs s_check_meeting) (defBody s_check_meeting) (defScope s_check_meeting) .none kV6 dc6 pm6 an6 cd6 ct6), sl6⟩)
    (c6 : PySem.W.codeIn K cd6 "check_meeting" = true) (k6 : PySem.W.keepIn K (.ref f6) = true)
    (a7 : PySem.W.nsIn K mainGlobals "need_places" = some (some (.ref f7)))
    (l7 : K.lookup f7 = some ⟨oc7, od7, .func (PySem.W.fnOf "need_places" "need_places" (defArgs s_need_places) (defBody s_need_places) (defScope s_need_places) .none kV7 dc7 pm7 an7 cd7 ct7), sl7⟩)
    (c7 : PySem.W.codeIn K cd7 "need_places" = true) (k7 : PySem.W.keepIn K (.ref f7) = true)
    (a8 : PySem.W.nsIn K mainGlobals "never_meet" = some (some (.ref f8)))
    (l8 : K.lookup f8 = some ⟨oc8, od8, .func (PySem.W.fnOf "never_meet" "never_meet" (defArgs s_never_meet) (defBody s_never_meet) (defScope s_never_meet) .none kV8 dc8 pm8 an8 cd8 ct8), sl8⟩)
    (c8 : PySem.W.codeIn K cd8 "never_meet" = true) (k8 : PySem.W.keepIn K (.ref f8) = true)
    (a9 : PySem.W.nsIn K mainGlobals "is_first_meeting" = some (some (.ref f9)))
    (l9 : K.lookup f9 = some ⟨oc9, od9, .func (PySem.W.fnOf "is_first_meeting" "is_first_meeting" (defArgs s_is_first_meeting) (defBody s_is_first_meeting) (defScope s_is_first_meeting) .none kV9 dc9 pm9 an9 cd9 ct9), sl9⟩)
    (c9 : PySem.W.codeIn K cd9 "is_first_meeting" = true) (k9 : PySem.W.keepIn K (.ref f9) = true)
    (a10 : PySem.W.nsIn K mainGlobals "_law_begun" = some (some (.ref f10)))
    (l10 : K.lookup f10 = some ⟨oc10, od10, .func (PySem.W.fnOf "_law_begun" "_law_begun" (defArgs s__law_begun) (defBody s__law_begun) (defScope s__law_begun) .none kV10 dc10 pm10 an10 cd10 ct10), sl10⟩)
    (c10 : PySem.W.codeIn K cd10 "_law_begun" = true) (k10 : PySem.W.keepIn K (.ref f10) = true)
    (a11 : PySem.W.nsIn K mainGlobals "_law_next" = some (some (.ref f11)))
    (l11 : K.lookup f11 = some ⟨oc11, od11, .func (PySem.W.fnOf "_law_next" "_law_next" (defArgs s__law_next) (defBody s__law_next) (defScope s__law_next) .none kV11 dc11 pm11 an11 cd11 ct11), sl11⟩)
    (c11 : PySem.W.codeIn K cd11 "_law_next" = true) (k11 : PySem.W.keepIn K (.ref f11) = true)
    (a12 : PySem.W.nsIn K mainGlobals "_law_lengths" = some (some (.ref f12)))
    (l12 : K.lookup f12 = some ⟨oc12, od12, .func (PySem.W.fnOf "_law_lengths" "_law_lengths" (defArgs s__law_lengths) (defBody s__law_lengths) (defScope s__law_lengths) .none kV12 dc12 pm12 an12 cd12 ct12), sl12⟩)
    (c12 : PySem.W.codeIn K cd12 "_law_lengths" = true) (k12 : PySem.W.keepIn K (.ref f12) = true)
    (a13 : PySem.W.nsIn K mainGlobals "_law_common" = some (some (.ref f13)))
    (l13 : K.lookup f13 = some ⟨oc13, od13, .func (PySem.W.fnOf "_law_common" "_law_common" (defArgs s__law_common) (defBody s__law_common) (defScope s__law_common) .none kV13 dc13 pm13 an13 cd13 ct13), sl13⟩)
    (c13 : PySem.W.codeIn K cd13 "_law_common" = true) (k13 : PySem.W.keepIn K (.ref f13) = true)
    (a14 : PySem.W.nsIn K mainGlobals "_law_is_number" = some (some (.ref f14)))
    (l14 : K.lookup f14 = some ⟨oc14, od14, .func (PySem.W.fnOf "_law_is_number" "_law_is_number" (defArgs s__law_is_number) (defBody s__law_is_number) (defScope s__law_is_number) .none kV14 dc14 pm14 an14 cd14 ct14), sl14⟩)
    (c14 : PySem.W.codeIn K cd14 "_law_is_number" = true) (k14 : PySem.W.keepIn K (.ref f14) = true)
    (a15 : PySem.W.nsIn K mainGlobals "_law_round" = some (some (.ref f15)))
    (l15 : K.lookup f15 = some ⟨oc15, od15, .func (PySem.W.fnOf "_law_round" "_law_round" (defArgs s__law_round) (defBody s__law_round) (defScope s__law_round) .none kV15 dc15 pm15 an15 cd15 ct15), sl15⟩)
    (c15 : PySem.W.codeIn K cd15 "_law_round" = true) (k15 : PySem.W.keepIn K (.ref f15) = true)
    (a16 : PySem.W.nsIn K mainGlobals "_law_outcome" = some (some (.ref f16)))
    (l16 : K.lookup f16 = some ⟨oc16, od16, .func (PySem.W.fnOf "_law_outcome" "_law_outcome" (defArgs s__law_outcome) (defBody s__law_outcome) (defScope s__law_outcome) .none kV16 dc16 pm16 an16 cd16 ct16), sl16⟩)
    (c16 : PySem.W.codeIn K cd16 "_law_outcome" = true) (k16 : PySem.W.keepIn K (.ref f16) = true)
    (a17 : PySem.W.nsIn K mainGlobals "_law_is_stranger" = some (some (.ref f17)))
    (l17 : K.lookup f17 = some ⟨oc17, od17, .func (PySem.W.fnOf "_law_is_stranger" "_law_is_stranger" (defArgs s__law_is_stranger) (defBody s__law_is_stranger) (defScope s__law_is_stranger) .none kV17 dc17 pm17 an17 cd17 ct17), sl17⟩)
    (c17 : PySem.W.codeIn K cd17 "_law_is_stranger" = true) (k17 : PySem.W.keepIn K (.ref f17) = true)
    (a18 : PySem.W.nsIn K mainGlobals "_law_due" = some (some (.ref f18)))
    (l18 : K.lookup f18 = some ⟨oc18, od18, .func (PySem.W.fnOf "_law_due" "_law_due" (defArgs s__law_due) (defBody s__law_due) (defScope s__law_due) .none kV18 dc18 pm18 an18 cd18 ct18), sl18⟩)
    (c18 : PySem.W.codeIn K cd18 "_law_due" = true) (k18 : PySem.W.keepIn K (.ref f18) = true)
    (a19 : PySem.W.nsIn K mainGlobals "law" = some (some (.ref f19)))
    (l19 : K.lookup f19 = some ⟨oc19, od19, .func (PySem.W.fnOf "law" "law" (defArgs s_law) (defBody s_law) (defScope s_law) .none kV19 dc19 pm19 an19 cd19 ct19), sl19⟩)
    (c19 : PySem.W.codeIn K cd19 "law" = true) (k19 : PySem.W.keepIn K (.ref f19) = true)
    {C_BadPaper f_BadPaper N_BadPaper : Addr} {nm_BadPaper q_BadPaper : Str} {bs_BadPaper sub_BadPaper : List Value} {sn_BadPaper : List Str} {ab_BadPaper : Bool} {col_BadPaper : Option Bool} {dd_BadPaper od_BadPaper an_BadPaper : Option Addr} {m0_BadPaper m1_BadPaper m2_BadPaper m3_BadPaper m5_BadPaper : Option Value}
    {sl_BadPaper : Array (Option Value)} {oc_BadPaper kV_BadPaper dc_BadPaper pm_BadPaper cd_BadPaper ct_BadPaper : Value}
    (aC_BadPaper : PySem.W.nsIn K mainGlobals "BadPaper" = some (some (.ref C_BadPaper)))
    (xL_BadPaper : K.lookup C_BadPaper = some (excClassObj nm_BadPaper q_BadPaper C_BadPaper N_BadPaper bs_BadPaper [.type "ValueError", .type "Exception", .type "BaseException", .type "object"] true sn_BadPaper sub_BadPaper ab_BadPaper col_BadPaper dd_BadPaper m0_BadPaper m1_BadPaper m2_BadPaper m3_BadPaper m5_BadPaper "ValueError.__new__"))
    (sa_BadPaper : PySem.W.findIn K (.ref C_BadPaper) "__setattr__" = some (some (.builtin "object.__setattr__")))
    (ga_BadPaper : PySem.W.findIn K (.ref C_BadPaper) "__getattribute__" = some (some (.builtin "BaseException.__getattribute__")))
    (gg_BadPaper : PySem.W.findIn K (.ref C_BadPaper) "__getattr__" = some none)
    (nb_BadPaper : PySem.W.findIn K (.ref C_BadPaper) "part" = some none)
    (ai_BadPaper : PySem.W.findIn K (.ref C_BadPaper) "__init__" = some (some (.ref f_BadPaper)))
    (ti_BadPaper : PySem.W.typeIn K (.ref f_BadPaper) = some (.type "function"))
    (kC_BadPaper : PySem.W.keepIn K (.ref C_BadPaper) = true)
    (eC_BadPaper : PySem.W.subIn K (.ref C_BadPaper) (.type "BaseException") = some true)
    (tC_BadPaper : PySem.W.typeIn K (.ref C_BadPaper) = some (.type "type"))
    (hC_BadPaper : PySem.W.hasDictIn K C_BadPaper = true)
    (iC_BadPaper : PySem.W.isClsIn K C_BadPaper = true)
    (sC_BadPaper : PySem.W.subIn K (.ref C_BadPaper) (.ref C_BadPaper) = some true)
    (ki_BadPaper : PySem.W.keepIn K (.ref f_BadPaper) = true)
    (li_BadPaper : K.lookup f_BadPaper = some ⟨oc_BadPaper, od_BadPaper, .func (PySem.W.fnOf "__init__" "BadPaper.__init__" (defArgs s_BadPaper_init) (defBody s_BadPaper_init) (defScope s_BadPaper_init) .none kV_BadPaper dc_BadPaper pm_BadPaper an_BadPaper cd_BadPaper ct_BadPaper), sl_BadPaper⟩)
    (ci_BadPaper : PySem.W.codeIn K cd_BadPaper "BadPaper.__init__" = true)
    (z_ValueError : PySem.W.nsIn K mainGlobals "ValueError" = some none)
    (v_ValueError : PySem.W.findCls K (.type "ValueError") (.type "type") "__init__" = some (.val (.builtin "ValueError.__init__")))
    (z_isinstance : PySem.W.nsIn K mainGlobals "isinstance" = some none)
    (z_int : PySem.W.nsIn K mainGlobals "int" = some none)
    (z_bool : PySem.W.nsIn K mainGlobals "bool" = some none)
    (z_all : PySem.W.nsIn K mainGlobals "all" = some none)
    (z_tuple : PySem.W.nsIn K mainGlobals "tuple" = some none)
    (z_len : PySem.W.nsIn K mainGlobals "len" = some none)
    (z_str : PySem.W.nsIn K mainGlobals "str" = some none)
    (z_enumerate : PySem.W.nsIn K mainGlobals "enumerate" = some none)
    (z_zip : PySem.W.nsIn K mainGlobals "zip" = some none)
    (z_list : PySem.W.nsIn K mainGlobals "list" = some none)
    (z_range : PySem.W.nsIn K mainGlobals "range" = some none)
    (z_min : PySem.W.nsIn K mainGlobals "min" = some none)
    (z_repr : PySem.W.nsIn K mainGlobals "repr" = some none)
    (g_MOST_LENGTHS : PySem.W.nsIn K mainGlobals "MOST_LENGTHS" = some (some (.int 6 tk_MOST_LENGTHS)))
    (g_MOST_LENGTH : PySem.W.nsIn K mainGlobals "MOST_LENGTH" = some (some (.int 64 tk_MOST_LENGTH)))
    : ∃ fd : FuncData, (∀ (s : Shared) (v : Value), BindsTo s fd ⟨[v], []⟩ [("script", v)]) ∧
      ∀ base : Heap, K.In base → base.Ns mainGlobals mg → FnG P w K mg base 6 fa fd ["script"] (sp_law K) := by
  have e := hfa.symm.trans (PySem.W.mg_of X G a19)
  cases e
  have F0 := fun_mk (st := s_is_whole) l0 c0 k0
  have b0 := F0.binds (ps := ["thing"]) fun _ _ _ _ _ _ us hl => match us, hl with | [_], _ => rfl
  have F1 := fun_mk (st := s_are_samples) l1 c1 k1
  have b1 := F1.binds (ps := ["thing", "many"]) fun _ _ _ _ _ _ us hl => match us, hl with | [_, _], _ => rfl
  have F2 := fun_mk (st := s_begins) l2 c2 k2
  have b2 := F2.binds (ps := ["paper", "word", "many"]) fun _ _ _ _ _ _ us hl => match us, hl with | [_, _, _], _ => rfl
  have F3 := fun_mk (st := s_need_lengths) l3 c3 k3
  have b3 := F3.binds (ps := ["thing"]) fun _ _ _ _ _ _ us hl => match us, hl with | [_], _ => rfl
  have F4 := fun_mk (st := s_common_divisor) l4 c4 k4
  have b4 := F4.binds (ps := ["one", "other"]) fun _ _ _ _ _ _ us hl => match us, hl with | [_, _], _ => rfl
  have F5 := fun_mk (st := s_common_multiple) l5 c5 k5
  have b5 := F5.binds (ps := ["lengths"]) fun _ _ _ _ _ _ us hl => match us, hl with | [_], _ => rfl
  have F6 := fun_mk (st := s_check_meeting) l6 c6 k6
  have b6 := F6.binds (ps := ["lengths", "places", "paper"]) fun _ _ _ _ _ _ us hl => match us, hl with | [_, _, _], _ => rfl
  have F7 := fun_mk (st := s_need_places) l7 c7 k7
  have b7 := F7.binds (ps := ["lengths", "places"]) fun _ _ _ _ _ _ us hl => match us, hl with | [_, _], _ => rfl
  have F8 := fun_mk (st := s_never_meet) l8 c8 k8
  have b8 := F8.binds (ps := ["lengths", "places", "one", "other"]) fun _ _ _ _ _ _ us hl => match us, hl with | [_, _, _, _], _ => rfl
  have F9 := fun_mk (st := s_is_first_meeting) l9 c9 k9
  have b9 := F9.binds (ps := ["lengths", "places", "tick"]) fun _ _ _ _ _ _ us hl => match us, hl with | [_, _, _], _ => rfl
  have F10 := fun_mk (st := s__law_begun) l10 c10 k10
  have b10 := F10.binds (ps := ["script"]) fun _ _ _ _ _ _ us hl => match us, hl with | [_], _ => rfl
  have F11 := fun_mk (st := s__law_next) l11 c11 k11
  have b11 := F11.binds (ps := ["m", "many"]) fun _ _ _ _ _ _ us hl => match us, hl with | [_, _], _ => rfl
  have F12 := fun_mk (st := s__law_lengths) l12 c12 k12
  have b12 := F12.binds (ps := ["m", "many", "most"]) fun _ _ _ _ _ _ us hl => match us, hl with | [_, _, _], _ => rfl
  have F13 := fun_mk (st := s__law_common) l13 c13 k13
  have b13 := F13.binds (ps := ["one", "other"]) fun _ _ _ _ _ _ us hl => match us, hl with | [_, _], _ => rfl
  have F14 := fun_mk (st := s__law_is_number) l14 c14 k14
  have b14 := F14.binds (ps := ["thing"]) fun _ _ _ _ _ _ us hl => match us, hl with | [_], _ => rfl
  have F15 := fun_mk (st := s__law_round) l15 c15 k15
  have b15 := F15.binds (ps := ["lengths"]) fun _ _ _ _ _ _ us hl => match us, hl with | [_], _ => rfl
  have F16 := fun_mk (st := s__law_outcome) l16 c16 k16
  have b16 := F16.binds (ps := ["lengths", "places", "paper"]) fun _ _ _ _ _ _ us hl => match us, hl with | [_, _, _], _ => rfl
  have F17 := fun_mk (st := s__law_is_stranger) l17 c17 k17
  have b17 := F17.binds (ps := ["lengths", "places", "one", "other"]) fun _ _ _ _ _ _ us hl => match us, hl with | [_, _, _, _], _ => rfl
  have F18 := fun_mk (st := s__law_due) l18 c18 k18
  have b18 := F18.binds (ps := ["lengths", "places", "paper"]) fun _ _ _ _ _ _ us hl => match us, hl with | [_, _, _], _ => rfl
  have F19 := fun_mk (st := s_law) l19 c19 k19
  have b19 := F19.binds (ps := ["script"]) fun _ _ _ _ _ _ us hl => match us, hl with | [_], _ => rfl
  have Fi_BadPaper := fun_mk (st := s_BadPaper_init) li_BadPaper ci_BadPaper ki_BadPaper
  have bi_BadPaper := Fi_BadPaper.binds (ps := ["self", "part"]) fun _ _ _ _ _ _ us hl => match us, hl with | [_, _], _ => rfl
  refine ⟨PySem.W.fnOf "law" "law" (defArgs s_law) (defBody s_law) (defScope s_law) .none kV19 dc19 pm19 an19 cd19 ct19, fun s v => .of_eq rfl, fun base _ _ => ?_⟩
  let T : Top K mg := {
      a_is_whole := f0
      d_is_whole := _
      F_is_whole := F0
      m_is_whole := PySem.W.mg_of X G a0
      b_is_whole := b0
      a_are_samples := f1
      d_are_samples := _
      F_are_samples := F1
      m_are_samples := PySem.W.mg_of X G a1
      b_are_samples := b1
      a_begins := f2
      d_begins := _
      F_begins := F2
      m_begins := PySem.W.mg_of X G a2
      b_begins := b2
      a_need_lengths := f3
      d_need_lengths := _
      F_need_lengths := F3
      m_need_lengths := PySem.W.mg_of X G a3
      b_need_lengths := b3
      a_common_divisor := f4
      d_common_divisor := _
      F_common_divisor := F4
      m_common_divisor := PySem.W.mg_of X G a4
      b_common_divisor := b4
      a_common_multiple := f5
      d_common_multiple := _
      F_common_multiple := F5
      m_common_multiple := PySem.W.mg_of X G a5
      b_common_multiple := b5
      a_check_meeting := f6
      d_check_meeting := _
      F_check_meeting := F6
      m_check_meeting := PySem.W.mg_of X G a6
      b_check_meeting := b6
      a_need_places := f7
      d_need_places := _
      F_need_places := F7
      m_need_places := PySem.W.mg_of X G a7
      b_need_places := b7
      a_never_meet := f8
      d_never_meet := _
      F_never_meet := F8
      m_never_meet := PySem.W.mg_of X G a8
      b_never_meet := b8
      a_is_first_meeting := f9
      d_is_first_meeting := _
      F_is_first_meeting := F9
      m_is_first_meeting := PySem.W.mg_of X G a9
      b_is_first_meeting := b9
      a__law_begun := f10
      d__law_begun := _
      F__law_begun := F10
      m__law_begun := PySem.W.mg_of X G a10
      b__law_begun := b10
      a__law_next := f11
      d__law_next := _
      F__law_next := F11
      m__law_next := PySem.W.mg_of X G a11
      b__law_next := b11
      a__law_lengths := f12
      d__law_lengths := _
      F__law_lengths := F12
      m__law_lengths := PySem.W.mg_of X G a12
      b__law_lengths := b12
      a__law_common := f13
      d__law_common := _
      F__law_common := F13
      m__law_common := PySem.W.mg_of X G a13
      b__law_common := b13
      a__law_is_number := f14
      d__law_is_number := _
      F__law_is_number := F14
      m__law_is_number := PySem.W.mg_of X G a14
      b__law_is_number := b14
      a__law_round := f15
      d__law_round := _
      F__law_round := F15
      m__law_round := PySem.W.mg_of X G a15
      b__law_round := b15
      a__law_outcome := f16
      d__law_outcome := _
      F__law_outcome := F16
      m__law_outcome := PySem.W.mg_of X G a16
      b__law_outcome := b16
      a__law_is_stranger := f17
      d__law_is_stranger := _
      F__law_is_stranger := F17
      m__law_is_stranger := PySem.W.mg_of X G a17
      b__law_is_stranger := b17
      a__law_due := f18
      d__law_due := _
      F__law_due := F18
      m__law_due := PySem.W.mg_of X G a18
      b__law_due := b18
      a_law := fa
      d_law := _
      F_law := F19
      m_law := PySem.W.mg_of X G a19
      b_law := b19
      x_BadPaper := exc_mk X G Fi_BadPaper bi_BadPaper aC_BadPaper xL_BadPaper sa_BadPaper ga_BadPaper gg_BadPaper nb_BadPaper ai_BadPaper ti_BadPaper kC_BadPaper eC_BadPaper tC_BadPaper hC_BadPaper iC_BadPaper sC_BadPaper
      z_ValueError := PySem.W.mg_none_of X G z_ValueError
      v_ValueError := v_ValueError
      z_isinstance := PySem.W.mg_none_of X G z_isinstance
      z_int := PySem.W.mg_none_of X G z_int
      z_bool := PySem.W.mg_none_of X G z_bool
      z_all := PySem.W.mg_none_of X G z_all
      z_tuple := PySem.W.mg_none_of X G z_tuple
      z_len := PySem.W.mg_none_of X G z_len
      z_str := PySem.W.mg_none_of X G z_str
      z_enumerate := PySem.W.mg_none_of X G z_enumerate
      z_zip := PySem.W.mg_none_of X G z_zip
      z_list := PySem.W.mg_none_of X G z_list
      z_range := PySem.W.mg_none_of X G z_range
      z_min := PySem.W.mg_none_of X G z_min
      z_repr := PySem.W.mg_none_of X G z_repr
      t_MOST_LENGTHS := tk_MOST_LENGTHS
      c_MOST_LENGTHS := PySem.W.mg_of X G g_MOST_LENGTHS
      t_MOST_LENGTH := tk_MOST_LENGTH
      c_MOST_LENGTH := PySem.W.mg_of X G g_MOST_LENGTH }
  exact ok_law T
end My
open PySem PySem.W PyProof.Rows
set_option maxRecDepth 100000 in
set_option maxHeartbeats 0 in
theorem PySem.Challenge.cw_pedalrounds_k23_whole_meetings_judged_holds : PySem.Challenge.rw_pedalrounds_k23_whole_meetings_judged.Holds := by
  w_on; o_law; k_head; (case hw => w_witness2)
  k_fill
  refine L2.my_walk (l := PySem.Challenge.rw_pedalrounds_k23_whole_meetings_judged) (k := 6) (sp := My.sp_law) rfl rfl ⟨rfl, by decide, by decide⟩ (fun w h Y => PySem.W.kIn_of Y) ?F (fun K H a ns hl hS => ⟨a, ns, rfl, hS, hl, fun _ => rfl⟩)
  case F =>
    intro w mg fa h KX G hmg
    refine' My.all_mk KX G hmg ?a0 ?l0 ?c0 ?k0 ?a1 ?l1 ?c1 ?k1 ?a2 ?l2 ?c2 ?k2 ?a3 ?l3 ?c3 ?k3 ?a4 ?l4 ?c4 ?k4 ?a5 ?l5 ?c5 ?k5 ?a6 ?l6 ?c6 ?k6 ?a7 ?l7 ?c7 ?k7 ?a8 ?l8 ?c8 ?k8 ?a9 ?l9 ?c9 ?k9 ?a10 ?l10 ?c10 ?k10 ?a11 ?l11 ?c11 ?k11 ?a12 ?l12 ?c12 ?k12 ?a13 ?l13 ?c13 ?k13 ?a14 ?l14 ?c14 ?k14 ?a15 ?l15 ?c15 ?k15 ?a16 ?l16 ?c16 ?k16 ?a17 ?l17 ?c17 ?k17 ?a18 ?l18 ?c18 ?k18 ?a19 ?l19 ?c19 ?k19 ?aC_BadPaper ?xL_BadPaper ?sa_BadPaper ?ga_BadPaper ?gg_BadPaper ?nb_BadPaper ?ai_BadPaper ?ti_BadPaper ?kC_BadPaper ?eC_BadPaper ?tC_BadPaper ?hC_BadPaper ?iC_BadPaper ?sC_BadPaper ?ki_BadPaper ?li_BadPaper ?ci_BadPaper ?z_ValueError ?v_ValueError ?z_isinstance ?z_int ?z_bool ?z_all ?z_tuple ?z_len ?z_str ?z_enumerate ?z_zip ?z_list ?z_range ?z_min ?z_repr ?g_MOST_LENGTHS ?g_MOST_LENGTH
    (case a0 => k_is)
    (case l0 => k_is)
    (case c0 => k_is)
    (case k0 => k_is)
    (case a1 => k_is)
    (case l1 => k_is)
    (case c1 => k_is)
    (case k1 => k_is)
    (case a2 => k_is)
    (case l2 => k_is)
    (case c2 => k_is)
    (case k2 => k_is)
    (case a3 => k_is)
    (case l3 => k_is)
    (case c3 => k_is)
    (case k3 => k_is)
    (case a4 => k_is)
    (case l4 => k_is)
    (case c4 => k_is)
    (case k4 => k_is)
    (case a5 => k_is)
    (case l5 => k_is)
    (case c5 => k_is)
    (case k5 => k_is)
    (case a6 => k_is)
    (case l6 => k_is)
    (case c6 => k_is)
    (case k6 => k_is)
    (case a7 => k_is)
    (case l7 => k_is)
    (case c7 => k_is)
    (case k7 => k_is)
    (case a8 => k_is)
    (case l8 => k_is)
    (case c8 => k_is)
    (case k8 => k_is)
    (case a9 => k_is)
    (case l9 => k_is)
    (case c9 => k_is)
    (case k9 => k_is)
    (case a10 => k_is)
    (case l10 => k_is)
    (case c10 => k_is)
    (case k10 => k_is)
    (case a11 => k_is)
    (case l11 => k_is)
    (case c11 => k_is)
    (case k11 => k_is)
    (case a12 => k_is)
    (case l12 => k_is)
    (case c12 => k_is)
    (case k12 => k_is)
    (case a13 => k_is)
    (case l13 => k_is)
    (case c13 => k_is)
    (case k13 => k_is)
    (case a14 => k_is)
    (case l14 => k_is)
    (case c14 => k_is)
    (case k14 => k_is)
    (case a15 => k_is)
    (case l15 => k_is)
    (case c15 => k_is)
    (case k15 => k_is)
    (case a16 => k_is)
    (case l16 => k_is)
    (case c16 => k_is)
    (case k16 => k_is)
    (case a17 => k_is)
    (case l17 => k_is)
    (case c17 => k_is)
    (case k17 => k_is)
    (case a18 => k_is)
    (case l18 => k_is)
    (case c18 => k_is)
    (case k18 => k_is)
    (case a19 => k_is)
    (case l19 => k_is)
    (case c19 => k_is)
    (case k19 => k_is)
    (case aC_BadPaper => k_is)
    (case xL_BadPaper => k_is)
    (case sa_BadPaper => k_is)
    (case ga_BadPaper => k_is)
    (case gg_BadPaper => k_is)
    (case nb_BadPaper => k_is)
    (case ai_BadPaper => k_is)
    (case ti_BadPaper => k_is)
    (case kC_BadPaper => k_is)
    (case eC_BadPaper => k_is)
    (case tC_BadPaper => k_is)
    (case hC_BadPaper => k_is)
    (case iC_BadPaper => k_is)
    (case sC_BadPaper => first | rfl | k_is)
    (case ki_BadPaper => k_is)
    (case li_BadPaper => k_is)
    (case ci_BadPaper => k_is)
    (case z_ValueError => k_is)
    (case v_ValueError => k_is)
    (case z_isinstance => k_is)
    (case z_int => k_is)
    (case z_bool => k_is)
    (case z_all => k_is)
    (case z_tuple => k_is)
    (case z_len => k_is)
    (case z_str => k_is)
    (case z_enumerate => k_is)
    (case z_zip => k_is)
    (case z_list => k_is)
    (case z_range => k_is)
    (case z_min => k_is)
    (case z_repr => k_is)
    (case g_MOST_LENGTHS => k_is)
    (case g_MOST_LENGTH => k_is)

