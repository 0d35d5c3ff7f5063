import PyProof.Rows.All
import Wide.All
import OpenK.AllK
import Wide.FinOn
import HandS.ForMost
import HandS.TupMul
import HandS.TupAny
import HandS.SetFor
import HandS.Walk
import HandS.EndBits
import KE.GoesEnum
import PyProof.ReprRoads
import HandS.Zip
import HandS.NoneIn
import HandS.IsInst
import HandS.Strs
import HandS.Conv
import PyProof.ListNew
import PyProof.Rows.CountFlat
import HandS.More
import KE.DataMinMax
import HandS.Star
import HandS.SortRule
import HandS.NamedTupSort
import HandS.TupLe
import KE.KSortTup
import KE.SortData
import HandS.CallLocal
import KE.KDictDisplayH
import HandS.Style
import HandS.Dict
import KE.KExcIs
import HandS.Exc
import HandS.ExcIs
import HandS.ExcInit
import HandS.ExcField
import HandS.ExcOwn
import HandS.WordsExc
import HandS.RaiseMore
import HandS.DictComp
import HandS.FStr
import PyProof.StrLaws
import PyProof.StrLawsRepr
import HandS.Text
import KE.KCallOwn
import HandS.Call
import HandS.List
import HandS.Defaults
import HandS.MakeKwOnly
import HandS.CallSlots
import PyProof.InstStoreFacts
import PyProof.ExcBaseAll.LookupError
import HandS.Base
import HandS.Words
import HandS.Nested
import HandS.ClsMeth
import KE.KSuper
import HandS.HeadHook3
import PySem.Challenge.RW_pressrelease_k64_shell_queries
set_option Elab.async false
set_option linter.all false
set_option maxRecDepth 100000
set_option maxHeartbeats 4000000
namespace Pr
open PySem PySem.Spec PyProof.Rows L2
structure FnG (P : Program) (w : World) (K : PySem.W.Frag) (mg : Str → Option Value) (base : Heap) (k : Nat) (f : Addr) (fd : FuncData) (ps : List Str) (sp : Sp) : Prop where
  len : ∀ vs H Q E, sp vs H Q E → vs.length = ps.length
  go : ∀ (A : Around) (outer : List Env) (s : Shared) (H : Hp) (args : Args) (us : List Value) (vs : List V) (Q : VK) (E : XK), A.guards = some [] → Room k A →
    Env0 P w K mg base A outer s H → BindsTo s fd args (ps.zip us) → Vals vs us → sp vs H Q E →
    codeAny (model P w) A (.call (.ref f) args) (CR CX0 outer P w H s Q E) s
section
variable {P : Program} {w : World} {K : PySem.W.Frag} {mg : Str → Option Value} {base : Heap}
theorem FnG.of {k : Nat} {f : Addr} {fd : FuncData} {ps : List Str} {sp : Sp} (F : FnOk P w K mg base CX0 k f fd ps sp) : FnG P w K mg base k f fd ps sp :=
  ⟨F.len, fun A outer s H args us vs Q E _ hr => F.run A outer s H args us vs Q E hr⟩
end
theorem lawG {P : Program} {w : World} {K : PySem.W.Frag} {mg mb : Str → Option Value} {k : Nat} {fa a : Addr} {fd : FuncData} {x : Str} {sp : Sp} {s1 : Shared} {vs : List Value} {ns : List Int}
    (kin : K.In s1.heap) (nsg : s1.heap.Ns mainGlobals mg) (nsb : s1.heap.Ns builtinsNs mb) (bb : ∀ y : Str, y ≠ "__name__" → mb y = bootBuiltins y) (lim : s1.heap.NoLimit) (g0 : s1.gens = #[])
    (la : s1.heap.get? a = some { cls := .type "list", data := .seq vs.toArray }) (hints : IntsAre vs ns) (few : ns.length ≤ sizeLine) (rm : Room k callerA)
    (F : ∀ base : Heap, K.In base → base.Ns mainGlobals mg → FnG P w K mg base k fa fd [x] sp) (bd : ∀ (s : Shared) (u : Value), BindsTo s fd ⟨[u], []⟩ [(x, u)])
    (wish : ∀ H : Hp, Only H → SqL K H a (ns.map V.int) → sp [.ref a] H (fun v _ => v = .bl true) E0) :
    codeAny (model P w) callerA (.call (.ref fa) ⟨[.ref a], []⟩) (fun r s' => r = .ok (.ret (.bool true)) ∧ OldK s1.heap s'.heap ∧ s'.os = s1.os ∧ AllBare s'.gens) s1 := by
  have rv := vals_ints hints
  have lv := hints.length
  have main : ∀ H : Hp, Only H → SqL K H a (ns.map V.int) → HOk P w H s1.heap → (∀ b, H b ≠ none → b = a) → (H a ≠ none → K.lookup a = none) →
      codeAny (model P w) callerA (.call (.ref fa) ⟨[.ref a], []⟩) (fun r s' => r = .ok (.ret (.bool true)) ∧ OldK s1.heap s'.heap ∧ s'.os = s1.os ∧ AllBare s'.gens) s1 := by
    intro H hO hS hok hA hK
    have out : ∀ {b : Addr} {o : Obj} {es : Array DictEntry} {ep : Nat}, s1.heap.get? b = some o → o.data = .dict es ep → H b = none := fun {b o es ep} e d => by
      cases q : H b with
      | none => rfl
      | some u =>
        obtain rfl : b = a := hA b (by rw [q]; simp)
        rw [la] at e; cases e
        exact nomatch (show Data.seq vs.toArray _ = Data.dict es ep from d)
    have nsH : ∀ {b : Addr} {m : Str → Option Value}, s1.heap.Ns b m → (hidT s1.heap H).Ns b m := fun {b m} ⟨o, es, ep, e, d, r⟩ => ⟨o, es, ep, hidT_get e (out e d), d, r⟩
    have kinH : K.In (hidT s1.heap H) := fun b o e => hidT_get (kin b o e) (by
      cases q : H b with
      | none => rfl
      | some u =>
        obtain rfl : b = a := hA b (by rw [q]; simp)
        rw [hK (by rw [q]; simp)] at e; cases e)
    have md : Mod K mg (hidT s1.heap H) := ⟨kinH, nsH nsg, ⟨mb, nsH nsb, bb⟩, let ⟨mc, h1, h2⟩ := lim; ⟨mc, nsH h1, h2⟩⟩
    have e0 : Env0 P w K mg (hidT s1.heap H) callerA [] s1 H :=
      ⟨rfl, md, fun b o e => of_hidT e, Nat.le_of_eq (hidT_size _ _), trivial, fun b hb => absurd (show b ∈ ([] : List Addr) from hb) (by simp), hok, .of_eq g0⟩
    refine codeAny_mono ((F _ kinH (nsH nsg)).go callerA [] s1 H ⟨[.ref a], []⟩ [.ref a] [.ref a] _ _ rfl rm e0 (bd s1 (.ref a)) (.cons rfl .nil) (wish H hO hS)) fun r s' h => ?_
    cases r with
    | error e => exact h.elim
    | ok fl =>
      cases fl with
      | next => exact h.elim
      | brk => exact h.elim
      | cont => exact h.elim
      | ret u =>
        obtain ⟨v, H', os, bare, un, hok', r', q⟩ := h
        obtain rfl : v = .bl true := q
        obtain rfl : u = Value.bool true := r'
        refine ⟨rfl, OldK.of_keep fun b o e => ?_, os, bare⟩
        rcases hO b with z | ⟨ob, xs, z⟩
        · exact un.keep b o e z (fun y => absurd (show b ∈ ([] : List Addr) from y) (by simp)) (by simp)
        · have e1 := (hok b _ z).1
          rw [e] at e1; cases e1
          exact (hok' b _ (un.frzs b o _ z)).1
  cases hk : K.lookup a with
  | some o =>
    have e := kin a o hk
    rw [la] at e
    cases e
    exact main (fun _ => none) (fun _ => .inl rfl) (.inr ⟨_, vs.toArray, _, hk, rfl, rfl, rfl, by rw [List.size_toArray, lv]; exact few, by simpa using rv⟩)
      (fun b u z => nomatch (show (none : Option HO) = some u from z)) (fun b z => absurd rfl z) fun z => absurd rfl z
  | none =>
    refine main (upd (fun _ => none) a (.frz { cls := .type "list", data := .seq vs.toArray } (.lst (ns.map V.int)))) (fun b => ?_) (.inl (.inr ⟨_, upd_same⟩)) (fun b u z => ?_) (fun b z => ?_) fun _ => hk
    · by_cases hb : b = a
      · subst hb; exact .inr ⟨_, _, upd_same⟩
      · exact .inl (upd_ne hb)
    · by_cases hb : b = a
      · subst hb
        rw [upd_same] at z
        cases z
        exact ⟨la, by rw [List.length_map]; exact few, vs, _, rv, la⟩
      · rw [upd_ne hb] at z; cases z
    · by_cases hb : b = a
      · exact hb
      · exact absurd (upd_ne hb) z
/-- the goal that k_head leaves, from the law's promise -/
theorem walkG {l : PySem.W.OpenLaw} {n k : Nat} {q : Program} {loose : List Str} {XP : (Str → Option Value) → Heap → Prop} {YP : World → Heap → Prop} {d : DefRec} {K : Params → PySem.W.Frag} {sp : PySem.W.Frag → Sp} {x : Str}
    (hn : l.most = some n) (hn2 : n ≤ sizeLine) (hdf : d.params.defaults = []) (hr : Room k callerA) (hY : ∀ (w : World) (h : Heap), YP w h → (K w.params).In h)
    (F : ∀ (w : World) (mg : Str → Option Value) (fa : Addr) (h : Heap), (K w.params).In h → h.Ns mainGlobals mg → mg d.name = some (.ref fa) →
      ∃ fd : FuncData, (∀ (s : Shared) (u : Value), BindsTo s fd ⟨[u], []⟩ [(x, u)]) ∧ ∀ base : Heap, (K w.params).In base → base.Ns mainGlobals mg → FnG l.prog w (K w.params) mg base k fa fd [x] (sp (K w.params)))
    (hsp : ∀ (K : PySem.W.Frag) (H : Hp) (a : Addr) (ns : List Int), ns.length ≤ n → (∀ z ∈ ns, Builtin.Int.intBits z ≤ 1048576) → Only H → SqL K H a (ns.map V.int) → sp K [.ref a] H (fun v _ => v = .bl true) E0) :
    PySem.W.WalkO q loose XP YP l.row.toRowW d [] (fun f vs => PySem.call f vs) := by
  refine Att.attach_callB hn hdf fun w s0 s1 mg mb fa o pm cd doc a vs ns G Y ho hd hcd hmg hobj hints hlen hbits hg => ?_
  obtain ⟨fd, hb, hF⟩ := F w mg fa _ (hY w _ Y) G.T.g hmg
  exact lawG (hY w _ Y) G.T.g G.T.b G.T.builtins G.T.nolimit hg hobj hints (Nat.le_trans hlen hn2) hr hF hb fun H hO hS => hsp (K w.params) H a ns hlen hbits hO hS
end Pr
namespace Pr
open PySem PySem.Spec PyProof.Rows L2
/-- a tuple of which it is known that it has no attributes of its own -/
def FT (H : Hp) (a : Addr) (xs : List V) : Prop := ∃ o : Obj, H a = some (.frz o (.tup xs)) ∧ o.dict = none
theorem FT.sq {K : PySem.W.Frag} {H : Hp} {a : Addr} {xs : List V} (h : FT H a xs) : SqT K H a xs := let ⟨o, e, _⟩ := h; .inl (.inr ⟨o, e⟩)
theorem FT.same {H H' : Hp} {a : Addr} {xs : List V} (e : Same H H') (h : FT H a xs) : FT H' a xs := let ⟨o, q, z⟩ := h; ⟨o, e _ _ q, z⟩
theorem same_sqT {K : PySem.W.Frag} {H H' : Hp} {a : Addr} {xs : List V} (e : Same H H') (h : SqT K H a xs) : SqT K H' a xs := by
  rcases h with (h | ⟨o, h⟩) | h
  · exact .inl (.inl (e _ _ h))
  · exact .inl (.inr ⟨o, e _ _ h⟩)
  · exact .inr h
section
variable {X : Cx}
def rTupF (K : PySem.W.Frag) : List V → Hp → VK → Prop := fun xs H Q => ∃ p ys, xs = [.ref p] ∧ SqL K H p ys ∧ ∀ l o, H l = none → o.dict = none → Q (.ref l) (upd H l (.frz o (.tup ys)))
theorem call_tupF : CallR X (.type "tuple") (rTupF X.K) := by
  intro pins s σ H xs us Q I r h
  obtain ⟨p, ys, rfl, hq, q⟩ := h
  obtain ⟨u, rfl, rx⟩ := vals1 r
  cases rx
  obtain ⟨its, r', pl, hz⟩ := I.list hq
  have hlen := r'.length
  refine call_tuple_list pl.isList (fun h' kp => ?_) (by simp only [List.size_toArray] <;> omega)
  have I1 : Inv X pins σ H { s with heap := h' } := I.kept (t' := s.toks) kp
  have I2 := I1.laid (t' := s.toks) (h' := h'.push { cls := .type "tuple", data := .seq its.toArray }) (a := h'.objs.size)
    (o := .frz { cls := .type "tuple", data := .seq its.toArray } (.tup ys)) (fun b o e => Heap.get?_push_of_some _ e) (Nat.le_refl _) ⟨Heap.get?_push_size _ rfl, hz, its, r', IsTup.new _ _⟩
  exact ⟨.ref h'.objs.size, _, I2, rfl, q _ _ (I1.hok.fresh (Nat.le_refl _)) rfl⟩
end
theorem tup_mul0 (l : Addr) (y : Value) (n : Nat) (dd : Option Addr) (sl : Array (Option Value)) (u : Tok) :
    Meets (Builtin.«tuple.__mul__» ⟨[.ref l, .int 0 u], []⟩) (fun _ R s => s.heap.get? l = some { cls := .type "tuple", dict := dd, data := .seq #[y] n, slots := sl } ∧
      R (.ok (.ret (Value.ref s.heap.objs.size))) { s with heap := s.heap.push { cls := Value.type "tuple", data := Data.seq #[] }, toks := s.toks }) :=
  .of_wp fun prog w A R s h => by
    obtain ⟨hp, g, d, tk, os⟩ := s
    obtain ⟨hl, h⟩ := h
    have f1 := AutoSeq1.idx_int
    wp_walk using AutoSeq1.wpAny_loadPart' hl
    exact ⟨_, rfl, h⟩
theorem tup_mul1 (l : Addr) (y : Value) (n : Nat) (dd : Option Addr) (sl : Array (Option Value)) (u : Tok) :
    Meets (Builtin.«tuple.__mul__» ⟨[.ref l, .int 1 u], []⟩) (fun _ R s => s.heap.get? l = some { cls := .type "tuple", dict := dd, data := .seq #[y] n, slots := sl } ∧ R (.ok (.ret (.ref l))) s) :=
  .of_wp fun prog w A R s h => by
    obtain ⟨hp, g, d, tk, os⟩ := s
    obtain ⟨hl, h⟩ := h
    have f1 := AutoSeq1.idx_int
    wp_walk using AutoSeq1.wpAny_loadPart' hl
    exact ⟨_, rfl, h⟩
section
variable {X : Cx}
def rRep1 (K : PySem.W.Frag) : R2 := fun x y H Q => ∃ l v, x = .ref l ∧ SqT K H l [v] ∧ ((y = .int 1 ∧ Q (.ref l) H) ∨ (y = .int 0 ∧ ∀ p, H p = none → Q (.ref p) (upd H p (.tup []))))
theorem op_rep1 : OpR X (binaryOp .Mult) (rRep1 X.K) := by
  intro pins s σ H x y v u Q I rx ry h
  obtain ⟨l, z, rfl, hT, h⟩ := h
  cases rx
  obtain ⟨its, r, ⟨⟨cls, dd, data, sl⟩, ho, hc, n, hd⟩, hs⟩ := I.tuple hT
  simp only at hc hd
  subst hc hd
  obtain ⟨a, rfl, ra⟩ := vals1 r
  rcases h with ⟨rfl, q⟩ | ⟨rfl, q⟩
  · obtain ⟨t, rfl⟩ := ry
    refine wpAny_binaryOp_repeat_ref (T := "tuple") (U := "int") (by decide) ⟨_, ho, rfl⟩ (fun s' => typeIs_int s' 1 t) noFill_tuple_mul F.fills_int_mul F.slot_int_rmul repeat_tuple F.slot_int_index.lookup
      (call_meets F.slot_int_rmul (typeIs_int s 1 t) F.entry_int_rmul (F.args_int_rmul_2 _ _) (int_rmul_tuple 1 t l #[a] n dd sl)
        ⟨ho, rfl, ⟨_, ho, rfl⟩, call_meets F.slot_tuple_mul ⟨_, ho, rfl⟩ F.entry_tuple_mul (F.args_tuple_mul_2 _ _) (tup_mul1 l a n dd sl t) ⟨ho, ?_⟩⟩)
    exact ⟨.ref l, H, I, rfl, q⟩
  · obtain ⟨t, rfl⟩ := ry
    refine wpAny_binaryOp_repeat_ref (T := "tuple") (U := "int") (by decide) ⟨_, ho, rfl⟩ (fun s' => typeIs_int s' 0 t) noFill_tuple_mul F.fills_int_mul F.slot_int_rmul repeat_tuple F.slot_int_index.lookup
      (call_meets F.slot_int_rmul (typeIs_int s 0 t) F.entry_int_rmul (F.args_int_rmul_2 _ _) (int_rmul_tuple 0 t l #[a] n dd sl)
        ⟨ho, rfl, ⟨_, ho, rfl⟩, call_meets F.slot_tuple_mul ⟨_, ho, rfl⟩ F.entry_tuple_mul (F.args_tuple_mul_2 _ _) (tup_mul0 l a n dd sl t) ⟨ho, ?_⟩⟩)
    refine ⟨.ref s.heap.objs.size, _, I.laid (t' := s.toks) (o := .tup []) (fun b ob q => Heap.get?_push_of_some _ q) (Nat.le_refl _) ?_, rfl, q _ (I.hok.fresh (Nat.le_refl _))⟩
    exact ⟨Nat.zero_le _, [], .nil, IsTup.new _ _⟩
end
theorem enum_newT (l : Addr) (items : Array Value) (n : Nat) (dct : Option Addr) (sl : Array (Option Value)) :
    Meets (Builtin.«enumerate.__new__» ⟨[.type "enumerate", .ref l], []⟩) (fun _ R s => s.heap.get? l = some { cls := .type "tuple", dict := dct, data := .seq items n, slots := sl } ∧
      R (.ok (.ret (.ref (s.heap.push { cls := .type "tuple_iterator", data := .fields #[.ref l, .int 0 0] }).objs.size)))
        { s with heap := (s.heap.push { cls := .type "tuple_iterator", data := .fields #[.ref l, .int 0 0] }).push { cls := .type "enumerate", data := .fields #[.none, .bool false, .ref s.heap.objs.size, rawInt 0, .none, .none] } }) :=
  .of_wp fun prog w A R s h => by
    obtain ⟨hp, g, d, tk, os⟩ := s; obtain ⟨hl, h⟩ := h
    have hsub := sub_enumerate
    have hL : Heap.IsTuple (Shared.heap ⟨hp, g, d, tk, os⟩) l items := ⟨_, hl, rfl, n, rfl⟩
    wp_walk using AutoSeq1.wpAny_loadPart' hl
    refine wpAny_stack_any fun st => wpAny_pure ?_
    split
    · rename_i c _ _ _ _ _
      cases (c == Value.type "enumerate") <;> (wp_walk using AutoSeq1.wpAny_loadPart' hl, wpAny_pyIter_tuple hL; exact ⟨_, rfl, h⟩)
    · wp_walk using AutoSeq1.wpAny_loadPart' hl, wpAny_pyIter_tuple hL
      exact ⟨_, rfl, h⟩
theorem call_enumT {prog : Program} {w : World} {A : Around} {E : Value → Shared → Prop} {s : Shared} {l : Addr} {items : Array Value} {Q : Value → Shared → Prop} (hL : s.heap.IsTuple l items)
    (h : ∀ h', IsEnum h' (s.heap.objs.size + 1) s.heap.objs.size 0 .none → h'.IsTupleIter s.heap.objs.size l 0 → h'.objs.size = s.heap.objs.size + 2 →
      (∀ b o, s.heap.get? b = some o → h'.get? b = some o) → Q (.ref (s.heap.objs.size + 1)) { s with heap := h' }) :
    wpAny (model prog w) A (call (.type "enumerate") [.ref l]) Q E s := by
  obtain ⟨⟨c, dct, dt, sl⟩, hl, hc, n, hd⟩ := hL
  simp only at hc hd
  subst hc hd
  refine callType_new F.called_enumerate (by decide) (F.typeCall_enumerate_1 _) (F.newCall_enumerate_1 _) (fun obj => F.args_object_init_2 obj _) F.entry_enumerate_new (enum_newT l items n dct sl) ⟨hl, ?_⟩
  generalize ho : ({ cls := .type "tuple_iterator", data := .fields #[.ref l, .int 0 0] } : Obj) = o1
  have f1 : o1.isFreed = false := by rw [← ho]; rfl
  generalize hp : ({ cls := .type "enumerate", data := .fields #[.none, .bool false, .ref s.heap.objs.size, rawInt 0, .none, .none] } : Obj) = o2
  have f2 : o2.isFreed = false := by rw [← hp]; rfl
  have hz : (s.heap.push o1).objs.size = s.heap.objs.size + 1 := Heap.size_push ..
  have hg := Heap.get?_push_size (s.heap.push o1) (o := o2) f2
  show _ ∧ _
  rw [hz] at hg ⊢
  have he : IsEnum ((s.heap.push o1).push o2) (s.heap.objs.size + 1) s.heap.objs.size 0 .none := by rw [hp.symm] at hg ⊢; exact hg
  refine ⟨⟨_, he, rfl⟩, h _ he ⟨_, Heap.get?_push_of_some _ (Heap.get?_push_size _ f1), by rw [← ho], by rw [← ho]; rfl⟩ (by rw [Heap.size_push, hz]) fun b o x => Heap.get?_push_of_some _ (Heap.get?_push_of_some _ x)⟩
/-- the tuple at a, each item in a new pair -/
def Itet (K : PySem.W.Frag) (a : Addr) : It :=
  ⟨fun i H => ∃ (xs : List V) (x : V), SqT K H a xs ∧ xs[i]? = some x, fun i H v H' => ∃ T x, v = .ref T ∧ H T = none ∧ H' = upd H T (.tup [.int (i : Nat), x]) ∧ ∀ xs, SqT K H a xs → xs[i]? = some x,
    fun i H => ∃ xs : List V, SqT K H a xs ∧ xs.length ≤ i⟩
theorem turn_enumT {P : Program} {w : World} {K : PySem.W.Frag} {elts : List Expr} {kk : Nat} {tpos : Pos} (a e it : Addr) :
    Turn P w K (.Tuple elts kk tpos) (Itet K a) [e, it] e (fun i h => (∃ old, IsEnum h e it ((i : Nat) : Int) old) ∧ h.IsTupleIter it a i ∧ e ≠ it) where
  mem := by simp
  obj := fun i h st b hb => by
    obtain ⟨⟨old, he⟩, ⟨o, ho, hc, hd⟩, _⟩ := st
    rcases (show b = e ∨ b = it by simpa using hb) with rfl | rfl
    · exact ⟨_, he, fun v q => nomatch q⟩
    · exact ⟨o, ho, fun v q => by rw [hd] at q; cases q⟩
  keep := fun i h h' st k => let ⟨⟨old, he⟩, hi, hne⟩ := st; ⟨⟨old, k e (by simp) _ he⟩, hi.at fun o q => k it (by simp) o q, hne⟩
  item := by
    intro X hP hw hK hc i pins s σ H E I hf st hg
    subst hP hw hK
    obtain ⟨⟨old, he⟩, hit, hne⟩ := st
    obtain ⟨xs, x, hq, hx⟩ := hg
    obtain ⟨its, rv, pt, hz⟩ := I.tuple hq
    have hT : s.heap.IsTuple a its.toArray := pt
    obtain ⟨u, hu, ru⟩ := rv.get hx
    have hel : e < s.heap.objs.size := Heap.lt_size he
    have hil : it < s.heap.objs.size := by obtain ⟨_, q, _⟩ := hit; exact Heap.lt_size q
    have nai : a ≠ it := fun z => by
      subst z
      obtain ⟨o1, q1, c1, _⟩ := hit
      obtain ⟨o2, q2, c2, _⟩ := hT
      rw [q1] at q2; cases q2
      rw [c1] at c2; exact absurd c2 (by decide)
    have nea : e ≠ a := fun z => by
      subst z
      obtain ⟨o2, q2, c2, _⟩ := hT
      have he' : s.heap.get? e = _ := he
      rw [he'] at q2; cases q2
      exact absurd (show Value.type "enumerate" = Value.type "tuple" from c2) (by decide)
    have hi : i < its.toArray.size := by
      have := (List.getElem?_eq_some_iff.mp hu).1
      simpa using this
    refine wpAny_pyNext_enum_itemD (Draws.tuple (A := X.A.in1) (I.ok.hd hc) it a nai its.toArray) he ⟨hit, hT⟩ hi hne (by simp [hne, nea]) fun y h' tk hy ho hit' hT' hsz hk => ?_
    obtain rfl : y = u := by
      have hy' : its.toArray[i]? = some y := hy
      rw [List.getElem?_toArray, hu] at hy'
      exact (Option.some.inj hy').symm
    refine ⟨_, rfl, wpAny_letOwnedTupleGo_enum (s := { s with heap := h', toks := tk + 1 }) ho fun h'' he' sb => ?_⟩
    have hT2 : h''.get? s.heap.objs.size = some { cls := .type "tuple", data := .seq #[.int i tk, y] } := (sb.2 _ (Nat.ne_of_gt hel)).trans hT'
    have new : ObjOk X.prog X.w (upd H s.heap.objs.size (.tup [.int (i : Nat), x])) h'' s.heap.objs.size (.tup [.int (i : Nat), x]) :=
      ⟨by show 2 ≤ sizeLine; decide, [.int i tk, y], .cons ⟨_, rfl⟩ (.cons ru .nil), ⟨_, hT2, rfl, _, rfl⟩⟩
    have I1 := I.turnedNew (t' := tk + 1) (ch := [e, it]) (fun b ob hb q => (sb.2 b (fun z => hb (by simp [z]))).trans (hk b ob (fun z => hb (by simp [z])) (fun z => hb (by simp [z])) q)) hf (Nat.le_refl _) new
    refine ⟨.ref s.heap.objs.size, _, I1, rfl, ⟨_, x, rfl, I.hok.fresh (Nat.le_refl _), rfl, fun ys hys => by rw [I.tuple_inj hys hq]; exact hx⟩, ⟨⟨y, ?_⟩, hit'.1.at fun o q => (sb.2 it (Ne.symm hne)).trans q, hne⟩, fun b hb => ?_⟩
    · rw [show ((i + 1 : Nat) : Int) = (i : Int) + 1 by omega]; exact he'
    · have hb' : b < s.heap.objs.size := by
        rcases (show b = e ∨ b = it by simpa using hb) with rfl | rfl
        · exact hel
        · exact hil
      rw [upd_ne (Nat.ne_of_lt hb')]
      exact (hf b hb).1
  done := by
    intro X hP hw hK hc i pins s σ H E I hf st hg
    subst hP hw hK
    obtain ⟨⟨old, he⟩, hit, hne⟩ := st
    obtain ⟨xs, hq, hx⟩ := hg
    obtain ⟨its, rv, pt, hz⟩ := I.tuple hq
    have hT : s.heap.IsTuple a its.toArray := pt
    obtain ⟨f0, f1, f2, f3, f4, f5⟩ := hf it (by simp)
    have hl := rv.length
    have hT : s.TypeIs (.ref e) "enumerate" := ⟨_, he, rfl⟩
    unfold pyNext
    refine wpAny_bind (wpAny_attempt (wpAny_callSpecial?_slot (name := Str.ofString "__next__") hT F.slot_enumerate_next (wpAny_call_entry F.slot_enumerate_next hT F.entry_enumerate_next ?_ (F.args_enumerate_next_1 _))))
    show wpAny _ _ (field (.ref e) 2 >>= _) _ _ _
    refine wpAny_bind (wpAny_field he rfl (x := .ref it) rfl ?_)
    refine wpAny_bind (wpAny_nextOf_tuple_end (I.ok.hd hc) hit pt (by simp; omega) fun h' x eb hx' => ?_)
    obtain ⟨o, ho, hcx⟩ := hx'
    refine wpAny_bind (wpAny_isInstance (T := "StopIteration") (b := true) ⟨o, ho, hcx⟩ isSubtype_stop ?_)
    exact wpAny_pure ⟨rfl, I.turned (t' := s.toks) (fun b o hb q => eb b o hb q) f0 f1 f3 f4 f5⟩
  self := fun A i s Q E st h => let ⟨⟨_, he⟩, _⟩ := st; wpAny_pyIter_enum he h
def iEnumT (K : PySem.W.Frag) (ta : TA) : TI := fun σ H R => ta σ H fun vs H1 => ∃ a xs, vs = [.ref a] ∧ SqT K H1 a xs ∧ R (Itet K a) H1
theorem pi_enumT {X : Cx} {e : Expr} {ta : TA} {p pos tpos : Pos} {elts : List Expr} {kk : Nat} (hg : Gl X "enumerate") (hm : X.mg "enumerate" = none) (ha : PA X [e] ta)
    (hs : starEach [e] X.env = [(false, eval e X.env)] := by rfl) : PI X (.Tuple elts kk tpos) (.Call (.Name "enumerate" p) [e] [] pos) (iEnumT X.K ta) := by
  refine ⟨fun pins s σ H R I h => Call_ (ld_blt I hg hm boot_enumerate (PyProof.Rows.callWith_type1 (thn (ha.run pos pins s σ H _ I h) fun us s1 ⟨vs, H1, I1, r1, a, xs, ex, hq, q⟩ => ?_) hs rfl))⟩
  subst ex
  obtain ⟨u, rfl, rx⟩ := vals1 r1
  cases rx
  obtain ⟨its, rv, pt, hz⟩ := I1.tuple hq
  refine call_enumT pt fun h' he hit hsz hk => wpAny_pyIter_enum he ?_
  refine ⟨s1.heap.objs.size + 1, [s1.heap.objs.size + 1, s1.heap.objs.size], _, _, H1, rfl, I1.kept (t' := s1.toks) hk, turn_enumT a (s1.heap.objs.size + 1) s1.heap.objs.size, ⟨⟨.none, he⟩, hit, Nat.succ_ne_self _⟩, fun b hb => ?_, q⟩
  have hle : s1.heap.objs.size ≤ b := by
    rcases (show b = s1.heap.objs.size + 1 ∨ b = s1.heap.objs.size by simpa using hb) with rfl | rfl
    · exact Nat.le_add_right _ _
    · exact Nat.le_refl _
  exact I1.fpOk hle (I1.hok.fresh hle)
theorem walk_enumT {K : PySem.W.Frag} {a : Addr} {xs : List V} : Walk (Itet K a) xs.length (fun H => SqT K H a xs) (YPair (fun i => some (.int (i : Nat))) (fun i => xs[i]?)) := by
  refine ⟨fun i _ hi q => ⟨xs, xs[i], q, by simp [hi]⟩, fun _ q => ⟨xs, q, Nat.le_refl _⟩, fun i H v H' _ q y => ?_⟩
  obtain ⟨T, x, h1, h2, h3, h4⟩ := y
  exact ⟨T, .int (i : Nat), x, h1, h2, h3, rfl, h4 xs q⟩
end Pr
namespace Pr
open PySem PySem.Spec PyProof.Rows L2
structure Shw (dep n : Nat) (d : PyData) : Prop where
  sh : d.showable = true
  nd : d.hasDict = false
  dp : d.depth ≤ dep
  ln : d.shown.length ≤ n
theorem Shw.mono {dep dep' n n' : Nat} {d : PyData} (h : Shw dep n d) (h1 : dep ≤ dep') (h2 : n ≤ n') : Shw dep' n' d := ⟨h.sh, h.nd, Nat.le_trans h.dp h1, Nat.le_trans h.ln h2⟩
theorem Shw.int {i : Int} {k : Nat} (h0 : 0 ≤ i) (hk : 0 < k) (hk2 : k ≤ 100) (h : i < 10 ^ k) : Shw 0 k (.int i) := by
  refine ⟨?_, by simp only [PyData.hasDict], by simp [PyData.depth], ?_⟩
  · simp only [PyData.showable, decide_eq_true_eq]
    by_cases hz : i.natAbs = 0
    · rw [hz]; decide
    · refine (Nat.log2_lt hz).mpr ?_
      have h1 : (i.natAbs : Int) < ((10 ^ k : Nat) : Int) := by
        rw [Int.natCast_pow]
        have : ((i.natAbs : Nat) : Int) = i := Int.natAbs_of_nonneg h0
        rw [this]; exact h
      have h2 : i.natAbs < 10 ^ k := by exact_mod_cast h1
      have h3 : (10 : Nat) ^ k ≤ 10 ^ 100 := Nat.pow_le_pow_right (by decide) hk2
      have h4 : (10 : Nat) ^ 100 < 2 ^ 1920 := by decide +kernel
      omega
  · simp only [PyData.shown]
    exact toString_length_le h0 hk h
theorem shownAll_map : ∀ ds : List PyData, PyData.shownAll ds = ds.map PyData.shown
  | [] => rfl
  | d :: r => by simp only [PyData.shownAll, List.map_cons, shownAll_map r]
theorem piled_le {n : Nat} : ∀ {ds : List PyData}, (∀ d ∈ ds, d.shown.length ≤ n) → piled (ds.map PyData.shown) ≤ ds.length * (n + 2)
  | [], _ => by simp [piled_nil]
  | d :: r, h => by
    have h1 := piled_le (ds := r) fun x hx => h x (List.mem_cons_of_mem _ hx)
    have h2 := h d List.mem_cons_self
    rw [List.map_cons, piled_cons, List.length_cons, Nat.succ_mul]
    omega
theorem showAll_of {dep n : Nat} : ∀ {ds : List PyData}, (∀ d ∈ ds, Shw dep n d) → PyData.showableAll ds = true ∧ PyData.hasDictAll ds = false ∧ PyData.depthAll ds ≤ dep
  | [], _ => ⟨by simp only [PyData.showableAll], by simp only [PyData.hasDictAll], by simp [PyData.depthAll]⟩
  | d :: r, h => by
    obtain ⟨h1, h2, h3⟩ := showAll_of (ds := r) fun x hx => h x (List.mem_cons_of_mem _ hx)
    have g := h d List.mem_cons_self
    refine ⟨by simp only [PyData.showableAll, g.sh, h1, Bool.and_self], by simp only [PyData.hasDictAll, g.nd, h2, Bool.or_self], ?_⟩
    simp only [PyData.depthAll]
    exact Nat.max_le.mpr ⟨g.dp, h3⟩
theorem tupleText_len (ts : List Str) : (tupleText ts).length ≤ piled ts + 3 := by
  unfold tupleText
  rw [strLen_append, strLen_append]
  have e1 : (("(" : Str)).length = 1 := by decide +kernel
  have e2 : ((if ts.length == 1 then ",)" else ")" : String) : Str).length ≤ 2 := by
    cases ts.length == 1 <;> decide +kernel
  by_cases h : ts = []
  · subst h
    have : (Str.join ", " ([] : List Str)).length = 0 := by decide +kernel
    omega
  · have := join_length_add ts h
    omega
theorem textFrom_le : ∀ (ts : List Str) (k : Nat) (acc : Str), (textFrom k acc ts).length ≤ acc.length + piled ts
  | [], k, acc => by simp [textFrom, piled_nil]
  | t :: r, k, acc => by
    have h := textFrom_le r (k + 1) (acc ++ (if k > 0 then ", " else "" : String) ++ t)
    rw [piled_cons]
    show (textFrom (k + 1) _ r).length ≤ _
    have e : ((if k > 0 then ", " else "" : String) : Str).length ≤ 2 := by split <;> decide +kernel
    rw [strLen_append, strLen_append] at h
    omega
theorem listText_len (ts : List Str) : (listText ts).length ≤ piled ts + 2 := by
  unfold listText
  rw [strLen_append]
  have h := textFrom_le ts 0 "["
  have e1 : (("[" : Str)).length = 1 := by decide +kernel
  have e2 : (("]" : Str)).length = 1 := by decide +kernel
  omega
theorem Shw.tuple {dep n m : Nat} {ds : List PyData} (h : ∀ d ∈ ds, Shw dep n d) (hm : ds.length ≤ m) : Shw (dep + 1) (m * (n + 2) + 3) (.tuple ds) := by
  obtain ⟨h1, h2, h3⟩ := showAll_of h
  refine ⟨by simp only [PyData.showable, h1], by simp only [PyData.hasDict, h2], by simp only [PyData.depth]; omega, ?_⟩
  simp only [PyData.shown]
  rw [shownAll_map]
  have a1 := tupleText_len (ds.map PyData.shown)
  have a2 := piled_le fun d hd => (h d hd).ln
  have a3 : ds.length * (n + 2) ≤ m * (n + 2) := Nat.mul_le_mul_right _ hm
  omega
theorem Shw.list {dep n m : Nat} {ds : List PyData} (h : ∀ d ∈ ds, Shw dep n d) (hm : ds.length ≤ m) : Shw (dep + 1) (m * (n + 2) + 3) (.list ds) := by
  obtain ⟨h1, h2, h3⟩ := showAll_of h
  refine ⟨by simp only [PyData.showable, h1], by simp only [PyData.hasDict, h2], by simp only [PyData.depth]; omega, ?_⟩
  simp only [PyData.shown]
  rw [shownAll_map]
  have a1 := listText_len (ds.map PyData.shown)
  have a2 := piled_le fun d hd => (h d hd).ln
  have a3 : ds.length * (n + 2) ≤ m * (n + 2) := Nat.mul_le_mul_right _ hm
  omega
/-- only what stands at a and c may have changed -/
def But (a c : Addr) (H H' : Hp) : Prop := ∀ b o, b ≠ a → b ≠ c → H b = some o → H' b = some o
theorem But.refl (a c : Addr) (H : Hp) : But a c H H := fun _ _ _ _ h => h
theorem But.trans {a c : Addr} {H H1 H2 : Hp} (x : But a c H H1) (y : But a c H1 H2) : But a c H H2 := fun b o h1 h2 h => y b o h1 h2 (x b o h1 h2 h)
theorem But.of {a c : Addr} {H H' : Hp} (x : Same H H') : But a c H H' := fun b o _ _ h => x b o h
theorem same_new {H : Hp} {p : Addr} {o : HO} (h : H p = none) : Same H (upd H p o) := fun b x e => by
  rw [upd_ne (ne_of_none e h)]; exact e
/-- the deck at a, its cells at c, m draws may still be made -/
def Deck (H : Hp) (a c : Addr) (m : Nat) : Prop :=
  ∃ (cells : List Int) (n : Nat), H a = some (.lst [.ref c, .int (n : Int)]) ∧ H c = some (.lst (cells.map V.int)) ∧ a ≠ c ∧ cells.length ≤ 63 ∧ n + m ≤ 1000000
theorem Deck.same {H H' : Hp} {a c : Addr} {m : Nat} (e : Same H H') (h : Deck H a c m) : Deck H' a c m :=
  let ⟨cs, n, h1, h2, h3⟩ := h; ⟨cs, n, e _ _ h1, e _ _ h2, h3⟩
theorem Deck.less {H : Hp} {a c : Addr} {m m' : Nat} (h : Deck H a c m) (z : m' ≤ m) : Deck H a c m' :=
  let ⟨cs, n, h1, h2, h3, h4, h5⟩ := h; ⟨cs, n, h1, h2, h3, h4, by omega⟩
theorem Deck.apart {H : Hp} {a c : Addr} {m : Nat} (h : Deck H a c m) {b : Addr} {o : HO} (e : H b = some o) (ho : ∀ xs, o ≠ .lst xs) : b ≠ a ∧ b ≠ c := by
  obtain ⟨cs, n, h1, h2, _⟩ := h
  exact ⟨ne_of e h1 (ho _), ne_of e h2 (ho _)⟩
theorem Deck.fresh {H : Hp} {a c : Addr} {m : Nat} (h : Deck H a c m) {b : Addr} (e : H b = none) : b ≠ a ∧ b ≠ c := by
  obtain ⟨cs, n, h1, h2, _⟩ := h
  exact ⟨Ne.symm (ne_of_none h1 e), Ne.symm (ne_of_none h2 e)⟩
theorem FT.but {H H' : Hp} {a c p : Addr} {m : Nat} {xs : List V} (d : Deck H a c m) (b : But a c H H') (h : FT H p xs) : FT H' p xs := by
  obtain ⟨o, e, z⟩ := h
  have q := d.apart e (fun _ => by intro z; cases z)
  exact ⟨o, b _ _ q.1 q.2 e, z⟩
/-- a panel at p -/
def PanAt (H : Hp) (p : Addr) (pan : List (List Int)) : Prop := ∃ qs : List Addr, FT H p (qs.map V.ref) ∧ Paired (fun q l => FT H q (l.map V.int)) qs pan
theorem PanAt.same {H H' : Hp} {p : Addr} {pan : List (List Int)} (e : Same H H') (h : PanAt H p pan) : PanAt H' p pan :=
  let ⟨qs, h1, h2⟩ := h; ⟨qs, h1.same e, h2.mono fun _ _ x => x.same e⟩
theorem PanAt.but {H H' : Hp} {a c p : Addr} {m : Nat} {pan : List (List Int)} (d : Deck H a c m) (b : But a c H H') (h : PanAt H p pan) : PanAt H' p pan :=
  let ⟨qs, h1, h2⟩ := h; ⟨qs, h1.but d b, h2.mono fun _ _ x => x.but d b⟩
theorem paired_get {α β : Type} {F : α → β → Prop} : ∀ {l1 : List α} {l2 : List β}, Paired F l1 l2 → ∀ (i : Nat) (y : β), l2[i]? = some y → ∃ x, l1[i]? = some x ∧ F x y
  | _, _, .nil, i, y, h => by simp at h
  | _, _, .cons r t, 0, y, h => by simp at h; subst h; exact ⟨_, rfl, r⟩
  | _, _, .cons r t, i + 1, y, h => by
    obtain ⟨x, h1, h2⟩ := paired_get t i y (by simpa using h)
    exact ⟨x, by simpa using h1, h2⟩
/-- what the document calls a panel of at most ten buttons -/
structure Good (pan : List (List Int)) : Prop where
  pos : 1 ≤ pan.length
  few : pan.length ≤ 10
  up : ∀ l ∈ pan, l.Pairwise (· < ·)
  rng : ∀ l ∈ pan, ∀ x ∈ l, 0 ≤ x ∧ x < (pan.length : Int)
  own : ∀ (i : Nat) (l : List Int), pan[i]? = some l → (i : Int) ∉ l
def dInts (l : List Int) : PyData := .tuple (l.map PyData.int)
def dPan (pan : List (List Int)) : PyData := .tuple (pan.map dInts)
section
variable {K : PySem.W.Frag} {H : Hp}
theorem dpAll_ints : ∀ l : List Int, DpAll K H (l.map V.int) (l.map PyData.int)
  | [] => .nil
  | x :: r => .cons (.int x) (dpAll_ints r)
theorem dp_ints {q : Addr} {l : List Int} (h : SqT K H q (l.map V.int)) : Dp K H (.ref q) (dInts l) := .tup h (dpAll_ints l)
theorem dpAll_pan : ∀ {qs : List Addr} {pan : List (List Int)}, Paired (fun q l => FT H q (l.map V.int)) qs pan → DpAll K H (qs.map V.ref) (pan.map dInts)
  | _, _, .nil => .nil
  | _, _, .cons r t => .cons (dp_ints r.sq) (dpAll_pan t)
theorem PanAt.dp {p : Addr} {pan : List (List Int)} (h : PanAt H p pan) : Dp K H (.ref p) (dPan pan) := by
  obtain ⟨qs, h1, h2⟩ := h
  exact .tup h1.sq (dpAll_pan h2)
end
theorem pw_length {n : Nat} : ∀ {l : List Int} {lo : Int}, l.Pairwise (· < ·) → (∀ x ∈ l, lo ≤ x ∧ x < lo + n) → l.length ≤ n := by
  induction n with
  | zero =>
    intro l lo _ h
    cases l with
    | nil => exact Nat.le_refl _
    | cons x r => have := h x List.mem_cons_self; omega
  | succ n ih =>
    intro l lo hp h
    cases l with
    | nil => exact Nat.zero_le _
    | cons x r =>
      have hx := h x List.mem_cons_self
      rw [List.pairwise_cons] at hp
      have := ih (l := r) (lo := lo + 1) hp.2 fun y hy => by
        have h1 := hp.1 y hy
        have h2 := h y (List.mem_cons_of_mem _ hy)
        omega
      rw [List.length_cons]; omega
end Pr
namespace Pr
open PySem PySem.Spec PyProof.Rows L2
def intL (n : Nat) : List Int := (List.range n).map fun i : Nat => (i : Int)
theorem mem_intL {n : Nat} {x : Int} : x ∈ intL n ↔ 0 ≤ x ∧ x < (n : Int) := by
  unfold intL
  rw [List.mem_map]
  constructor
  · rintro ⟨i, hi, rfl⟩
    have := List.mem_range.mp hi
    omega
  · rintro ⟨h0, h1⟩
    exact ⟨x.toNat, List.mem_range.mpr (by omega), Int.toNat_of_nonneg h0⟩
theorem intL_up (n : Nat) : (intL n).Pairwise (· < ·) := by
  unfold intL
  rw [List.pairwise_map]
  exact List.pairwise_lt_range.imp fun {a b} (h : a < b) => by omega
/-- a state of n buttons -/
structure Asc (n : Nat) (st : List Int) : Prop where
  up : st.Pairwise (· < ·)
  rng : ∀ x ∈ st, 0 ≤ x ∧ x < (n : Int)
theorem Asc.nil (n : Nat) : Asc n [] := ⟨List.Pairwise.nil, fun _ h => by cases h⟩
theorem Asc.full (n : Nat) : Asc n (intL n) := ⟨intL_up n, fun _ h => mem_intL.mp h⟩
theorem Asc.filter (n : Nat) (f : Int → Bool) : Asc n ((intL n).filter f) := ⟨(intL_up n).filter f, fun _ h => mem_intL.mp (List.mem_filter.mp h).1⟩
theorem Asc.len {n : Nat} {st : List Int} (h : Asc n st) : st.length ≤ n := pw_length (lo := 0) h.up fun x hx => by have := h.rng x hx; omega
theorem asc_ext : ∀ {l1 l2 : List Int}, l1.Pairwise (· < ·) → l2.Pairwise (· < ·) → (∀ x, x ∈ l1 ↔ x ∈ l2) → l1 = l2
  | [], [], _, _, _ => rfl
  | [], y :: r, _, _, h => absurd ((h y).mpr List.mem_cons_self) (by simp)
  | x :: r, [], _, _, h => absurd ((h x).mp List.mem_cons_self) (by simp)
  | x :: r, y :: t, h1, h2, h => by
    rw [List.pairwise_cons] at h1 h2
    have exy : x = y := by
      rcases List.mem_cons.mp ((h x).mp List.mem_cons_self) with e | e
      · exact e
      · rcases List.mem_cons.mp ((h y).mpr List.mem_cons_self) with e' | e'
        · exact e'.symm
        · have a1 := h2.1 x e
          have a2 := h1.1 y e'
          omega
    subst exy
    have : r = t := asc_ext h1.2 h2.2 fun z => by
      constructor
      · intro hz
        rcases List.mem_cons.mp ((h z).mp (List.mem_cons_of_mem _ hz)) with e | e
        · have := h1.1 z hz; omega
        · exact e
      · intro hz
        rcases List.mem_cons.mp ((h z).mpr (List.mem_cons_of_mem _ hz)) with e | e
        · have := h2.1 z hz; omega
        · exact e
    rw [this]
def pressM (pan : List (List Int)) (st : List Int) (b : Int) : List Int := (intL pan.length).filter fun x => decide (x = b ∨ (x ∈ st ∧ x ∉ pan.getD b.toNat []))
theorem pressM_asc (pan : List (List Int)) (st : List Int) (b : Int) : Asc pan.length (pressM pan st b) := Asc.filter _ _
theorem mem_pressM {pan : List (List Int)} {st : List Int} {b x : Int} : x ∈ pressM pan st b ↔ (0 ≤ x ∧ x < (pan.length : Int)) ∧ (x = b ∨ (x ∈ st ∧ x ∉ pan.getD b.toNat [])) := by
  unfold pressM
  rw [List.mem_filter, decide_eq_true_eq, mem_intL]
/-- what press_button makes: the kept ones and the button, sorted -/
theorem press_sorted {pan : List (List Int)} {st : List Int} {b : Int} {ns : List Int} (hs : Asc pan.length st) (h0 : 0 ≤ b) (h1 : b < (pan.length : Int))
    (hp : ns.Perm (st.filter (fun x => decide (x ≠ b ∧ x ∉ pan.getD b.toNat [])) ++ [b])) (hle : ns.Pairwise (· ≤ ·)) : ns = pressM pan st b := by
  have nd0 : (st.filter (fun x => decide (x ≠ b ∧ x ∉ pan.getD b.toNat [])) ++ [b]).Nodup := by
    refine List.nodup_append.mpr ⟨(hs.up.imp fun {x y} (q : x < y) => by omega : st.Nodup).filter _, by simp, fun x hx y hy e => ?_⟩
    rw [List.mem_singleton] at hy
    have := (List.mem_filter.mp hx).2
    rw [decide_eq_true_eq] at this
    exact this.1 (e.trans hy)
  have nd : ns.Nodup := hp.nodup_iff.mpr nd0
  have up : ns.Pairwise (· < ·) := (hle.and nd).imp fun {x y} (q : x ≤ y ∧ x ≠ y) => by omega
  refine asc_ext up (pressM_asc pan st b).up fun x => ?_
  rw [hp.mem_iff, mem_pressM, List.mem_append, List.mem_filter, decide_eq_true_eq, List.mem_singleton]
  constructor
  · rintro (⟨a1, a2⟩ | a)
    · exact ⟨hs.rng x a1, .inr ⟨a1, a2.2⟩⟩
    · subst a; exact ⟨⟨h0, h1⟩, .inl rfl⟩
  · rintro ⟨_, a | a⟩
    · exact .inr a
    · by_cases e : x = b
      · exact .inr e
      · exact .inl ⟨a.1, e, a.2⟩
end Pr
namespace Pr
open PySem PySem.Spec PyProof.Rows L2
abbrev wSame : Str := "same"
abbrev wOn : Str := "on"
abbrev wOff : Str := "off"
/-- a press of b behind, where c had the word w -/
def wordM (pan : List (List Int)) (c : Int) (w : Str) (b : Int) : Str := if b = c then wOn else if c ∈ pan.getD b.toNat [] then wOff else w
def wordsM (pan : List (List Int)) (row : List Int) (c : Int) : Str := row.foldl (wordM pan c) wSame
def effM (pan : List (List Int)) (row : List Int) : List Str := (List.range pan.length).map fun c : Nat => wordsM pan row (c : Int)
def onM (l : List Int) (b : Int) (c : Nat) : Str := if (c : Int) ∈ l then wOff else if (c : Int) = b then wOn else wSame
def pressW (pan : List (List Int)) (b : Int) : List Str := (List.range pan.length).map (onM (pan.getD b.toNat []) b)
def joinM (xs ys : List Str) : List Str := List.zipWith (fun e l => if l = wSame then e else l) xs ys
theorem effM_len (pan : List (List Int)) (row : List Int) : (effM pan row).length = pan.length := by unfold effM; rw [List.length_map, List.length_range]
theorem pressW_len (pan : List (List Int)) (b : Int) : (pressW pan b).length = pan.length := by unfold pressW; rw [List.length_map, List.length_range]
theorem joinM_len {xs ys : List Str} (h : xs.length = ys.length) : (joinM xs ys).length = ys.length := by unfold joinM; rw [List.length_zipWith, h, Nat.min_self]
theorem effM_nil (pan : List (List Int)) : effM pan [] = List.replicate pan.length wSame := by
  unfold effM
  show (List.range pan.length).map (fun _ => wSame) = _
  rw [List.map_const', List.length_range]
theorem Good.own' {pan : List (List Int)} (g : Good pan) {b : Int} (h0 : 0 ≤ b) (h1 : b < (pan.length : Int)) : b ∉ pan.getD b.toNat [] := by
  have hb : b.toNat < pan.length := by omega
  have := g.own b.toNat pan[b.toNat] (List.getElem?_eq_getElem hb)
  rw [List.getD_eq_getElem?_getD, List.getElem?_eq_getElem hb]
  rw [Int.toNat_of_nonneg h0] at this
  exact this
theorem set_map_range {α : Type} (f : Nat → α) (n j : Nat) (v : α) : ((List.range n).map f).set j v = (List.range n).map fun c => if c = j then v else f c := by
  refine List.ext_getElem? fun i => ?_
  rw [List.getElem?_set, List.getElem?_map]
  by_cases h : i < n
  · rw [List.getElem?_map, List.getElem?_range h, List.length_map, List.length_range]
    by_cases e : j = i
    · subst e; rw [if_pos rfl, if_pos h]; simp
    · rw [if_neg e]; simp [Ne.symm e]
  · rw [List.getElem?_map, List.getElem?_eq_none (by rw [List.length_range]; omega), List.length_map, List.length_range]
    by_cases e : j = i
    · subst e; rw [if_pos rfl, if_neg h]; rfl
    · rw [if_neg e]; rfl
theorem replicate_map_range {α : Type} (n : Nat) (v : α) : List.replicate n v = (List.range n).map fun _ => v := by
  rw [List.map_const', List.length_range]
def dStrs (l : List Str) : PyData := .tuple (l.map PyData.str)
theorem rep_flat {α : Type} (n : Nat) (v : α) : (List.replicate n [v]).flatten = List.replicate n v := by
  induction n with
  | zero => rfl
  | succ n ih => rw [List.replicate_succ, List.flatten_cons, ih]; rfl
theorem walk_zipT {K : PySem.W.Frag} {a b : Addr} {xs ys : List V} {n : Nat} (hn : n = min xs.length ys.length) : Walk (RZ.ItzT K a b) n (fun H => SqT K H a xs ∧ SqT K H b ys) (YPair (fun i => xs[i]?) (fun i => ys[i]?)) := by
  subst hn
  refine ⟨fun i _ hi q => ?_, fun _ q => ⟨xs, ys, q.1, q.2, by omega⟩, fun i H v H' _ q y => ?_⟩
  · have h1 : i < xs.length := by omega
    have h2 : i < ys.length := by omega
    exact ⟨xs, ys, xs[i], ys[i], q.1, q.2, by simp [h1], by simp [h2]⟩
  · obtain ⟨T, x, z, h1, h2, h3, h4, h5⟩ := y
    exact ⟨T, x, z, h1, h2, h3, h4 xs q.1, h5 ys q.2⟩
theorem str_get {os : List Str} {k : Nat} {x : V} (h : (os.map V.str)[k]? = some x) : ∃ z, os[k]? = some z ∧ x = .str z := by
  rw [List.getElem?_map] at h
  cases e : os[k]? with
  | none => rw [e] at h; cases h
  | some z => rw [e] at h; exact ⟨z, rfl, (Option.some.inj h).symm⟩
theorem int_get {os : List Int} {k : Nat} {x : V} (h : (os.map V.int)[k]? = some x) : ∃ z, os[k]? = some z ∧ x = .int z := by
  rw [List.getElem?_map] at h
  cases e : os[k]? with
  | none => rw [e] at h; cases h
  | some z => rw [e] at h; exact ⟨z, rfl, (Option.some.inj h).symm⟩
theorem joinM_get {xs ys : List Str} {i : Nat} {x y : Str} (hx : xs[i]? = some x) (hy : ys[i]? = some y) : (joinM xs ys)[i]? = some (if y = wSame then x else y) := by
  unfold joinM
  rw [List.getElem?_zipWith, hx, hy]
theorem ixN_nat {n j : Nat} (h : j < n) : ixN n (j : Int) = some j := by
  unfold ixN
  rw [if_pos (by omega), if_pos (by omega)]; rfl
theorem gen_heap {X : Hp} {R : Hp → Prop} (C : Hp → Prop) (hX : C X) (h : ∀ H', C H' → R H') : R X := h X hX
theorem gen_name {i : Nat} {v : V} {σ : L2.St} {X : Hp} {D : L2.St → Hp → Prop} (C : Hp → Prop) (hX : C X) (h : ∀ H', C H' → gName i v σ H' D) : gName i v σ X D := h X hX
theorem tyes {σ : L2.St} {H : Hp} {Q : Bool → Hp → Prop} (h : Q true H) : tYes σ H Q := h
theorem inV_ints {b : Int} (l : List Int) : inV (.int b) (l.map V.int) = decide (b ∈ l) := by
  unfold inV
  rw [List.any_map, Bool.eq_iff_iff, List.any_eq_true, decide_eq_true_eq]
  constructor
  · rintro ⟨x, hx, e⟩
    have e' : x = b := by simpa [eqV] using e
    rw [← e']; exact hx
  · intro h
    exact ⟨b, h, by simp [eqV]⟩
theorem flat_ints : ∀ l : List Int, (l.map V.int).all flatV = true
  | [] => rfl
  | x :: r => by rw [List.map_cons, List.all_cons, flat_ints r]; rfl
end Pr
namespace Pr
open PySem PySem.Spec PyProof.Rows L2
def Dk3 (H : Hp) (a c r : Addr) (m : Nat) : Prop :=
  ∃ (cells rests : List Int) (n : Nat), H a = some (.lst [.ref c, .int (n : Int), .ref r]) ∧ H c = some (.lst (cells.map V.int)) ∧ H r = some (.lst (rests.map V.int)) ∧ a ≠ c ∧ a ≠ r ∧ c ≠ r ∧
    1 ≤ cells.length ∧ cells.length ≤ 63 ∧ rests.length = cells.length ∧ n + m ≤ 1000000
theorem Dk3.same {H H' : Hp} {a c r : Addr} {m : Nat} (e : Same H H') (h : Dk3 H a c r m) : Dk3 H' a c r m :=
  let ⟨cs, rs, n, h1, h2, h3, h4⟩ := h; ⟨cs, rs, n, e _ _ h1, e _ _ h2, e _ _ h3, h4⟩
theorem Dk3.less {H : Hp} {a c r : Addr} {m m' : Nat} (h : Dk3 H a c r m) (z : m' ≤ m) : Dk3 H a c r m' :=
  let ⟨cs, rs, n, h1, h2, h3, h4, h5, h6, h7, h8, h9, h10⟩ := h; ⟨cs, rs, n, h1, h2, h3, h4, h5, h6, h7, h8, h9, by omega⟩
theorem Dk3.apart {H : Hp} {a c r : Addr} {m : Nat} (h : Dk3 H a c r m) {b : Addr} {o : HO} (e : H b = some o) (ho : ∀ xs, o ≠ .lst xs) : b ≠ a ∧ b ≠ r := by
  obtain ⟨cs, rs, n, h1, h2, h3, _⟩ := h
  exact ⟨ne_of e h1 (ho _), ne_of e h3 (ho _)⟩
theorem Dk3.fresh {H : Hp} {a c r : Addr} {m : Nat} (h : Dk3 H a c r m) {b : Addr} (e : H b = none) : b ≠ a ∧ b ≠ r ∧ b ≠ c := by
  obtain ⟨cs, rs, n, h1, h2, h3, _⟩ := h
  exact ⟨Ne.symm (ne_of_none h1 e), Ne.symm (ne_of_none h3 e), Ne.symm (ne_of_none h2 e)⟩
theorem tup_but3 {H H' : Hp} {a c r p : Addr} {m : Nat} {xs : List V} (d : Dk3 H a c r m) (b : But a r H H') (h : H p = some (.tup xs)) : H' p = some (.tup xs) := by
  have q := d.apart h (fun _ => by intro z; cases z)
  exact b _ _ q.1 q.2 h
/-- a store at a place that is none of the deck's -/
theorem Dk3.upd {H : Hp} {a c r : Addr} {m : Nat} {b : Addr} {o : HO} (h : Dk3 H a c r m) (n : b ≠ a ∧ b ≠ r ∧ b ≠ c) : Dk3 (upd H b o) a c r m := by
  obtain ⟨cs, rs, n', h1, h2, h3, h4⟩ := h
  exact ⟨cs, rs, n', by rw [upd_ne (Ne.symm n.1)]; exact h1, by rw [upd_ne (Ne.symm n.2.2)]; exact h2, by rw [upd_ne (Ne.symm n.2.1)]; exact h3, h4⟩
theorem But.free {a c : Addr} {H H' : Hp} {b : Addr} (x : But a c H H') (h1 : b ≠ a) (h2 : b ≠ c) (e : H' b = none) : H b = none := by
  cases q : H b with
  | none => rfl
  | some o => have := x b o h1 h2 q; rw [e] at this; cases this
/-- the first 63 of at most 63 -/
theorem cut63 (ns : List Int) (h : ns.length ≤ 63) : cutV (ns.map V.int) none (some 63) = ns.map V.int := by
  unfold cutV
  rw [List.length_map]
  have e1 : HT.sIx ns.length 0 none = 0 := rfl
  rw [e1, List.drop_zero]
  refine List.take_of_length_le ?_
  rw [List.length_map]
  have e2 : HT.sIx ns.length ns.length (some 63) = ns.length := by
    rw [show (63 : Int) = ((63 : Nat) : Int) from rfl, HT.sIx_nat]; omega
  rw [e2]; omega
end Pr
namespace Pr
open PySem PySem.Spec PyProof.Rows L2
mutual
inductive Dq (K : PySem.W.Frag) (N : Addr → Prop) (H : Hp) : V → PyData → Prop
  | non : Dq K N H .non .none
  | bl (b : Bool) : Dq K N H (.bl b) (.bool b)
  | int (i : Int) : Dq K N H (.int i) (.int i)
  | str (x : Str) : Dq K N H (.str x) (.str x)
  | lst {l : Addr} {xs : List V} {ds : List PyData} : l ≠ sysModules → ¬ N l → H l = some (.lst xs) → DqAll K N H xs ds → Dq K N H (.ref l) (.list ds)
  | tup {l : Addr} {xs : List V} {ds : List PyData} : SqT K H l xs → DqAll K N H xs ds → Dq K N H (.ref l) (.tuple ds)
  | dct0 {l : Addr} : H l = some (.dK []) → Dq K N H (.ref l) (.dict [])
  | dct1 {l : Addr} {x : Str} {i : Int} : H l = some (.dK [(Sum.inr x, .int i)]) → Dq K N H (.ref l) (.dict [(.str x, .int i)])
inductive DqAll (K : PySem.W.Frag) (N : Addr → Prop) (H : Hp) : List V → List PyData → Prop
  | nil : DqAll K N H [] []
  | cons {v : V} {vs : List V} {d : PyData} {ds : List PyData} : Dq K N H v d → DqAll K N H vs ds → DqAll K N H (v :: vs) (d :: ds)
end
section
variable {K : PySem.W.Frag} {N : Addr → Prop} {a c : Addr} {H H' : Hp}
theorem DqAll.length : ∀ {vs : List V} {ds : List PyData}, DqAll K N H vs ds → vs.length = ds.length
  | _, _, .nil => rfl
  | _, _, .cons _ t => by rw [List.length_cons, List.length_cons, t.length]
theorem DqAll.append : ∀ {vs us : List V} {ds es : List PyData}, DqAll K N H vs ds → DqAll K N H us es → DqAll K N H (vs ++ us) (ds ++ es)
  | _, _, _, _, .nil, h => h
  | _, _, _, _, .cons r t, h => .cons r (t.append h)
theorem DqAll.get : ∀ {vs : List V} {ds : List PyData}, DqAll K N H vs ds → ∀ (i : Nat) (v : V), vs[i]? = some v → ∃ d, ds[i]? = some d ∧ Dq K N H v d
  | _, _, .nil, i, v, h => by simp at h
  | _, _, .cons r t, 0, v, h => by simp at h; subst h; exact ⟨_, rfl, r⟩
  | _, _, .cons r t, i + 1, v, h => by
    obtain ⟨d, h1, h2⟩ := t.get i v (by simpa using h)
    exact ⟨d, by simpa using h1, h2⟩
theorem DqAll.take : ∀ (n : Nat) {vs : List V} {ds : List PyData}, DqAll K N H vs ds → DqAll K N H (vs.take n) (ds.take n)
  | 0, _, _, _ => by simpa using DqAll.nil
  | n + 1, _, _, .nil => .nil
  | n + 1, _, _, .cons r t => .cons r (t.take n)
theorem DqAll.drop : ∀ (n : Nat) {vs : List V} {ds : List PyData}, DqAll K N H vs ds → DqAll K N H (vs.drop n) (ds.drop n)
  | 0, _, _, h => h
  | n + 1, _, _, .nil => .nil
  | n + 1, _, _, .cons r t => t.drop n
theorem DqAll.reverse : ∀ {vs : List V} {ds : List PyData}, DqAll K N H vs ds → DqAll K N H vs.reverse ds.reverse
  | _, _, .nil => .nil
  | _, _, .cons r t => by rw [List.reverse_cons, List.reverse_cons]; exact t.reverse.append (.cons r .nil)
theorem DqAll.rep (n : Nat) {vs : List V} {ds : List PyData} (h : DqAll K N H vs ds) : DqAll K N H (List.replicate n vs).flatten (List.replicate n ds).flatten := by
  induction n with
  | zero => exact .nil
  | succ n ih => rw [List.replicate_succ, List.replicate_succ, List.flatten_cons, List.flatten_cons]; exact h.append ih
theorem dqAll_ints : ∀ l : List Int, DqAll K N H (l.map V.int) (l.map PyData.int)
  | [] => .nil
  | x :: r => .cons (.int x) (dqAll_ints r)
theorem dq_ints {q : Addr} {l : List Int} (h : SqT K H q (l.map V.int)) : Dq K N H (.ref q) (dInts l) := .tup h (dqAll_ints l)
mutual
theorem Dq.keep (hs : ∀ l o, ¬ N l → H l = some o → H' l = some o) (ht : ∀ l xs, SqT K H l xs → SqT K H' l xs) (hk : ∀ l kvs, H l = some (.dK kvs) → H' l = some (.dK kvs)) : ∀ (d : PyData) (v : V), Dq K N H v d → Dq K N H' v d
  | .none, _, h => by cases h; exact .non
  | .bool b, _, h => by cases h; exact .bl b
  | .int i, _, h => by cases h; exact .int i
  | .str x, _, h => by cases h; exact .str x
  | .list ds, _, h => by
    cases h with
    | lst h1 h2 e q => exact .lst h1 h2 (hs _ _ h2 e) (Dq.keepAll hs ht hk ds _ q)
  | .tuple ds, _, h => by
    cases h with
    | tup e q => exact .tup (ht _ _ e) (Dq.keepAll hs ht hk ds _ q)
  | .dict kvs, _, h => by
    cases h with
    | dct0 e => exact .dct0 (hk _ _ e)
    | dct1 e => exact .dct1 (hk _ _ e)
theorem Dq.keepAll (hs : ∀ l o, ¬ N l → H l = some o → H' l = some o) (ht : ∀ l xs, SqT K H l xs → SqT K H' l xs) (hk : ∀ l kvs, H l = some (.dK kvs) → H' l = some (.dK kvs)) : ∀ (ds : List PyData) (vs : List V), DqAll K N H vs ds → DqAll K N H' vs ds
  | [], _, h => by cases h; exact .nil
  | d :: ds, _, h => by
    cases h with
    | cons r t => exact .cons (Dq.keep hs ht hk d _ r) (Dq.keepAll hs ht hk ds _ t)
end
theorem Deck.sqT {m : Nat} (D : Deck H a c m) (b : But a c H H') {l : Addr} {xs : List V} (h : SqT K H l xs) : SqT K H' l xs := by
  rcases h with (h | ⟨o, h⟩) | h
  · exact .inl (.inl (b _ _ (D.apart h (fun _ => by intro z; cases z)).1 (D.apart h (fun _ => by intro z; cases z)).2 h))
  · exact .inl (.inr ⟨o, b _ _ (D.apart h (fun _ => by intro z; cases z)).1 (D.apart h (fun _ => by intro z; cases z)).2 h⟩)
  · exact .inr h
theorem Deck.dk {m : Nat} (D : Deck H a c m) (l : Addr) (kvs : List (Key × V)) (h : H l = some (.dK kvs)) : l ≠ a ∧ l ≠ c := D.apart h (fun _ => by intro z; cases z)
theorem apart_N (na : N a) (nc : N c) {l : Addr} (h : ¬ N l) : l ≠ a ∧ l ≠ c := ⟨fun e => h (by rw [e]; exact na), fun e => h (by rw [e]; exact nc)⟩
theorem Dq.but {m : Nat} (na : N a) (nc : N c) (D : Deck H a c m) (b : But a c H H') {v : V} {d : PyData} (h : Dq K N H v d) : Dq K N H' v d :=
  Dq.keep (fun l o h1 e => b l o (apart_N na nc h1).1 (apart_N na nc h1).2 e) (fun _ _ e => D.sqT b e) (fun l kvs e => b _ _ (D.dk l kvs e).1 (D.dk l kvs e).2 e) d v h
theorem DqAll.but {m : Nat} (na : N a) (nc : N c) (D : Deck H a c m) (b : But a c H H') {v : List V} {d : List PyData} (h : DqAll K N H v d) : DqAll K N H' v d :=
  Dq.keepAll (fun l o h1 e => b l o (apart_N na nc h1).1 (apart_N na nc h1).2 e) (fun _ _ e => D.sqT b e) (fun l kvs e => b _ _ (D.dk l kvs e).1 (D.dk l kvs e).2 e) d v h
mutual
theorem Dq.same (e : Same H H') : ∀ (d : PyData) (v : V), Dq K N H v d → Dq K N H' v d
  | .none, _, h => by cases h; exact .non
  | .bool b, _, h => by cases h; exact .bl b
  | .int i, _, h => by cases h; exact .int i
  | .str x, _, h => by cases h; exact .str x
  | .list ds, _, h => by
    cases h with
    | lst h1 h2 q r => exact .lst h1 h2 (e _ _ q) (Dq.sameAll e ds _ r)
  | .tuple ds, _, h => by
    cases h with
    | tup q r => exact .tup (same_sqT e q) (Dq.sameAll e ds _ r)
  | .dict kvs, _, h => by
    cases h with
    | dct0 q => exact .dct0 (e _ _ q)
    | dct1 q => exact .dct1 (e _ _ q)
theorem Dq.sameAll (e : Same H H') : ∀ (ds : List PyData) (vs : List V), DqAll K N H vs ds → DqAll K N H' vs ds
  | [], _, h => by cases h; exact .nil
  | d :: ds, _, h => by
    cases h with
    | cons r t => exact .cons (Dq.same e d _ r) (Dq.sameAll e ds _ t)
end
/-- its built-in type -/
def tyD : PyData → String
  | .none => "NoneType"
  | .bool _ => "bool"
  | .int _ => "int"
  | .str _ => "str"
  | .list _ => "list"
  | .tuple _ => "tuple"
  | .dict _ => "dict"
theorem tyT {l : Addr} {xs : List V} (h : SqT K H l xs) : TyX K H (.ref l) (.type "tuple") := by
  rcases h with (h | ⟨o, h⟩) | ⟨o, its, n, h, hc, _⟩
  · exact .base (.tup h)
  · exact .fTuple h
  · exact .kTuple h hc
theorem Dq.ty {v : V} {d : PyData} (h : Dq K N H v d) : TyX K H v (.type (tyD d)) := by
  cases h with
  | non => exact .base .non
  | bl b => exact .base (.bl b)
  | int i => exact .base (.int i)
  | str x => exact .base (.str x)
  | lst _ _ e _ => exact .base (.lst e)
  | tup e _ => exact tyT e
  | dct0 e => exact .base (.dK e)
  | dct1 e => exact .base (.dK e)
end
structure Shq (dep n : Nat) (d : PyData) : Prop where
  sh : d.showable = true
  dp : d.depth ≤ dep
  ln : d.shown.length ≤ n
theorem Shq.mono {dep dep' n n' : Nat} {d : PyData} (h : Shq dep n d) (h1 : dep ≤ dep') (h2 : n ≤ n') : Shq dep' n' d := ⟨h.sh, Nat.le_trans h.dp h1, Nat.le_trans h.ln h2⟩
theorem Shw.q {dep n : Nat} {d : PyData} (h : Shw dep n d) : Shq dep n d := ⟨h.sh, h.dp, h.ln⟩
theorem shqAll {dep n : Nat} : ∀ {ds : List PyData}, (∀ d ∈ ds, Shq dep n d) → PyData.showableAll ds = true ∧ PyData.depthAll ds ≤ dep
  | [], _ => ⟨by simp only [PyData.showableAll], by simp [PyData.depthAll]⟩
  | d :: r, h => by
    obtain ⟨h1, h3⟩ := shqAll (ds := r) fun x hx => h x (List.mem_cons_of_mem _ hx)
    have g := h d List.mem_cons_self
    refine ⟨by simp only [PyData.showableAll, g.sh, h1, Bool.and_self], ?_⟩
    simp only [PyData.depthAll]
    exact Nat.max_le.mpr ⟨g.dp, h3⟩
theorem Shq.tuple {dep n m : Nat} {ds : List PyData} (h : ∀ d ∈ ds, Shq dep n d) (hm : ds.length ≤ m) : Shq (dep + 1) (m * (n + 2) + 3) (.tuple ds) := by
  obtain ⟨h1, h3⟩ := shqAll h
  refine ⟨by simp only [PyData.showable, h1], by simp only [PyData.depth]; omega, ?_⟩
  simp only [PyData.shown]
  rw [shownAll_map]
  have a1 := tupleText_len (ds.map PyData.shown)
  have a2 := piled_le fun d hd => (h d hd).ln
  have a3 : ds.length * (n + 2) ≤ m * (n + 2) := Nat.mul_le_mul_right _ hm
  omega
theorem Shq.list {dep n m : Nat} {ds : List PyData} (h : ∀ d ∈ ds, Shq dep n d) (hm : ds.length ≤ m) : Shq (dep + 1) (m * (n + 2) + 3) (.list ds) := by
  obtain ⟨h1, h3⟩ := shqAll h
  refine ⟨by simp only [PyData.showable, h1], by simp only [PyData.depth]; omega, ?_⟩
  simp only [PyData.shown]
  rw [shownAll_map]
  have a1 := listText_len (ds.map PyData.shown)
  have a2 := piled_le fun d hd => (h d hd).ln
  have a3 : ds.length * (n + 2) ≤ m * (n + 2) := Nat.mul_le_mul_right _ hm
  omega
end Pr
namespace Pr
open PySem PySem.Spec PyProof.Rows L2
section
variable {X : Cx} {es : List Expr} {t : TA} {pos : Pos}
def rListG (K : PySem.W.Frag) : List V → Hp → VK → Prop := fun xs H Q => ∃ p ys, xs = [.ref p] ∧ SqT K H p ys ∧ ∀ l, H l = none → l ≠ sysModules → Q (.ref l) (upd H l (.lst ys))
theorem call_listG : CallR X (.type "list") (rListG X.K) := by
  intro pins s σ H xs us Q I r h
  obtain ⟨p, ys, rfl, hq, q⟩ := h
  obtain ⟨u, rfl, rx⟩ := vals1 r
  cases rx
  obtain ⟨its, r', ⟨o, ho, hc, n, hd⟩, hz⟩ := I.tuple hq
  have hlen := r'.length
  refine call_list_seq p (.inr rfl) ho hc hd (fun h' c' kp e => ?_) (by simp only [List.size_toArray] <;> omega)
  exact ⟨.ref s.heap.objs.size, _, I.laid (t' := s.toks) kp (Nat.le_refl _) (show ObjOk X.prog X.w _ h' _ (.lst ys) from ⟨hz, its, c', r', e⟩), rfl, q _ (I.hok.fresh (Nat.le_refl _)) (Nat.ne_of_gt I.big)⟩
end
section
variable {prog : Program} {w : World} {A : Around} {E : Value → Shared → Prop} {s : Shared}
theorem fm_congr {f g : Nat → Option Value} : ∀ {l : List Nat}, (∀ x ∈ l, f x = g x) → l.filterMap f = l.filterMap g
  | [], _ => rfl
  | x :: r, h => by
    rw [List.filterMap_cons, List.filterMap_cons, h x List.mem_cons_self, fm_congr fun y hy => h y (List.mem_cons_of_mem _ hy)]
theorem pick_back (l : List Value) : (List.range l.length).filterMap (fun (k : Nat) => l[(((l.length : Int) - 1) + (k : Int) * (-1)).toNat]?) = l.reverse := by
  have h1 : (List.range l.length).filterMap (fun (k : Nat) => l[(((l.length : Int) - 1) + (k : Int) * (-1)).toNat]?) = (List.range l.length).filterMap (fun (k : Nat) => some ((l[l.length - 1 - k]?).getD .none)) := by
    refine fm_congr fun k hk => ?_
    have hk' := List.mem_range.mp hk
    rw [show (((l.length : Int) - 1) + (k : Int) * (-1)).toNat = l.length - 1 - k by omega, List.getElem?_eq_getElem (by omega)]; rfl
  rw [h1, show (fun (k : Nat) => some ((l[l.length - 1 - k]?).getD Value.none)) = some ∘ (fun k : Nat => (l[l.length - 1 - k]?).getD Value.none) from rfl, List.filterMap_eq_map]
  refine List.ext_getElem? fun i => ?_
  by_cases hi : i < l.length
  · rw [List.getElem?_map, List.getElem?_range hi, List.getElem?_reverse hi, List.getElem?_eq_getElem (by omega)]
    show some ((l[l.length - 1 - i]?).getD Value.none) = _
    rw [List.getElem?_eq_getElem (by omega)]; rfl
  · rw [List.getElem?_eq_none (by rw [List.length_map, List.length_range]; omega), List.getElem?_eq_none (by rw [List.length_reverse]; omega)]
end
end Pr
namespace Pr
open PySem PySem.Spec PyProof.Rows L2
def PanT (K : PySem.W.Frag) (H : Hp) (p : Addr) (pan : List (List Int)) : Prop := ∃ qs : List Addr, SqT K H p (qs.map V.ref) ∧ Paired (fun q l => SqT K H q (l.map V.int)) qs pan
section
variable {K : PySem.W.Frag} {H H' : Hp} {p : Addr} {pan : List (List Int)}
theorem PanT.same (e : Same H H') (h : PanT K H p pan) : PanT K H' p pan :=
  let ⟨qs, h1, h2⟩ := h; ⟨qs, same_sqT e h1, h2.mono fun _ _ x => same_sqT e x⟩
theorem PanAt.t (h : PanAt H p pan) : PanT K H p pan :=
  let ⟨qs, h1, h2⟩ := h; ⟨qs, h1.sq, h2.mono fun _ _ x => x.sq⟩
theorem panT_at (h : PanT K H p pan) {b : Int} (h0 : 0 ≤ b) (h1 : b < (pan.length : Int)) :
    ∃ (qs : List Addr) (q : Addr), SqT K H p (qs.map V.ref) ∧ atI (qs.map V.ref) b = some (.ref q) ∧ SqT K H q ((pan.getD b.toNat []).map V.int) ∧ qs.length = pan.length := by
  obtain ⟨qs, hq, hqs⟩ := h
  obtain ⟨n, rfl⟩ : ∃ n : Nat, b = (n : Int) := ⟨b.toNat, (Int.toNat_of_nonneg h0).symm⟩
  have hn : n < pan.length := by omega
  obtain ⟨q', g1, g2⟩ := paired_get hqs n pan[n] (List.getElem?_eq_getElem hn)
  refine ⟨qs, q', hq, atI_nat (by rw [List.getElem?_map, g1]; rfl), ?_, hqs.length⟩
  rw [Int.toNat_natCast, List.getD_eq_getElem?_getD, List.getElem?_eq_getElem hn]
  exact g2
theorem PanT.len (h : PanT K H p pan) : ∃ xs : List V, SqT K H p xs ∧ xs.length = pan.length :=
  let ⟨qs, h1, h2⟩ := h; ⟨_, h1, by rw [List.length_map, h2.length]⟩
theorem dpAll_panT : ∀ {qs : List Addr} {pan : List (List Int)}, Paired (fun q l => SqT K H q (l.map V.int)) qs pan → DpAll K H (qs.map V.ref) (pan.map dInts)
  | _, _, .nil => .nil
  | _, _, .cons r t => .cons (dp_ints r) (dpAll_panT t)
theorem PanT.dp (h : PanT K H p pan) : Dp K H (.ref p) (dPan pan) := let ⟨_, h1, h2⟩ := h; .tup h1 (dpAll_panT h2)
end
end Pr
namespace Pr
open PySem PySem.Spec PyProof.Rows L2
section
variable {P : Program} {w : World} {A : Around} {E : Value → Shared → Prop} {s : Shared}
/-- a set just made -/
def set0 (w : World) : Obj := { cls := .type "set", dict := none, data := .set #[] 0 (.fresh 0 0 (!w.params.followText "set-order")) }
/-- a type's call by the codes of its two steps -/
theorem type_by {T nw ini : String} {xs : List Value} {Q Q1 : Value → Shared → Prop} (tc : TypeCalled T nw ini) (ok : checkTypeCall T ⟨xs, []⟩ = pure ())
    (first : codeAny (model P w) A.in1 (.call (.builtin nw) ⟨.type T :: xs, []⟩) (wants Q1 E) s)
    (second : ∀ v t, Q1 v t → t.TypeIs v T ∧ codeAny (model P w) A.in1 (.call (.builtin ini) ⟨v :: xs, []⟩) (wants (fun u t' => u = .none ∧ Q v t') E) t) :
    wpAny (model P w) A (call (.type T) xs) Q E s := by
  have f1 := tc.made; have f2 := tc.sub; have f3 := tc.notType; have f4 := tc.canCreate
  obtain ⟨c0, cs, f5⟩ := tc.mro
  apply wpAny_call; apply codeAny_of_tree
  change wpAny _ _ (callAny (Value.type T) _) _ _ _
  apply wpAny_pure; refine ⟨Code.quiet_builtin _ (by decide +kernel), ?_⟩
  apply codeAny_builtin F.entry_type_call; rw [Around.under_plain (weight_type_call_type T xs []) rfl]
  repeat (any_goals (first | assumption | wp_step))
  apply codeAny_mono first; intro r t hr
  match r, hr with
  | .error e, hr => exact hr
  | .ok .next, hr => exact hr.elim
  | .ok .brk, hr => exact hr.elim
  | .ok .cont, hr => exact hr.elim
  | .ok (.ret v), hr =>
    obtain ⟨hT, hc⟩ := second v t hr
    have f6 := tc.init.lookup; have f7 := tc.init.bind v
    repeat (any_goals (first | assumption | wp_step))
    apply codeAny_mono hc; intro r2 t2 hr2
    match r2, hr2 with
    | .error e, hr2 => exact hr2
    | .ok .next, hr2 => exact hr2.elim
    | .ok .brk, hr2 => exact hr2.elim
    | .ok .cont, hr2 => exact hr2.elim
    | .ok (.ret u), hr2 =>
      obtain ⟨rfl, hq⟩ := hr2
      repeat (any_goals (first | assumption | wp_step))
theorem call_setL {l : Addr} {its : Array Value} (ns : List Int) {Q : Value → Shared → Prop} (hh : A.handled = none) (hl : s.heap.IsList l its) (hi : IntsAre its.toList ns) (hb : ns.length + 1 < scanBound)
    (h : ∀ (h' : Heap) (tk c : Nat), SetR w h' s.heap.objs.size (fun j => decide (j ∈ ns)) c → (∀ b o, s.heap.get? b = some o → h'.get? b = some o) → Q (.ref s.heap.objs.size) { s with heap := h', toks := tk }) :
    wpAny (model P w) A (call (.type "set") [.ref l]) Q E s := by
  have hn : its.size = ns.length := by simpa using hi.length
  refine type_by F.called_set (F.typeCall_set_1 (.ref l)) (Q1 := fun v t => v = .ref s.heap.objs.size ∧ t = { s with heap := s.heap.push (set0 w) }) (code_set_led1 (.ref l) ⟨rfl, rfl⟩) ?_
  rintro obj t ⟨rfl, rfl⟩
  have hS : (s.heap.push (set0 w)).get? s.heap.objs.size = some (set0 w) := Heap.get?_push_size _ rfl
  refine ⟨⟨_, hS, rfl⟩, codeAny_call_builtin F.called_set.init.plain F.entry_set_init (check_set_init_1 ⟨_, hS, rfl⟩ ?_)⟩
  obtain ⟨⟨oc, od, odt, osl⟩, hol, hc, n, hd⟩ := id hl
  simp only at hc hd
  subst hc hd
  have lS : l < s.heap.objs.size := Heap.lt_size hol
  have hL : (s.heap.push (set0 w)).get? l = some { cls := .type "list", dict := od, data := .seq its n, slots := osl } := Heap.get?_push_of_some _ hol
  have hLl : (s.heap.push (set0 w)).IsList l its := ⟨_, hL, rfl, n, rfl⟩
  have k1 := F.sub_list_set
  have k2 := F.sub_list_frozenset
  have k3 : (Value.type "list" == Value.type "dict") = false := by decide
  have hz : (s.heap.push (set0 w)).objs.size = s.heap.objs.size + 1 := Heap.size_push ..
  have hP : s.heap.push (set0 w) = s.heap.push { cls := .type "set", dict := none, data := .set #[] 0 (.fresh 0 0 (!w.params.followText "set-order")) } := rfl
  generalize hG : s.heap.push (set0 w) = G at hS hL hLl hz ⊢
  unfold Builtin.«set.__init__» noKeywords Builtin.Frozenset.updateFrom
  generalize hI : pyIter = PI
  wp_walk
  subst hI
  refine wpAny_pyIter_list hLl (wpAny_bind (wpAny_runValue ?_))
  have at0 : (G.push { cls := .type "list_iterator", data := .fields #[.ref l, .int 0 0] }).get? s.heap.objs.size = some (set0 w) := Heap.get?_push_of_some _ hS
  have out1 : l ≠ G.objs.size := by rw [hz]; exact Nat.ne_of_lt (Nat.lt_succ_of_lt lS)
  have out2 : s.heap.objs.size ∉ [G.objs.size, l] := by
    rw [hz]
    intro q
    rcases List.mem_cons.mp q with e | e
    · exact Nat.ne_of_lt (Nat.lt_succ_self _) e
    · exact Nat.ne_of_lt lS (List.mem_singleton.mp e).symm
  have vals : ∀ (i : Nat) (v : Value), its[i]? = some v → ∃ k t, ns[i]? = some k ∧ v = .int k t := by
    intro i v hv
    have li : i < ns.length := hn ▸ (Array.getElem?_eq_some_iff.mp hv).1
    obtain ⟨t, e⟩ := hi.int_at i v (by rw [Array.getElem?_toList]; exact hv)
    rw [List.getD_eq_getElem?_getD, List.getElem?_eq_getElem li] at e
    exact ⟨ns[i], t, List.getElem?_eq_getElem li, e⟩
  have hh' : A.in1.in1.in1.handled = none := by simp [hh]
  refine set_update_ints (Walks.list hh' G.objs.size l out1 its).toS s.heap.objs.size out2 ns hn hb vals its.size 0 _ (Nat.sub_zero _) (Nat.zero_le _) ⟨⟨_, Heap.get?_push_size _ rfl, rfl, rfl⟩, hLl.push _⟩ ⟨0, Nat.le_refl _, setR_new_at at0⟩ ?_
  intro t' c mv _ R
  obtain ⟨h2, g2, d2, tk2, os2⟩ := t'
  obtain rfl : g2 = s.gens := mv.gens
  obtain rfl : d2 = s.drawn := mv.drawn
  obtain rfl : os2 = s.os := mv.os
  refine wpAny_pure (wpAny_pure ⟨rfl, h h2 tk2 c R fun b o e => ?_⟩)
  have lb : b < s.heap.objs.size := Heap.lt_size e
  refine mv.heap b o (fun q => ?_) (Heap.get?_push_of_some _ (by rw [← hG]; exact Heap.get?_push_of_some _ e))
  rcases List.mem_cons.mp q with e | e
  · exact Nat.ne_of_lt lb e
  · exact Nat.ne_of_lt (Nat.lt_succ_of_lt lb) ((List.mem_singleton.mp e).trans hz)
end
theorem nodup_few : ∀ (m : Nat) (l : List Int), l.Nodup → (∀ x ∈ l, 0 ≤ x ∧ x < (m : Int)) → l.length ≤ m
  | 0, l, _, h => by
    cases l with
    | nil => exact Nat.le_refl _
    | cons x r => have := h x List.mem_cons_self; omega
  | m + 1, l, hn, h => by
    have ih := nodup_few m (l.erase (m : Int)) (hn.erase _) fun x hx => by
      have h1 := (hn.mem_erase_iff.mp hx)
      have h2 := h x h1.2
      have h3 := h1.1
      omega
    have hl := List.length_erase (a := (m : Int)) (l := l)
    split at hl <;> omega
section
variable {X : Cx}
/-- set(list of ints) -/
def rSetL' (K : PySem.W.Frag) (w : World) : List V → Hp → VK → Prop := fun vs H Q => ∃ (a : Addr) (ns : List Int), vs = [V.ref a] ∧ SqL K H a (ns.map V.int) ∧ ns.length ≤ 1000 ∧
  ∀ (l : Addr) (n : Nat) (ks : List Int), H l = none → ks.Nodup → (∀ k, k ∈ ks ↔ k ∈ ns) → ks.length = n → Q (.ref l) (upd H l (SetO w l (fun j => decide (j ∈ ns)) n))
theorem cr_setL (hc : X.calm = true) : CallR X (.type "set") (rSetL' X.K X.w) := by
  intro pins s σ H vs us Q I r h
  obtain ⟨a, ns, rfl, hs, hn, q⟩ := h
  obtain ⟨its, rv, pl, hz⟩ := I.list hs
  rw [Vals.ref1 r]
  have hi := rv.ints
  refine call_setL ns (I.ok.hd hc) pl.isList (by simpa using hi) (Nat.lt_of_le_of_lt (Nat.add_le_add_right hn 1) (by decide)) fun h' tk n R kp => ?_
  obtain ⟨o, es, ep, t, h1, h2, h3, h4, h5, h6, h7, h8, h9, h10⟩ := id R
  refine ⟨.ref s.heap.objs.size, _, I.laid (t' := tk) kp (Nat.le_refl _) (setO_new R), rfl, q _ n (es.toList.map keyOf) (I.hok.fresh (Nat.le_refl _)) h5 (fun k => ?_) (by rw [List.length_map, Array.length_toList]; exact h9)⟩
  rw [← h6 k, decide_eq_true_eq]
/-- sorted(set(list of ints)), the ints from 0 to 62 -/
def rSortSet (K : PySem.W.Frag) : List V → Hp → VK → Prop := fun vs H Q => ∃ (a : Addr) (ns : List Int) (m : Nat), vs = [V.ref a] ∧ SqL K H a (ns.map V.int) ∧ ns.length ≤ 1000 ∧ m < 64 ∧ (∀ x ∈ ns, 0 ≤ x ∧ x < (m : Int)) ∧
  ∀ (ms : List Int) (p : Addr) (H' : Hp), Same H H' → H' p = some (.lst (ms.map V.int)) → ms.Pairwise (· < ·) → (∀ k, k ∈ ms ↔ k ∈ ns) → H p = none → Q (.ref p) H'
/-- what set asks, where sorted stands around it -/
theorem sortSet_of {w : World} {K : PySem.W.Frag} {vs : List V} {H : Hp} {Q : VK} (h : rSortSet K vs H Q) : rSetL' K w vs H (fun x H1 => rSortedSet w [x] H1 Q) := by
  obtain ⟨a, ns, m, rfl, hs, hn, hm, hr, q⟩ := h
  refine ⟨a, ns, rfl, hs, hn, fun l n ks nl nd mem len => ⟨l, _, n, rfl, upd_same, ?_, fun ms p up mm _ np => ?_⟩⟩
  · rw [← len]
    exact Nat.lt_of_le_of_lt (nodup_few m ks nd fun x hx => hr x ((mem x).mp hx)) hm
  · have sl : Same H (upd H l (SetO w l (fun j => decide (j ∈ ns)) n)) := same_new nl
    exact q ms p _ (sl.trans (same_new np)) upd_same up (fun k => by rw [mm k, decide_eq_true_eq]) (sl.free np)
end
end Pr
namespace Pr
open PySem PySem.Spec PyProof.Rows L2
section
variable {X : Cx}
def tTupF (t : TA) : TE := fun σ H Q => t σ H fun xs H1 => xs.length ≤ sizeLine ∧ ∀ p o, H1 p = none → o.dict = none → Q (.ref p) (upd H1 p (.frz o (.tup xs)))
theorem pe_tupF {es : List Expr} {t : TA} {x1 : Nat} {pos : Pos} (h : PA X es t) : PE X (.Tuple es x1 pos) (tTupF t) :=
  ⟨fun pins s σ H Q I hq => wpAny_Tuple_spliced (thn (h.run pos pins s σ H _ I hq) fun us s1 ⟨xs, H1, I1, r, z, q⟩ => ⟨r.length ▸ z,
    ⟨.ref s1.heap.objs.size, _, I1.laid (t' := s1.toks) (o := .frz { cls := .type "tuple", data := .seq us.toArray } (.tup xs)) (fun _ _ e => Heap.get?_push_of_some _ e) (Nat.le_refl _) ⟨Heap.get?_push_size _ rfl, z, us, r, IsTup.new _ _⟩, rfl,
      q _ _ (I1.hok.fresh (Nat.le_refl _)) rfl⟩⟩)⟩
/-- (v,) * k of a known tuple -/
def rRepF : R2 := fun x y H Q => ∃ (l : Addr) (v : V) (k : Nat), x = .ref l ∧ y = .int (k : Int) ∧ FT H l [v] ∧ 1 ≤ k ∧ k ≤ 1000 ∧ ∀ p H', Same H H' → FT H' p (List.replicate k v) → Q (.ref p) H'
theorem op_repF : OpR X (binaryOp .Mult) rRepF := by
  intro pins s σ H x y u1 u2 Q I rx ry h
  obtain ⟨l, v, k, rfl, rfl, hF, h1, h2, q⟩ := h
  by_cases e1 : k = 1
  · subst e1
    exact op_rep1 pins s σ H _ _ u1 u2 Q I rx ry ⟨l, v, rfl, hF.sq, .inl ⟨rfl, q l H (Same.refl _) hF⟩⟩
  · cases rx
    obtain ⟨tk, rfl⟩ := ry
    obtain ⟨its, r, ⟨⟨cls, dd, data, sl⟩, ho, hc, n, hd⟩, hs⟩ := I.tuple (hF.sq (K := X.K))
    simp only at hc hd
    subst hc hd
    obtain ⟨a, rfl, ra⟩ := vals1 r
    have big : (List.replicate k [a]).flatten.length ≤ sizeLine := by
      rw [rep_flat, List.length_replicate, sizeLine_eq]; omega
    have sz : (([a] : List Value).toArray.size : Int) * (k : Int) = (k : Int) := by
      show (1 : Int) * (k : Int) = _
      omega
    have big2 : (List.foldl (fun x1 x2 => x1 ++ x2) #[] (List.replicate ((k : Int)).toNat ([a] : List Value).toArray)).size ≤ sizeLine := by
      rw [size_rep, List.size_toArray, Int.toNat_natCast]; exact big
    refine wpAny_binaryOp_repeat_ref (T := "tuple") (U := "int") (by decide) ⟨_, ho, rfl⟩ (fun s' => typeIs_int s' (k : Int) tk) noFill_tuple_mul F.fills_int_mul F.slot_int_rmul repeat_tuple F.slot_int_index.lookup ?_
    refine call_meets F.slot_int_rmul (typeIs_int s (k : Int) tk) F.entry_int_rmul (F.args_int_rmul_2 _ _) (int_rmul_tuple (k : Int) tk l _ n dd sl) ⟨ho, rfl, ⟨_, ho, rfl⟩, ?_⟩
    refine call_meets F.slot_tuple_mul ⟨_, ho, rfl⟩ F.entry_tuple_mul (F.args_tuple_mul_2 _ _) (tuple_mulW l _ n dd sl (k : Int) tk ?_ ?_ ?_ ?_ ?_ big2) ⟨ho, ?_⟩
    · rw [decide_eq_false (by omega), decide_eq_false (by omega)]; rfl
    · show (false || ((k : Int) == 1)) = false
      rw [Bool.false_or]; exact beq_eq_false_iff_ne.mpr (by omega)
    · rw [decide_eq_false (by omega)]; rfl
    · rw [sz]; omega
    · unfold Builtin.Tuple.tupleTooMany
      rw [sz, sizeLine_eq]; exact decide_eq_false (by omega)
    · rw [size_rep, Int.toNat_natCast]
      have rr := r.rep k
      refine ⟨.ref s.heap.objs.size, _, I.laid (t' := s.toks) (o := .frz { cls := .type "tuple", data := .seq (List.replicate k [a]).flatten.toArray } (.tup (List.replicate k [v]).flatten)) (fun _ _ e => Heap.get?_push_of_some _ e) (Nat.le_refl _) ⟨Heap.get?_push_size _ rfl, ?_, _, rr, IsTup.new _ _⟩, rfl,
        q _ _ (same_new (I.hok.fresh (Nat.le_refl _))) ⟨_, by rw [upd_same, rep_flat (v := v)], rfl⟩⟩
      rw [rep_flat, List.length_replicate, sizeLine_eq]; omega
/-- t + u, one way on -/
def rCatS (K : PySem.W.Frag) : R2 := fun x y H Q => ∃ a b xs ys, x = .ref a ∧ y = .ref b ∧ SqT K H a xs ∧ SqT K H b ys ∧ xs.length + ys.length ≤ sizeLine ∧ ∀ p H', Same H H' → SqT K H' p (xs ++ ys) → Q (.ref p) H'
theorem op_catS : OpR X (binaryOp .Add) (rCatS X.K) := by
  intro pins s σ H x y u1 u2 Q I rx ry h
  obtain ⟨a, b, xs, ys, rfl, rfl, ha, hb, hz, q⟩ := h
  refine op_catA pins s σ H _ _ u1 u2 Q I rx ry ⟨a, b, xs, ys, rfl, rfl, ha, hb, hz, fun e => q b H (Same.refl _) ?_, fun _ e => q a H (Same.refl _) ?_, fun _ _ p np => q p _ (same_new np) (.inl (.inl upd_same))⟩
  · rw [e]; exact hb
  · rw [e, List.append_nil]; exact ha
/-- t[lo:hi], one way on -/
def rSlS (K : PySem.W.Frag) : V → Option Int → Option Int → Hp → VK → Prop := fun x lo hi H Q => ∃ a xs, x = .ref a ∧ SqT K H a xs ∧ ∀ p H', Same H H' → SqT K H' p (cutV xs lo hi) → Q (.ref p) H'
theorem sl_tupS : SlR X (rSlS X.K) := by
  intro pins s σ H x v vl vu lo hi sl Q I rx hs pl pu h
  obtain ⟨a, xs, rfl, ha, q⟩ := h
  refine sl_tupA pins s σ H _ v vl vu lo hi sl Q I rx hs pl pu ⟨a, xs, rfl, ha, fun e => q a H (Same.refl _) ?_, fun _ p np => q p _ (same_new np) (.inl (.inl upd_same))⟩
  have : cutV xs lo hi = xs := by
    unfold cutV
    rw [e.1, e.2, List.drop_zero, Nat.sub_zero, List.take_length]
  rw [this]; exact ha
end
end Pr
namespace Pr
open PySem PySem.Spec PyProof.Rows L2
end Pr
namespace Pr
open PySem PySem.Spec PyProof.Rows L2
end Pr
namespace Pr
open PySem PySem.Spec PyProof.Rows L2
mutual
def lf : PyData → Bool
  | .list _ => false
  | .dict _ => false
  | .tuple ds => lfAll ds
  | .none => true
  | .bool _ => true
  | .int _ => true
  | .str _ => true
def lfAll : List PyData → Bool
  | [] => true
  | d :: r => lf d && lfAll r
end
theorem lfAll_of {ds : List PyData} (h : ∀ d ∈ ds, lf d = true) : lfAll ds = true := by
  induction ds with
  | nil => simp [lfAll]
  | cons d r ih => simp [lfAll, h d List.mem_cons_self, ih fun x hx => h x (List.mem_cons_of_mem _ hx)]
theorem lf_tup {ds : List PyData} (h : ∀ d ∈ ds, lf d = true) : lf (.tuple ds) = true := by simp only [lf]; exact lfAll_of h
theorem lf_ints (l : List Int) : lf (dInts l) = true := lf_tup fun d hd => by
  obtain ⟨x, _, rfl⟩ := List.mem_map.mp hd
  simp only [lf]
theorem lf_pan (p : List (List Int)) : lf (dPan p) = true := lf_tup fun d hd => by
  obtain ⟨x, _, rfl⟩ := List.mem_map.mp hd
  exact lf_ints x
theorem lf_strs (l : List Str) : lf (dStrs l) = true := lf_tup fun d hd => by
  obtain ⟨x, _, rfl⟩ := List.mem_map.mp hd
  simp only [lf]
def Kp (H H' : Hp) : Prop := (∀ b xs, H b = some (.tup xs) → H' b = some (.tup xs)) ∧ ∀ b o u, H b = some (.frz o u) → H' b = some (.frz o u)
theorem Kp.refl (H : Hp) : Kp H H := ⟨fun _ _ h => h, fun _ _ _ h => h⟩
theorem Kp.trans {H H1 H2 : Hp} (x : Kp H H1) (y : Kp H1 H2) : Kp H H2 := ⟨fun b xs h => y.1 b xs (x.1 b xs h), fun b o u h => y.2 b o u (x.2 b o u h)⟩
theorem Kp.of {H H' : Hp} (x : Same H H') : Kp H H' := ⟨fun b xs h => x b _ h, fun b o u h => x b _ h⟩
theorem Kp.upd {H : Hp} {D : Addr} {xs : List V} {o : HO} (h : H D = some (.lst xs)) : Kp H (upd H D o) :=
  ⟨fun b ys e => by rw [upd_ne (ne_of e h (by intro z; cases z))]; exact e, fun b q u e => by rw [upd_ne (ne_of e h (by intro z; cases z))]; exact e⟩
theorem Kp.but {H H' : Hp} {a c : Addr} {m : Nat} (d : Deck H a c m) (b : But a c H H') : Kp H H' :=
  ⟨fun p xs e => let q := d.apart e (fun _ => by intro z; cases z); b _ _ q.1 q.2 e, fun p o u e => let q := d.apart e (fun _ => by intro z; cases z); b _ _ q.1 q.2 e⟩
theorem FT.kp {H H' : Hp} {a : Addr} {xs : List V} (e : Kp H H') (h : FT H a xs) : FT H' a xs := let ⟨o, q, z⟩ := h; ⟨o, e.2 _ _ _ q, z⟩
theorem PanAt.kp {H H' : Hp} {p : Addr} {pan : List (List Int)} (e : Kp H H') (h : PanAt H p pan) : PanAt H' p pan :=
  let ⟨qs, h1, h2⟩ := h; ⟨qs, h1.kp e, h2.mono fun _ _ x => x.kp e⟩
section
variable {K : PySem.W.Frag} {H H' : Hp}
theorem sqT_kp {a : Addr} {xs : List V} (e : Kp H H') (h : SqT K H a xs) : SqT K H' a xs := by
  rcases h with (h | ⟨o, h⟩) | h
  · exact .inl (.inl (e.1 _ _ h))
  · exact .inl (.inr ⟨o, e.2 _ _ _ h⟩)
  · exact .inr h
mutual
theorem dp_same (e : Same H H') : ∀ (d : PyData) (v : V), Dp K H v d → Dp K H' v d
  | .none, _, h => by cases h; exact .non
  | .bool _, _, h => by cases h; exact .bl _
  | .int _, _, h => by cases h; exact .int _
  | .str _, _, h => by cases h; exact .str _
  | .list ds, _, h => by cases h with | lst q r => exact .lst (e.seq q) (dpAll_same e ds _ r)
  | .tuple ds, _, h => by cases h with | tup q r => exact .tup (same_sqT e q) (dpAll_same e ds _ r)
  | .dict _, _, h => by cases h
theorem dpAll_same (e : Same H H') : ∀ (ds : List PyData) (vs : List V), DpAll K H vs ds → DpAll K H' vs ds
  | [], _, h => by cases h; exact .nil
  | d :: r, _, h => by cases h with | cons x y => exact .cons (dp_same e d _ x) (dpAll_same e r _ y)
end
mutual
theorem dp_kp (e : Kp H H') : ∀ (d : PyData) (v : V), lf d = true → Dp K H v d → Dp K H' v d
  | .none, _, _, h => by cases h; exact .non
  | .bool _, _, _, h => by cases h; exact .bl _
  | .int _, _, _, h => by cases h; exact .int _
  | .str _, _, _, h => by cases h; exact .str _
  | .list ds, _, z, h => by simp [lf] at z
  | .tuple ds, _, z, h => by cases h with | tup q r => exact .tup (sqT_kp e q) (dpAll_kp e ds _ (by simpa [lf] using z) r)
  | .dict _, _, _, h => by cases h
theorem dpAll_kp (e : Kp H H') : ∀ (ds : List PyData) (vs : List V), lfAll ds = true → DpAll K H vs ds → DpAll K H' vs ds
  | [], _, _, h => by cases h; exact .nil
  | d :: r, _, z, h => by
    simp only [lfAll, Bool.and_eq_true] at z
    cases h with | cons x y => exact .cons (dp_kp e d _ z.1 x) (dpAll_kp e r _ z.2 y)
end
theorem _root_.L2.Dp.sm {d : PyData} {v : V} (h : Dp K H v d) (e : Same H H') : Dp K H' v d := dp_same e d v h
theorem _root_.L2.DpAll.sm {ds : List PyData} {vs : List V} (h : DpAll K H vs ds) (e : Same H H') : DpAll K H' vs ds := dpAll_same e ds vs h
theorem _root_.L2.Dp.kp {d : PyData} {v : V} (h : Dp K H v d) (e : Kp H H') (z : lf d = true := by first | exact lf_pan _ | exact lf_ints _ | exact lf_strs _ | rfl | assumption) : Dp K H' v d := dp_kp e d v z h
theorem _root_.L2.DpAll.length {ds : List PyData} : ∀ {vs : List V}, DpAll K H vs ds → vs.length = ds.length := by
  induction ds with
  | nil => intro vs h; cases h; rfl
  | cons d r ih => intro vs h; cases h with | cons x y => simp [ih y]
theorem _root_.L2.DpAll.get {ds : List PyData} : ∀ {vs : List V}, DpAll K H vs ds → ∀ (i : Nat) (d : PyData), ds[i]? = some d → ∃ v, vs[i]? = some v ∧ Dp K H v d := by
  induction ds with
  | nil => intro vs h i d e; simp at e
  | cons d' r ih =>
    intro vs h i d e
    cases h with
    | cons x y =>
      cases i with
      | zero => simp at e; subst e; exact ⟨_, rfl, x⟩
      | succ i => obtain ⟨v, h1, h2⟩ := ih y i d (by simpa using e); exact ⟨v, by simpa using h1, h2⟩
theorem _root_.L2.DpAll.of_get {vs : List V} {ds : List PyData} (hl : vs.length = ds.length) (h : ∀ (i : Nat) v d, vs[i]? = some v → ds[i]? = some d → Dp K H v d) : DpAll K H vs ds := by
  induction vs generalizing ds with
  | nil => cases ds with | nil => exact .nil | cons d r => simp at hl
  | cons v r ih =>
    cases ds with
    | nil => simp at hl
    | cons d ds => exact .cons (h 0 v d rfl rfl) (ih (by simpa using hl) fun i v d h1 h2 => h (i + 1) v d (by simpa using h1) (by simpa using h2))
theorem _root_.L2.DpAll.append {d1 d2 : List PyData} : ∀ {v1 v2 : List V}, DpAll K H v1 d1 → DpAll K H v2 d2 → DpAll K H (v1 ++ v2) (d1 ++ d2) := by
  induction d1 with
  | nil => intro v1 v2 h g; cases h; exact g
  | cons d r ih => intro v1 v2 h g; cases h with | cons x y => exact .cons x (ih y g)
theorem _root_.L2.DpAll.take {ds : List PyData} : ∀ {vs : List V} (n : Nat), DpAll K H vs ds → DpAll K H (vs.take n) (ds.take n) := by
  induction ds with
  | nil => intro vs n h; cases h; simp; exact .nil
  | cons d r ih =>
    intro vs n h
    cases h with
    | cons x y =>
      cases n with
      | zero => simp; exact .nil
      | succ n => simpa using DpAll.cons x (ih n y)
theorem _root_.L2.DpAll.drop {ds : List PyData} : ∀ {vs : List V} (n : Nat), DpAll K H vs ds → DpAll K H (vs.drop n) (ds.drop n) := by
  induction ds with
  | nil => intro vs n h; cases h; simp; exact .nil
  | cons d r ih =>
    intro vs n h
    cases h with
    | cons x y =>
      cases n with
      | zero => simpa using DpAll.cons x y
      | succ n => simpa using ih n y
theorem _root_.L2.DpAll.reverse {ds : List PyData} : ∀ {vs : List V}, DpAll K H vs ds → DpAll K H vs.reverse ds.reverse := by
  induction ds with
  | nil => intro vs h; cases h; exact .nil
  | cons d r ih =>
    intro vs h
    cases h with
    | cons x y => rw [List.reverse_cons, List.reverse_cons]; exact DpAll.append (ih y) (.cons x .nil)
theorem dpAll_intsV : ∀ {l : List Int} {vs : List V}, DpAll K H vs (l.map PyData.int) → vs = l.map V.int
  | [], _, h => by cases h; rfl
  | x :: r, _, h => by
    rw [List.map_cons] at h
    cases h with | cons a b => cases a; rw [dpAll_intsV b]; rfl
theorem dpAll_strsV : ∀ {l : List Str} {vs : List V}, DpAll K H vs (l.map PyData.str) → vs = l.map V.str
  | [], _, h => by cases h; rfl
  | x :: r, _, h => by
    rw [List.map_cons] at h
    cases h with | cons a b => cases a; rw [dpAll_strsV b]; rfl
theorem dpAll_blsV : ∀ {l : List Bool} {vs : List V}, DpAll K H vs (l.map PyData.bool) → vs = l.map V.bl
  | [], _, h => by cases h; rfl
  | x :: r, _, h => by
    rw [List.map_cons] at h
    cases h with | cons a b => cases a; rw [dpAll_blsV b]; rfl
theorem _root_.L2.Dp.tupI {v : V} {ds : List PyData} (h : Dp K H v (.tuple ds)) : ∃ a xs, v = .ref a ∧ SqT K H a xs ∧ DpAll K H xs ds := by cases h with | tup q r => exact ⟨_, _, rfl, q, r⟩
theorem _root_.L2.Dp.lstI {v : V} {ds : List PyData} (h : Dp K H v (.list ds)) : ∃ a xs, v = .ref a ∧ SqL K H a xs ∧ DpAll K H xs ds := by cases h with | lst q r => exact ⟨_, _, rfl, q, r⟩
theorem _root_.L2.Dp.intsI {v : V} {l : List Int} (h : Dp K H v (dInts l)) : ∃ a, v = .ref a ∧ SqT K H a (l.map V.int) := by
  obtain ⟨a, xs, rfl, q, r⟩ := Dp.tupI h
  rw [dpAll_intsV r] at q
  exact ⟨a, rfl, q⟩
end
section
variable (K : PySem.W.Frag)
def Gv (t : TE) (σ : L2.St) (H : Hp) (d : PyData) : Prop := ∀ H1, Same H H1 → ∀ Q : VK, (∀ v H', Same H1 H' → Dp K H' v d → Q v H') → t σ H1 Q
/-- a list that is tracked -/
def GvL (t : TE) (σ : L2.St) (H : Hp) (ds : List PyData) : Prop := ∀ H1, Same H H1 → ∀ Q : VK, (∀ a vs H', Same H1 H' → H' a = some (.lst vs) → DpAll K H' vs ds → Q (.ref a) H') → t σ H1 Q
/-- a new list -/
def GvN (t : TE) (σ : L2.St) (H : Hp) (ds : List PyData) : Prop := ∀ H1, Same H H1 → ∀ Q : VK, (∀ a vs H', Same H1 H' → H1 a = none → H' a = some (.lst vs) → DpAll K H' vs ds → Q (.ref a) H') → t σ H1 Q
def GvA (t : TA) (σ : L2.St) (H : Hp) (ds : List PyData) : Prop := ∀ H1, Same H H1 → ∀ Q : List V → Hp → Prop, (∀ vs H', Same H1 H' → DpAll K H' vs ds → Q vs H') → t σ H1 Q
def GvT (t : TT) (σ : L2.St) (H : Hp) (b : Bool) : Prop := ∀ H1, Same H H1 → ∀ Q : Bool → Hp → Prop, (∀ H', Same H1 H' → Q b H') → t σ H1 Q
/-- what a walk gives, while what it goes over stays as R says -/
def GvI (R : Hp → Hp → Prop) (wi : TI) (σ : L2.St) (H : Hp) (ds : List PyData) : Prop := ∀ H1, Same H H1 → ∀ Q : It → Hp → Prop,
  (∀ J H', Same H1 H' → Walk J ds.length (R H') (fun i h x h' => Same h h' ∧ ∃ d, ds[i]? = some d ∧ Dp K h' x d) → Q J H') → wi σ H1 Q
end
section
variable {K : PySem.W.Frag} {σ : L2.St} {H H' : Hp} {t ta tb : TE} {d e : PyData} {ds : List PyData} {ta' : TA} {tt uu : TT} {b c : Bool}
theorem GvN.gl (h : GvN K t σ H ds) : GvL K t σ H ds := fun H1 s Q q => h H1 s Q fun a vs H' s' _ e dv => q a vs H' s' e dv
theorem GvN.at (h : GvN K t σ H ds) {Q : VK} (q : ∀ a vs H', Same H H' → H a = none → H' a = some (.lst vs) → DpAll K H' vs ds → Q (.ref a) H') : t σ H Q := h H (Same.refl _) Q q
theorem GvN.to {es : List PyData} (h : GvN K t σ H ds) (q : ds = es) : GvN K t σ H es := q ▸ h
theorem GvN.gv (h : GvN K t σ H ds) : Gv K t σ H (.list ds) := fun H1 s Q q => h H1 s Q fun a vs H' s' _ e dv => q _ H' s' (.lst (.inl (.inl e)) dv)
theorem GvL.gv (h : GvL K t σ H ds) : Gv K t σ H (.list ds) := fun H1 s Q q => h H1 s Q fun a vs H' s' e dv => q _ H' s' (.lst (.inl (.inl e)) dv)
theorem GvL.at (h : GvL K t σ H ds) {Q : VK} (q : ∀ a vs H', Same H H' → H' a = some (.lst vs) → DpAll K H' vs ds → Q (.ref a) H') : t σ H Q := h H (Same.refl _) Q q
theorem GvL.to {es : List PyData} (h : GvL K t σ H ds) (q : ds = es) : GvL K t σ H es := q ▸ h
theorem gl_var {i : Nat} {a : Addr} {vs : List V} (h : σ[i]? = some (some (.ref a))) (e : H a = some (.lst vs)) (hd : DpAll K H vs ds) : GvL K (tVar i) σ H ds := fun H1 s Q q => ⟨_, h, q a vs H1 (Same.refl _) (s _ _ e) (hd.sm s)⟩
theorem Gv.at (h : Gv K t σ H d) {Q : VK} (q : ∀ v H', Same H H' → Dp K H' v d → Q v H') : t σ H Q := h H (Same.refl _) Q q
theorem Gv.sm (h : Gv K t σ H d) (s : Same H H') : Gv K t σ H' d := fun H1 s1 => h H1 (s.trans s1)
theorem Gv.to (h : Gv K t σ H d) (q : d = e) : Gv K t σ H e := q ▸ h
theorem GvT.at (h : GvT tt σ H b) {Q : Bool → Hp → Prop} (q : ∀ H', Same H H' → Q b H') : tt σ H Q := h H (Same.refl _) Q q
theorem GvT.to (h : GvT tt σ H b) (q : b = c) : GvT tt σ H c := q ▸ h
theorem gv_var {i : Nat} {v : V} (h : σ[i]? = some (some v)) (hd : Dp K H v d) : Gv K (tVar i) σ H d := fun H1 s Q q => ⟨v, h, q v H1 (Same.refl _) (hd.sm s)⟩
theorem gv_int {i : Int} : Gv K (tC (.int i)) σ H (.int i) := fun H1 _ Q q => q _ H1 (Same.refl _) (.int i)
theorem gv_str {x : Str} : Gv K (tC (.str x)) σ H (.str x) := fun H1 _ Q q => q _ H1 (Same.refl _) (.str x)
theorem gv_non : Gv K (tC .non) σ H .none := fun H1 _ Q q => q _ H1 (Same.refl _) .non
theorem gva_nil : GvA K tNil σ H [] := fun H1 _ Q q => q [] H1 (Same.refl _) .nil
theorem gva_cons {tr : TA} (h : Gv K t σ H d) (g : GvA K tr σ H ds) : GvA K (tCons t tr) σ H (d :: ds) := fun H1 s Q q =>
  h H1 s _ fun v H2 s2 d2 => g H2 (s.trans s2) _ fun vs H3 s3 d3 => q _ H3 (s2.trans s3) (.cons (d2.sm s3) d3)
theorem gva_starT {es : List PyData} {tr : TA} (h : Gv K t σ H (.tuple es)) (g : GvA K tr σ H ds) : GvA K (StX.tStar K t tr) σ H (es ++ ds) := fun H1 s Q q =>
  h H1 s _ fun v H2 s2 d2 => by
    obtain ⟨a, xs, rfl, hq, hr⟩ := d2.tupI
    exact ⟨a, xs, rfl, .inl hq, g H2 (s.trans s2) _ fun vs H3 s3 d3 => q _ H3 (s2.trans s3) (DpAll.append (hr.sm s3) d3)⟩
theorem gva_starL {es : List PyData} {tr : TA} (h : Gv K t σ H (.list es)) (g : GvA K tr σ H ds) : GvA K (StX.tStar K t tr) σ H (es ++ ds) := fun H1 s Q q =>
  h H1 s _ fun v H2 s2 d2 => by
    obtain ⟨a, xs, rfl, hq, hr⟩ := d2.lstI
    exact ⟨a, xs, rfl, .inr hq, g H2 (s.trans s2) _ fun vs H3 s3 d3 => q _ H3 (s2.trans s3) (DpAll.append (hr.sm s3) d3)⟩
theorem small5 {n : Nat} (h : n ≤ 100000) : n < sizeLine := Nat.lt_of_le_of_lt h (by decide)
theorem gv_tup (h : GvA K ta' σ H ds) (hl : ds.length ≤ sizeLine := by first | decide | exact Nat.le_of_lt (small5 (by simp only [List.length_cons, List.length_nil]; decide))) : Gv K (tTup ta') σ H (.tuple ds) := fun H1 s Q q => h H1 s _ fun vs H2 s2 d2 =>
  ⟨by rw [d2.length]; exact hl, fun p np => q _ _ (s2.trans (same_new np)) (.tup (.inl (.inl upd_same)) (d2.sm (same_new np)))⟩
theorem gn_lst (h : GvA K ta' σ H ds) (hl : ds.length ≤ sizeLine := by first | decide | exact Nat.le_of_lt (small5 (by simp only [List.length_cons, List.length_nil]; decide))) : GvN K (tLst ta') σ H ds := fun H1 s Q q => h H1 s _ fun vs H2 s2 d2 =>
  ⟨by rw [d2.length]; exact hl, fun p np => q _ _ _ (s2.trans (same_new np)) (s2.free np) upd_same (d2.sm (same_new np))⟩
theorem gl_lst (h : GvA K ta' σ H ds) (hl : ds.length ≤ sizeLine := by first | decide | exact Nat.le_of_lt (small5 (by simp only [List.length_cons, List.length_nil]; decide))) : GvL K (tLst ta') σ H ds := (gn_lst h hl).gl
theorem gv_lst (h : GvA K ta' σ H ds) (hl : ds.length ≤ sizeLine := by first | decide | exact Nat.le_of_lt (small5 (by simp only [List.length_cons, List.length_nil]; decide))) : Gv K (tLst ta') σ H (.list ds) := (gl_lst h hl).gv
theorem gv_op2 {r : R2} (ha : Gv K ta σ H d) (hb : Gv K tb σ H e) {f : PyData} (hr : ∀ x y H1 Q, Same H H1 → Dp K H1 x d → Dp K H1 y e → (∀ v H', Same H1 H' → Dp K H' v f → Q v H') → r x y H1 Q) : Gv K (tOp r ta tb) σ H f := fun H1 s Q q =>
  ha H1 s _ fun x H2 s2 d2 => hb H2 (s.trans s2) _ fun y H3 s3 d3 => hr x y H3 Q ((s.trans s2).trans s3) (d2.sm s3) d3 fun v H4 s4 d4 => q v H4 ((s2.trans s3).trans s4) d4
theorem gv_I0 {g : Int → Int → V} {i j : Int} (ha : Gv K ta σ H (.int i)) (hb : Gv K tb σ H (.int j)) {f : PyData} (hf : ∀ H, Dp K H (g i j) f) : Gv K (tOp (rI0 g) ta tb) σ H f :=
  gv_op2 ha hb fun x y H1 Q s hx hy q => by cases hx; cases hy; exact ⟨i, j, rfl, rfl, q _ _ (Same.refl _) (hf _)⟩
theorem gv_I {C : Int → Int → Prop} {g : Int → Int → V} {i j : Int} (ha : Gv K ta σ H (.int i)) (hb : Gv K tb σ H (.int j)) (hc : C i j) {f : PyData} (hf : ∀ H, Dp K H (g i j) f) : Gv K (tOp (rI C g) ta tb) σ H f :=
  gv_op2 ha hb fun x y H1 Q s hx hy q => by cases hx; cases hy; exact ⟨i, j, rfl, rfl, hc, q _ _ (Same.refl _) (hf _)⟩
theorem gv_add {i j : Int} (ha : Gv K ta σ H (.int i)) (hb : Gv K tb σ H (.int j)) : Gv K (tOp (rI0 fun i j => V.int (i + j)) ta tb) σ H (.int (i + j)) := gv_I0 ha hb fun _ => .int _
theorem gv_sub {i j : Int} (ha : Gv K ta σ H (.int i)) (hb : Gv K tb σ H (.int j)) : Gv K (tOp (rI0 fun i j => V.int (i - j)) ta tb) σ H (.int (i - j)) := gv_I0 ha hb fun _ => .int _
theorem gv_eqI {i j : Int} (ha : Gv K ta σ H (.int i)) (hb : Gv K tb σ H (.int j)) : Gv K (tOp rEq ta tb) σ H (.bool (decide (i = j))) :=
  gv_op2 ha hb fun x y H1 Q s hx hy q => by
    cases hx; cases hy
    refine ⟨rfl, q _ _ (Same.refl _) ?_⟩
    rw [show decide (V.int i = V.int j) = decide (i = j) from decide_eq_decide.mpr ⟨fun h => V.int.inj h, fun h => by rw [h]⟩]
    exact .bl _
theorem gv_neI {i j : Int} (ha : Gv K ta σ H (.int i)) (hb : Gv K tb σ H (.int j)) : Gv K (tOp rNe ta tb) σ H (.bool (!decide (i = j))) :=
  gv_op2 ha hb fun x y H1 Q s hx hy q => by
    cases hx; cases hy
    refine ⟨rfl, q _ _ (Same.refl _) ?_⟩
    rw [show decide (V.int i = V.int j) = decide (i = j) from decide_eq_decide.mpr ⟨fun h => V.int.inj h, fun h => by rw [h]⟩]
    exact .bl _
theorem gv_eqS {i j : Str} (ha : Gv K ta σ H (.str i)) (hb : Gv K tb σ H (.str j)) : Gv K (tOp rEq ta tb) σ H (.bool (decide (i = j))) :=
  gv_op2 ha hb fun x y H1 Q s hx hy q => by
    cases hx; cases hy
    refine ⟨rfl, q _ _ (Same.refl _) ?_⟩
    rw [show decide (V.str i = V.str j) = decide (i = j) from decide_eq_decide.mpr ⟨fun h => V.str.inj h, fun h => by rw [h]⟩]
    exact .bl _
theorem gv_eqD (ha : Gv K ta σ H d) (hb : Gv K tb σ H e) (h1 : SeqAt.shaped d = true) (h2 : SeqAt.shaped e = true) : Gv K (tOp (rEqD K) ta tb) σ H (.bool (PyData.eqv d e)) :=
  gv_op2 ha hb fun x y H1 Q s hx hy q => ⟨d, e, hx, hy, h1, h2, q _ _ (Same.refl _) (.bl _)⟩
theorem gv_neD (ha : Gv K ta σ H d) (hb : Gv K tb σ H e) (h1 : SeqAt.shaped d = true) (h2 : SeqAt.shaped e = true) : Gv K (tOp (rNeD K) ta tb) σ H (.bool (!PyData.eqv d e)) :=
  gv_op2 ha hb fun x y H1 Q s hx hy q => ⟨d, e, hx, hy, h1, h2, q _ _ (Same.refl _) (.bl _)⟩
theorem inV_intsG {b : Int} (l : List Int) : inV (.int b) (l.map V.int) = decide (b ∈ l) := by
  unfold inV
  rw [List.any_map, Bool.eq_iff_iff, List.any_eq_true, decide_eq_true_eq]
  constructor
  · rintro ⟨x, hx, e⟩
    have e' : x = b := by simpa [eqV] using e
    rw [← e']; exact hx
  · intro h
    exact ⟨b, h, by simp [eqV]⟩
theorem flat_intsG : ∀ l : List Int, (l.map V.int).all flatV = true
  | [] => rfl
  | x :: r => by rw [List.map_cons, List.all_cons, flat_intsG r]; rfl
theorem gv_inT {neg : Bool} {i : Int} {l : List Int} (ha : Gv K ta σ H (.int i)) (hb : Gv K tb σ H (dInts l)) : Gv K (tOp (rIn K neg) ta tb) σ H (.bool (if neg then !decide (i ∈ l) else decide (i ∈ l))) :=
  gv_op2 ha hb fun x y H1 Q s hx hy q => by
    cases hx
    obtain ⟨a, rfl, hq⟩ := hy.intsI
    refine ⟨a, _, rfl, .inr hq, rfl, flat_intsG l, ?_⟩
    rw [inV_intsG]
    exact q _ _ (Same.refl _) (.bl _)
theorem gv_inL {neg : Bool} {i : Int} {l : List Int} (ha : Gv K ta σ H (.int i)) (hb : Gv K tb σ H (.list (l.map PyData.int))) : Gv K (tOp (rIn K neg) ta tb) σ H (.bool (if neg then !decide (i ∈ l) else decide (i ∈ l))) :=
  gv_op2 ha hb fun x y H1 Q s hx hy q => by
    cases hx
    obtain ⟨a, xs, rfl, hq, hr⟩ := hy.lstI
    rw [dpAll_intsV hr] at hq
    refine ⟨a, _, rfl, .inl hq, rfl, flat_intsG l, ?_⟩
    rw [inV_intsG]
    exact q _ _ (Same.refl _) (.bl _)
theorem gv_ixT {i : Int} {j : Nat} (ha : Gv K ta σ H (.tuple ds)) (hb : Gv K tb σ H (.int i)) (hi : i = (j : Int)) (hj : ds[j]? = some d) : Gv K (tOp (rIxT K) ta tb) σ H d :=
  gv_op2 ha hb fun x y H1 Q s hx hy q => by
    cases hy
    obtain ⟨a, xs, rfl, hq, hr⟩ := hx.tupI
    obtain ⟨v, hv, dv⟩ := hr.get j d hj
    exact ⟨a, xs, i, v, rfl, rfl, hq, by rw [hi]; exact atI_nat hv, q _ _ (Same.refl _) dv⟩
theorem gv_ixL {i : Int} {j : Nat} (ha : Gv K ta σ H (.list ds)) (hb : Gv K tb σ H (.int i)) (hi : i = (j : Int)) (hj : ds[j]? = some d) : Gv K (tOp (rIxL K) ta tb) σ H d :=
  gv_op2 ha hb fun x y H1 Q s hx hy q => by
    cases hy
    obtain ⟨a, xs, rfl, hq, hr⟩ := hx.lstI
    obtain ⟨v, hv, dv⟩ := hr.get j d hj
    exact ⟨a, xs, i, v, rfl, rfl, hq, by rw [hi]; exact atI_nat hv, q _ _ (Same.refl _) dv⟩
theorem gv_pan {i : Int} {pan : List (List Int)} (ha : Gv K ta σ H (dPan pan)) (hb : Gv K tb σ H (.int i)) (h0 : 0 ≤ i) (h1 : i < (pan.length : Int)) : Gv K (tOp (rIxT K) ta tb) σ H (dInts (pan.getD i.toNat [])) := by
  refine gv_ixT (j := i.toNat) ha hb (by omega) ?_
  rw [List.getElem?_map, List.getD_eq_getElem?_getD, List.getElem?_eq_getElem (by omega)]; rfl
theorem gv_cb {r : List V → Hp → VK → Prop} (h : GvA K ta' σ H ds) {f : PyData} (hr : ∀ vs H1 Q, Same H H1 → DpAll K H1 vs ds → (∀ v H', Same H1 H' → Dp K H' v f → Q v H') → r vs H1 Q) : Gv K (tCB r ta') σ H f := fun H1 s Q q =>
  h H1 s _ fun vs H2 s2 d2 => hr vs H2 Q (s.trans s2) d2 fun v H3 s3 d3 => q v H3 (s2.trans s3) d3
theorem dpAll1 {vs : List V} (h : DpAll K H vs [d]) : ∃ v, vs = [v] ∧ Dp K H v d := by
  cases h with | cons x y => cases y; exact ⟨_, rfl, x⟩
theorem dpAll2 {vs : List V} (h : DpAll K H vs [d, e]) : ∃ v u, vs = [v, u] ∧ Dp K H v d ∧ Dp K H u e := by
  cases h with | cons x y => obtain ⟨u, rfl, z⟩ := dpAll1 y; exact ⟨_, _, rfl, x, z⟩
theorem dpAll3 {f : PyData} {vs : List V} (h : DpAll K H vs [d, e, f]) : ∃ v u w, vs = [v, u, w] ∧ Dp K H v d ∧ Dp K H u e ∧ Dp K H w f := by
  cases h with | cons x y => obtain ⟨u, w, rfl, z⟩ := dpAll2 y; exact ⟨_, _, _, rfl, x, z⟩
theorem dpAll4 {f g : PyData} {vs : List V} (h : DpAll K H vs [d, e, f, g]) : ∃ v u w z, vs = [v, u, w, z] ∧ Dp K H v d ∧ Dp K H u e ∧ Dp K H w f ∧ Dp K H z g := by
  cases h with | cons x y => obtain ⟨u, w, q, rfl, z⟩ := dpAll3 y; exact ⟨_, _, _, _, rfl, x, z⟩
def rLenG (K : PySem.W.Frag) : List V → Hp → VK → Prop := fun xs H Q => ∃ p ys, xs = [V.ref p] ∧ (SqL K H p ys ∨ SqT K H p ys) ∧ Q (.int ys.length) H
theorem cr_lenG {X : Cx} : CallR X (.builtin "len") (rLenG X.K) := call_len_seq
def rTupG (K : PySem.W.Frag) : List V → Hp → VK → Prop := fun xs H Q => ∃ p ys, xs = [V.ref p] ∧ ((SqL K H p ys ∧ ∀ l, H l = none → Q (.ref l) (upd H l (.tup ys))) ∨ (SqT K H p ys ∧ Q (.ref p) H))
theorem cr_tupG {X : Cx} : CallR X (.type "tuple") (rTupG X.K) := call_tuple_of
theorem gv_lenT (h : Gv K t σ H (.tuple ds)) : Gv K (tCB (rLenG K) (tCons t tNil)) σ H (.int ds.length) :=
  gv_cb (gva_cons h gva_nil) fun vs H1 Q s hd q => by
    obtain ⟨v, rfl, hv⟩ := dpAll1 hd
    obtain ⟨a, xs, rfl, hq, hr⟩ := hv.tupI
    exact ⟨a, xs, rfl, .inr hq, by rw [hr.length]; exact q _ _ (Same.refl _) (.int _)⟩
theorem gv_lenL (h : Gv K t σ H (.list ds)) : Gv K (tCB (rLenG K) (tCons t tNil)) σ H (.int ds.length) :=
  gv_cb (gva_cons h gva_nil) fun vs H1 Q s hd q => by
    obtain ⟨v, rfl, hv⟩ := dpAll1 hd
    obtain ⟨a, xs, rfl, hq, hr⟩ := hv.lstI
    exact ⟨a, xs, rfl, .inl hq, by rw [hr.length]; exact q _ _ (Same.refl _) (.int _)⟩
theorem gv_tupL (h : Gv K t σ H (.list ds)) : Gv K (tCB (rTupG K) (tCons t tNil)) σ H (.tuple ds) :=
  gv_cb (gva_cons h gva_nil) fun vs H1 Q s hd q => by
    obtain ⟨v, rfl, hv⟩ := dpAll1 hd
    obtain ⟨a, xs, rfl, hq, hr⟩ := hv.lstI
    exact ⟨a, xs, rfl, .inl ⟨hq, fun l nl => q _ _ (same_new nl) (.tup (.inl (.inl upd_same)) (hr.sm (same_new nl)))⟩⟩
theorem gv_lstT (h : Gv K t σ H (.tuple ds)) : Gv K (tCB (rListG K) (tCons t tNil)) σ H (.list ds) :=
  gv_cb (gva_cons h gva_nil) fun vs H1 Q s hd q => by
    obtain ⟨v, rfl, hv⟩ := dpAll1 hd
    obtain ⟨a, xs, rfl, hq, hr⟩ := hv.tupI
    exact ⟨a, xs, rfl, hq, fun l nl _ => q _ _ (same_new nl) (.lst (.inl (.inl upd_same)) (hr.sm (same_new nl)))⟩
/-- the ascending one of the same numbers -/
def srt (l : List Int) : List Int := l.mergeSort (fun a b => decide (a ≤ b))
theorem srt_perm (l : List Int) : (srt l).Perm l := List.mergeSort_perm _ _
theorem srt_up (l : List Int) : (srt l).Pairwise (· ≤ ·) := by
  have := List.pairwise_mergeSort (le := fun a b : Int => decide (a ≤ b)) (fun a b c h1 h2 => by simp at *; omega) (fun a b => by simp; omega) l
  exact this.imp fun h => by simpa using h
theorem perm_up_eq : ∀ {l1 l2 : List Int}, l1.Perm l2 → l1.Pairwise (· ≤ ·) → l2.Pairwise (· ≤ ·) → l1 = l2 := by
  intro l1
  induction l1 with
  | nil => intro l2 h _ _; exact (List.nil_perm.mp h).symm
  | cons x r ih =>
    intro l2 h h1 h2
    cases l2 with
    | nil => exact absurd h.symm (by simp)
    | cons y s =>
      rw [List.pairwise_cons] at h1 h2
      have hxy : x = y := by
        have hx : x ∈ y :: s := h.subset List.mem_cons_self
        have hy : y ∈ x :: r := h.symm.subset List.mem_cons_self
        rcases List.mem_cons.mp hx with e | e
        · exact e
        · rcases List.mem_cons.mp hy with e' | e'
          · exact e'.symm
          · have := h1.1 y e'
            have := h2.1 x e
            omega
      subst hxy
      rw [ih (List.Perm.cons_inv h) h1.2 h2.2]
theorem srt_eq {l m : List Int} (h : m.Perm l) (u : m.Pairwise (· ≤ ·)) : srt l = m := perm_up_eq ((srt_perm l).trans h.symm) (srt_up l) u
theorem gv_sortL {l : List Int} (h : Gv K t σ H (.list (l.map PyData.int))) (hl : l.length < 64) : Gv K (tCB (rSorted K) (tCons t tNil)) σ H (.list ((srt l).map PyData.int)) :=
  gv_cb (gva_cons h gva_nil) fun vs H1 Q s hd q => by
    obtain ⟨v, rfl, hv⟩ := dpAll1 hd
    obtain ⟨a, xs, rfl, hq, hr⟩ := hv.lstI
    rw [dpAll_intsV hr] at hq
    refine ⟨a, l, rfl, hq, hl, fun ns' p hp hu np => ?_⟩
    rw [← srt_eq hp hu]
    exact q _ _ (same_new np) (.lst (.inl (.inl upd_same)) (dpAll_ints _))
theorem gv_all {l : List Bool} (h : Gv K t σ H (.list (l.map PyData.bool))) : Gv K (tCB (rAll K) (tCons t tNil)) σ H (.bool (l.all id)) :=
  gv_cb (gva_cons h gva_nil) fun vs H1 Q s hd q => by
    obtain ⟨v, rfl, hv⟩ := dpAll1 hd
    obtain ⟨a, xs, rfl, hq, hr⟩ := hv.lstI
    rw [dpAll_blsV hr] at hq
    exact ⟨a, l, rfl, hq, q _ _ (Same.refl _) (.bl _)⟩
theorem gvt_test (h : Gv K t σ H (.bool b)) : GvT (tTest t) σ H b := fun H1 s Q q => h H1 s _ fun v H2 s2 d2 => by cases d2; exact ⟨b, rfl, q _ s2⟩
theorem gvt_b (h : Gv K t σ H (.bool b)) : GvT (tB t) σ H b := fun H1 s Q q => h H1 s _ fun v H2 s2 d2 => by cases d2; exact ⟨b, rfl, q _ s2⟩
theorem gvt_not (h : GvT tt σ H b) : GvT (tNot tt) σ H (!b) := fun H1 s Q q => h H1 s _ fun H2 s2 => q _ s2
theorem gvt_yes : GvT tYes σ H true := fun H1 s Q q => q H1 (Same.refl _)
theorem gvt_and (h : GvT tt σ H b) (g : ∀ H', Same H H' → b = true → GvT uu σ H' c) : GvT (tAnd tt uu) σ H (b && c) := fun H1 s Q q => h H1 s _ fun H2 s2 => by
  cases b with
  | true => rw [if_pos rfl]; exact g H2 (s.trans s2) rfl H2 (Same.refl _) _ fun H3 s3 => q _ (s2.trans s3)
  | false => rw [if_neg Bool.false_ne_true]; exact q _ s2
theorem gvt_or (h : GvT tt σ H b) (g : ∀ H', Same H H' → b = false → GvT uu σ H' c) : GvT (tOr tt uu) σ H (b || c) := fun H1 s Q q => h H1 s _ fun H2 s2 => by
  cases b with
  | true => rw [if_pos rfl]; exact q _ s2
  | false => rw [if_neg Bool.false_ne_true]; exact g H2 (s.trans s2) rfl H2 (Same.refl _) _ fun H3 s3 => q _ (s2.trans s3)
theorem gv_if (h : GvT tt σ H b) (h1 : b = true → Gv K ta σ H d) (h2 : b = false → Gv K tb σ H e) : Gv K (tIf tt ta tb) σ H (if b then d else e) := fun H1 s Q q => h H1 s _ fun H2 s2 => by
  cases b with
  | true => rw [if_pos rfl]; exact h1 rfl H2 (s.trans s2) _ fun v H3 s3 d3 => q v H3 (s2.trans s3) d3
  | false => rw [if_neg Bool.false_ne_true]; exact h2 rfl H2 (s.trans s2) _ fun v H3 s3 d3 => q v H3 (s2.trans s3) d3
/-- a def that only computes -/
def spP (K : PySem.W.Frag) {α : Type} (δ : α → List PyData) (C : α → Prop) (f : α → PyData) : Sp := fun vs H Q _ => ∃ a, DpAll K H vs (δ a) ∧ C a ∧ ∀ v H', Same H H' → Dp K H' v (f a) → Q v H'
theorem gv_call {α : Type} {δ : α → List PyData} {C : α → Prop} {f : α → PyData} {E : XK} (a : α) (h : GvA K ta' σ H (δ a)) (hc : C a) : Gv K (tCall (spP K δ C f) [] E ta') σ H (f a) := fun H1 s Q q =>
  h H1 s _ fun vs H2 s2 d2 => ⟨a, by rw [List.append_nil]; exact d2, hc, fun v H3 s3 d3 => q v H3 (s2.trans s3) d3⟩
end
section
variable {K : PySem.W.Frag} {R : Hp → Hp → Prop} {σ : L2.St} {H : Hp} {t : TE} {ta : TA} {ds : List PyData}
theorem gvi_list (h : Gv K t σ H (.list ds)) : GvI K Same (iList K t) σ H ds := fun H1 s Q q => h H1 s _ fun v H2 s2 d2 => by
  obtain ⟨a, xs, rfl, hq, hr⟩ := d2.lstI
  refine ⟨a, rfl, ⟨xs, hq⟩, q _ H2 s2 ?_⟩
  rw [← hr.length]
  refine walk_list.mono (fun h e => e.seq hq) fun i h x h' hi e y => ?_
  obtain ⟨rfl, y⟩ := y
  have hi' : i < ds.length := by rw [← hr.length]; exact hi
  obtain ⟨v, hv, dv⟩ := hr.get i ds[i] (List.getElem?_eq_getElem hi')
  rw [hv] at y; cases y
  exact ⟨Same.refl _, ds[i], List.getElem?_eq_getElem hi', dv.sm e⟩
theorem gvi_tup (h : Gv K t σ H (.tuple ds)) : GvI K Same (iTup K t) σ H ds := fun H1 s Q q => h H1 s _ fun v H2 s2 d2 => by
  obtain ⟨a, xs, rfl, hq, hr⟩ := d2.tupI
  refine ⟨a, rfl, ⟨xs, hq⟩, q _ H2 s2 ?_⟩
  rw [← hr.length]
  refine walk_tup.mono (fun h e => same_sqT e hq) fun i h x h' hi e y => ?_
  obtain ⟨rfl, y⟩ := y
  have hi' : i < ds.length := by rw [← hr.length]; exact hi
  obtain ⟨v, hv, dv⟩ := hr.get i ds[i] (List.getElem?_eq_getElem hi')
  rw [hv] at y; cases y
  exact ⟨Same.refl _, ds[i], List.getElem?_eq_getElem hi', dv.sm e⟩
theorem gvi_enumT {α : Type} {δ : α → PyData} {as : List α} (h : Gv K t σ H (.tuple (as.map δ))) : GvI K Same (iEnumT K (tCons t tNil)) σ H (as.zipIdx.map fun x => .tuple [.int (x.2 : Nat), δ x.1]) := fun H1 s Q q => h H1 s _ fun v H2 s2 d2 => by
  obtain ⟨a, xs, rfl, hq, hr⟩ := d2.tupI
  refine ⟨a, xs, rfl, hq, q _ H2 s2 ?_⟩
  have hl : xs.length = as.length := by rw [hr.length, List.length_map]
  rw [List.length_map, List.length_zipIdx, ← hl]
  refine walk_enumT.mono (fun h e => same_sqT e hq) fun i h x h' hi e y => ?_
  obtain ⟨T, x1, x2, rfl, nT, rfl, e1, e2⟩ := y
  cases e1
  have hi' : i < as.length := by omega
  obtain ⟨v, hv, dv⟩ := hr.get i (δ as[i]) (by rw [List.getElem?_map, List.getElem?_eq_getElem hi']; rfl)
  replace e2 : xs[i]? = some x2 := e2
  rw [hv] at e2; cases e2
  have sT : Same h (upd h T (.tup [.int (i : Nat), x2])) := same_new nT
  refine ⟨sT, .tuple [.int (i : Nat), δ as[i]], ?_, .tup (.inl (.inl upd_same)) (.cons (.int _) (.cons ((dv.sm e).sm sT) .nil))⟩
  rw [List.getElem?_map, List.getElem?_zipIdx, List.getElem?_eq_getElem hi']
  simp
/-- what a comprehension has gathered when D is the new list -/
def LcP (K : PySem.W.Frag) (H1 : Hp) (D : Addr) (ds : Nat → List PyData) (k : Nat) (H2 : Hp) : Prop := (∀ b o, b ≠ D → H1 b = some o → H2 b = some o) ∧ ∃ acc, H2 D = some (.lst acc) ∧ DpAll K H2 acc (ds k) ∧ acc.length ≤ k
theorem lcP_yes {H1 H5 H2 : Hp} {D : Addr} {ds : Nat → List PyData} {k : Nat} {acc : List V} {y : V} {d : PyData} (h : ∀ b o, b ≠ D → H1 b = some o → H2 b = some o) (s25 : Same H2 H5) (eD : H2 D = some (.lst acc)) (ha : DpAll K H2 acc (ds k)) (la : acc.length ≤ k) (dy : Dp K H5 y d)
    (e : ds (k + 1) = ds k ++ [d]) (z : lfAll (ds (k + 1)) = true) : LcP K H1 D ds (k + 1) (upd H5 D (.lst (acc ++ [y]))) := by
  refine ⟨fun b o hb q => by rw [upd_ne hb]; exact s25 _ _ (h b o hb q), acc ++ [y], upd_same, ?_, by rw [List.length_append]; show acc.length + 1 ≤ k + 1; omega⟩
  refine dpAll_kp (Kp.upd (s25 _ _ eD)) _ _ z ?_
  rw [e]
  exact DpAll.append (ha.sm s25) (.cons dy .nil)
theorem lcP_no {H1 H3 H2 : Hp} {D : Addr} {ds : Nat → List PyData} {k : Nat} {acc : List V} (h : ∀ b o, b ≠ D → H1 b = some o → H2 b = some o) (s23 : Same H2 H3) (eD : H2 D = some (.lst acc)) (ha : DpAll K H2 acc (ds k)) (la : acc.length ≤ k)
    (e : ds (k + 1) = ds k) : LcP K H1 D ds (k + 1) H3 :=
  ⟨fun b o hb q => s23 _ _ (h b o hb q), acc, s23 _ _ eD, by rw [e]; exact ha.sm s23, by omega⟩
theorem fil_take {α : Type} {as : List α} {p : α → Bool} {f : α → PyData} {k : Nat} (hk : k < as.length) : (((as.take (k + 1)).filter p).map f) = ((as.take k).filter p).map f ++ if p as[k] then [f as[k]] else [] := by
  rw [List.take_add_one, List.getElem?_eq_getElem hk, Option.toList_some, List.filter_append, List.map_append]
  cases h : p as[k] with
  | true => rw [List.filter_cons_of_pos h]; rfl
  | false => rw [List.filter_cons_of_neg (by rw [h]; exact Bool.false_ne_true)]; rfl
theorem lf_fil {α : Type} {as : List α} {p : α → Bool} {f : α → PyData} (h : ∀ a ∈ as, lf (f a) = true) (k : Nat) : lfAll (((as.take k).filter p).map f) = true := lfAll_of fun d hd => by
  obtain ⟨a, ha, rfl⟩ := List.mem_map.mp hd
  exact h a (List.mem_of_mem_take (List.mem_filter.mp ha).1)
/-- a comprehension, its target one name -/
theorem gn_lc {wi : TI} {tt : TT} {te : TE} {i : Nat} {α : Type} {δ : α → PyData} {as : List α} {p : α → Bool} {f : α → PyData} (hI : GvI K Same wi σ H (as.map δ))
    (hb : ∀ a v H1, a ∈ as → Same H H1 → Dp K H1 v (δ a) → GvT tt ((σ.set i none).set i (some v)) H1 (p a) ∧ (p a = true → Gv K te ((σ.set i none).set i (some v)) H1 (f a)))
    (hf : ∀ a ∈ as, lf (f a) = true) (hn : as.length ≤ 100000) : GvN K (tLc wi (gName i) tt te [i]) σ H ((as.filter p).map f) := by
  intro H0 s0 Q q
  refine hI H0 s0 _ fun J H1 s1 w D nD => ?_
  rw [List.length_map] at w
  refine lc_it w (LcP K H1 D fun k => ((as.take k).filter p).map f) ⟨fun b o hb e => by rw [upd_ne hb]; exact e, [], upd_same, .nil, Nat.zero_le _⟩ (fun k H2 _ hP b o e => hP.1 b o (ne_of_none e nD) e) (fun k x H2 H3 hk hP hY => ?_) (fun H2 hP => ?_)
  · obtain ⟨s2, acc, eD, hacc, la⟩ := hP
    obtain ⟨s3, d, hd, dx⟩ := hY
    rw [List.getElem?_map, List.getElem?_eq_getElem hk] at hd
    cases hd
    have sH : Same H H3 := (s0.trans s1).trans fun b o e => s3 _ _ (s2 b o (ne_of_none e nD) e)
    obtain ⟨g1, g2⟩ := hb as[k] x H3 (List.getElem_mem _) sH dx
    refine ⟨by show ((σ.set i none).set i (some x)).set i none = σ.set i none; rw [List.set_set, List.set_set], g1.at fun H4 s4 => ?_⟩
    cases hp : p as[k] with
    | true =>
      rw [if_pos rfl]
      refine (g2 hp).sm s4 |>.at fun y H5 s5 dy => ⟨acc, s5 _ _ (s4 _ _ (s3 _ _ eD)), small5 (by omega), ?_⟩
      exact lcP_yes s2 ((s3.trans s4).trans s5) eD hacc la dy (by rw [fil_take hk, hp]; rfl) (lf_fil hf _)
    | false =>
      rw [if_neg Bool.false_ne_true]
      exact lcP_no s2 (s3.trans s4) eD hacc la (by rw [fil_take hk, hp]; exact List.append_nil _)
  · obtain ⟨s2, acc, eD, hacc, la⟩ := hP
    replace hacc : DpAll K H2 acc (((as.take as.length).filter p).map f) := hacc
    rw [List.take_length] at hacc
    exact q _ _ H2 (s1.trans fun b o e => s2 b o (ne_of_none e nD) e) (s1.free nD) eD hacc
theorem gl_lc {wi : TI} {tt : TT} {te : TE} {i : Nat} {α : Type} {δ : α → PyData} {as : List α} {p : α → Bool} {f : α → PyData} (hI : GvI K Same wi σ H (as.map δ))
    (hb : ∀ a v H1, a ∈ as → Same H H1 → Dp K H1 v (δ a) → GvT tt ((σ.set i none).set i (some v)) H1 (p a) ∧ (p a = true → Gv K te ((σ.set i none).set i (some v)) H1 (f a)))
    (hf : ∀ a ∈ as, lf (f a) = true) (hn : as.length ≤ 100000) : GvL K (tLc wi (gName i) tt te [i]) σ H ((as.filter p).map f) := (gn_lc hI hb hf hn).gl
theorem gv_lc {wi : TI} {tt : TT} {te : TE} {i : Nat} {α : Type} {δ : α → PyData} {as : List α} {p : α → Bool} {f : α → PyData} (hI : GvI K Same wi σ H (as.map δ))
    (hb : ∀ a v H1, a ∈ as → Same H H1 → Dp K H1 v (δ a) → GvT tt ((σ.set i none).set i (some v)) H1 (p a) ∧ (p a = true → Gv K te ((σ.set i none).set i (some v)) H1 (f a)))
    (hf : ∀ a ∈ as, lf (f a) = true) (hn : as.length ≤ 100000) : Gv K (tLc wi (gName i) tt te [i]) σ H (.list ((as.filter p).map f)) := (gl_lc hI hb hf hn).gv
theorem set_two {i j : Nat} (σ : L2.St) (v u : V) : (((((σ.set j none).set i none).set i (some v)).set j (some u)).set j none).set i none = (σ.set j none).set i none := by
  refine List.ext_getElem? fun k => ?_
  simp only [List.getElem?_set, List.length_set]
  split <;> split <;> (try split) <;> simp_all
/-- the same, its target two names -/
theorem gn_lc2 {wi : TI} {tt : TT} {te : TE} {i j : Nat} {α : Type} {δ1 δ2 : α → PyData} {as : List α} {p : α → Bool} {f : α → PyData} (hI : GvI K Same wi σ H (as.map fun a => .tuple [δ1 a, δ2 a]))
    (hb : ∀ a v u H1, a ∈ as → Same H H1 → Dp K H1 v (δ1 a) → Dp K H1 u (δ2 a) → GvT tt ((((σ.set j none).set i none).set i (some v)).set j (some u)) H1 (p a) ∧ (p a = true → Gv K te ((((σ.set j none).set i none).set i (some v)).set j (some u)) H1 (f a)))
    (hf : ∀ a ∈ as, lf (f a) = true) (hn : as.length ≤ 100000) (hij : i ≠ j) : GvN K (tLc wi (gTup K 2 (gCons (gName i) (gCons (gName j) gNil))) tt te [i, j]) σ H ((as.filter p).map f) := by
  intro H0 s0 Q q
  refine hI H0 s0 _ fun J H1 s1 w D nD => ?_
  rw [List.length_map] at w
  refine lc_it w (LcP K H1 D fun k => ((as.take k).filter p).map f) ⟨fun b o hb e => by rw [upd_ne hb]; exact e, [], upd_same, .nil, Nat.zero_le _⟩ (fun k H2 _ hP b o e => hP.1 b o (ne_of_none e nD) e) (fun k x H2 H3 hk hP hY => ?_) (fun H2 hP => ?_)
  · obtain ⟨s2, acc, eD, hacc, la⟩ := hP
    obtain ⟨s3, d, hd, dx⟩ := hY
    rw [List.getElem?_map, List.getElem?_eq_getElem hk] at hd
    cases hd
    have sH : Same H H3 := (s0.trans s1).trans fun b o e => s3 _ _ (s2 b o (ne_of_none e nD) e)
    obtain ⟨T, xs, rfl, hT, hr⟩ := dx.tupI
    obtain ⟨v, u, rfl, dv, du⟩ := dpAll2 hr
    obtain ⟨g1, g2⟩ := hb as[k] v u H3 (List.getElem_mem _) sH dv du
    refine ⟨T, [v, u], rfl, hT, rfl, v, [u], rfl, u, [], rfl, rfl, ?_, g1.at fun H4 s4 => ?_⟩
    · show (((((σ.set j none).set i none).set i (some v)).set j (some u)).set j none).set i none = (σ.set j none).set i none
      exact set_two _ _ _
    cases hp : p as[k] with
    | true =>
      rw [if_pos rfl]
      refine (g2 hp).sm s4 |>.at fun y H5 s5 dy => ⟨acc, s5 _ _ (s4 _ _ (s3 _ _ eD)), small5 (by omega), ?_⟩
      exact lcP_yes s2 ((s3.trans s4).trans s5) eD hacc la dy (by rw [fil_take hk, hp]; rfl) (lf_fil hf _)
    | false =>
      rw [if_neg Bool.false_ne_true]
      exact lcP_no s2 (s3.trans s4) eD hacc la (by rw [fil_take hk, hp]; exact List.append_nil _)
  · obtain ⟨s2, acc, eD, hacc, la⟩ := hP
    replace hacc : DpAll K H2 acc (((as.take as.length).filter p).map f) := hacc
    rw [List.take_length] at hacc
    exact q _ _ H2 (s1.trans fun b o e => s2 b o (ne_of_none e nD) e) (s1.free nD) eD hacc
theorem gl_lc2 {wi : TI} {tt : TT} {te : TE} {i j : Nat} {α : Type} {δ1 δ2 : α → PyData} {as : List α} {p : α → Bool} {f : α → PyData} (hI : GvI K Same wi σ H (as.map fun a => .tuple [δ1 a, δ2 a]))
    (hb : ∀ a v u H1, a ∈ as → Same H H1 → Dp K H1 v (δ1 a) → Dp K H1 u (δ2 a) → GvT tt ((((σ.set j none).set i none).set i (some v)).set j (some u)) H1 (p a) ∧ (p a = true → Gv K te ((((σ.set j none).set i none).set i (some v)).set j (some u)) H1 (f a)))
    (hf : ∀ a ∈ as, lf (f a) = true) (hn : as.length ≤ 100000) (hij : i ≠ j) : GvL K (tLc wi (gTup K 2 (gCons (gName i) (gCons (gName j) gNil))) tt te [i, j]) σ H ((as.filter p).map f) := (gn_lc2 hI hb hf hn hij).gl
theorem gv_lc2 {wi : TI} {tt : TT} {te : TE} {i j : Nat} {α : Type} {δ1 δ2 : α → PyData} {as : List α} {p : α → Bool} {f : α → PyData} (hI : GvI K Same wi σ H (as.map fun a => .tuple [δ1 a, δ2 a]))
    (hb : ∀ a v u H1, a ∈ as → Same H H1 → Dp K H1 v (δ1 a) → Dp K H1 u (δ2 a) → GvT tt ((((σ.set j none).set i none).set i (some v)).set j (some u)) H1 (p a) ∧ (p a = true → Gv K te ((((σ.set j none).set i none).set i (some v)).set j (some u)) H1 (f a)))
    (hf : ∀ a ∈ as, lf (f a) = true) (hn : as.length ≤ 100000) (hij : i ≠ j) : Gv K (tLc wi (gTup K 2 (gCons (gName i) (gCons (gName j) gNil))) tt te [i, j]) σ H (.list ((as.filter p).map f)) := (gl_lc2 hI hb hf hn hij).gv
theorem gs_set {t : TE} {i : Nat} {d : PyData} {D : Ends} (h : Gv K t σ H d) (q : ∀ v H', Same H H' → Dp K H' v d → D.nx (σ.set i (some v)) H') : tAsg t (gName i) D σ H := h.at fun v H' s dv => q v H' s dv
theorem gs_ret {t : TE} {d : PyData} {D : Ends} (h : Gv K t σ H d) (q : ∀ v H', Same H H' → Dp K H' v d → D.rt v H') : tRet t D σ H := h.at q
theorem gs_if {c : TT} {b : Bool} {t u : TS} {D : Ends} (h : GvT c σ H b) (h1 : b = true → ∀ H', Same H H' → t D σ H') (h2 : b = false → ∀ H', Same H H' → u D σ H') : tIfS c t u D σ H := h.at fun H' s => by
  cases b with
  | true => rw [if_pos rfl]; exact h1 rfl H' s
  | false => rw [if_neg Bool.false_ne_true]; exact h2 rfl H' s
end
end Pr
namespace Pr
open PySem PySem.Spec PyProof.Rows L2
theorem pick_backL (l : List Value) : slicePick l.toArray none none (some (-1)) = l.reverse.toArray := by
  unfold slicePick
  have e : sliceBounds none none (some (-1)) l.toArray.size = ((l.length : Int) - 1, -1, -1) := by
    unfold sliceBounds
    simp
  rw [e]
  unfold sliceRange
  dsimp only
  rw [if_neg (by decide)]
  have hc : (if (l.length : Int) - 1 > -1 then ((l.length : Int) - 1 - -1 - -1 - 1) / (- -1) else 0) = (l.length : Int) := by
    split
    · simp only [Int.neg_neg, Int.ediv_one]; omega
    · omega
  rw [hc, Int.toNat_natCast, List.filterMap_map]
  have := pick_back l
  have e2 : ((fun x => l.toArray[x]?) ∘ fun (k : Nat) => ((l.length : Int) - 1 + -1 * (k : Int)).toNat) = fun (k : Nat) => l[(((l.length : Int) - 1) + (k : Int) * (-1)).toNat]? := by
    funext k
    show l.toArray[((l.length : Int) - 1 + -1 * (k : Int)).toNat]? = _
    rw [List.getElem?_toArray, show -1 * (k : Int) = (k : Int) * -1 by omega]
  rw [e2, this]
section
variable {X : Cx}
def tRevL (K : PySem.W.Frag) (te : TE) : TE := fun σ H Q => te σ H fun x H1 => ∃ a xs, x = .ref a ∧ SqL K H1 a xs ∧ ∀ p, H1 p = none → Q (.ref p) (upd H1 p (.lst xs.reverse))
theorem pe_revL {e : Expr} {te : TE} {k : Nat} {p1 p2 p3 pos : Pos} (he : PE X e te) : PE X (.Subscript e (.Slice none none (some (.UnaryOp .USub (.Constant (.int 1) k p1) p2)) p3) pos) (tRevL X.K te) := by
  refine ⟨fun pins s σ H Q I h => Subscript_ (thn (he.run pins s σ H _ I h) fun v s1 ⟨x, H1, I1, r1, a, xs, ex, hx, q⟩ => ?_)⟩
  subst ex
  cases r1
  have hst : PO X (some (.UnaryOp .USub (.Constant (.int 1) k p1) p2)) (tPart (tUn (rU fun i => .int (-i)) (tC (.int 1)))) := po_some (pe_un un_neg pe_int)
  refine wpAny_Slice (thn (po_none.run pins s1 σ H1 (fun o H2 => o = none ∧ H2 = H1) I1 ⟨rfl, rfl⟩) fun vl s2 ⟨l, H2, I2, pl, el, e2⟩ => ?_)
  subst el e2
  refine thn (po_none.run pins s2 σ H2 (fun o H3 => o = none ∧ H3 = H2) I2 ⟨rfl, rfl⟩) fun vu s3 ⟨u, H3, I3, pu, eu, e3⟩ => ?_
  subst eu e3
  refine thn (hst.run pins s3 σ H3 (fun o H4 => o = some (-1) ∧ H4 = H3) I3 ⟨1, rfl, -1, rfl, rfl, rfl⟩) fun vs s4 ⟨o, H4, I4, ps, eo, e4⟩ => ?_
  subst eo e4
  cases pl
  cases pu
  have I5 : Inv X pins σ H4 { s4 with heap := s4.heap.push { cls := .type "slice", data := .fields #[.none, .none, vs] } } := I4.kept (t' := s4.toks) fun b ob q => Heap.get?_push_of_some _ q
  obtain ⟨its, r, ht, hz⟩ := I5.list hx
  have hlen := r.length
  show wpAny (model X.prog X.w) X.A (subscriptTail e (.Slice none none (some (.UnaryOp .USub (.Constant (.int 1) k p1) p2)) p3) (.ref a) (.ref s4.heap.objs.size)) (EP X pins σ Q) X.xe { s4 with heap := s4.heap.push { cls := .type "slice", data := .fields #[.none, .none, vs] } }
  refine tail_any (ops := [.ref a, .ref s4.heap.objs.size]) ht.isList.typeIs (slot_list_getitem.lookup) ?_ (by with_unfolding_all rfl)
  refine wpAny_getItem_list_slice ht.isList (Heap.IsSliceOf.new _ .none .none vs) .none .none ps (by decide) ?_ (by rw [List.size_toArray]; omega)
  rw [pick_backL]
  refine ⟨.ref _, _, I5.laid (t' := s4.toks) (o := .lst xs.reverse) (fun b ob q => Heap.get?_push_of_some _ q) (Nat.le_refl _) ?_, rfl, q _ (I5.hok.fresh (Nat.le_refl _))⟩
  exact ⟨by rw [List.length_reverse]; exact hz, _, 0, r.reverse, Heap.get?_push_size _ rfl⟩
end
section
variable {K : PySem.W.Frag} {σ : L2.St} {H : Hp} {t ta tb : TE} {d e : PyData} {ds es : List PyData}
theorem gs_if1 {c : TT} {b : Bool} {t u : TS} {D : Ends} (h : GvT c σ H b) (h1 : b = true → ∀ H', Same H H' → t { D with nx := u D } σ H') (h2 : b = false → ∀ H', Same H H' → u D σ H') : tSeq (tIfS c t tNext) u D σ H := gs_if h h1 h2
theorem gs_set1 {i : Nat} {u : TS} {D : Ends} (h : Gv K t σ H d) (q : ∀ v H', Same H H' → Dp K H' v d → u D (σ.set i (some v)) H') : tSeq (tAsg t (gName i)) u D σ H := h.at fun v H' s dv => q v H' s dv
/-- a test that comes out false, what stands under it not reached -/
theorem gs_no {c : TT} {t u : TS} {D : Ends} {b : Bool} (h : GvT c σ H b) (hb : b = false) (h2 : ∀ H', Same H H' → u D σ H') : tSeq (tIfS c t tNext) u D σ H := gs_if h (fun e => by rw [hb] at e; cases e) fun _ => h2
theorem gs_noN {c : TT} {t : TS} {D : Ends} {b : Bool} (h : GvT c σ H b) (hb : b = false) (h2 : ∀ H', Same H H' → D.nx σ H') : tIfS c t tNext D σ H := gs_if h (fun e => by rw [hb] at e; cases e) fun _ => h2
/-- for i in range(n) -/
theorem gs_range {n i : Nat} {tb : TS} {D : Ends} (h : Gv K t σ H (.int n)) (hn : n < 2 ^ 62) (Pv : Hp → Nat → L2.St → Hp → Prop) (h0 : ∀ H1, Same H H1 → Pv H1 0 σ H1)
    (hs : ∀ H1 k σ' H', Same H H1 → k < n → Pv H1 k σ' H' → tb { D with nx := Pv H1 (k + 1), ct := Pv H1 (k + 1), bk := D.nx } (σ'.set i (some (.int (k : Int)))) H')
    (hd : ∀ H1 σ' H', Same H H1 → Pv H1 n σ' H' → D.nx σ' H') : tFor (iRng1 (tCons t tNil)) (gName i) tb D σ H := by
  refine h.at fun v H1 s1 d1 => ?_
  cases d1
  refine ⟨(n : Int), rfl, by omega, by omega, ?_⟩
  rw [Int.toNat_natCast]
  refine for_range (Pv H1) (h0 H1 s1) (fun k σ' H' hk hP => ?_) (fun σ' H' hP => hd H1 σ' H' s1 hP)
  rw [Int.zero_add]
  exact hs H1 k σ' H' s1 hk hP
theorem gv_un {r : V → Hp → VK → Prop} (h : Gv K t σ H d) {f : PyData} (hr : ∀ x H1 Q, Same H H1 → Dp K H1 x d → (∀ v H', Same H1 H' → Dp K H' v f → Q v H') → r x H1 Q) : Gv K (tUn r t) σ H f := fun H1 s Q q =>
  h H1 s _ fun v H2 s2 d2 => hr v H2 Q (s.trans s2) d2 fun v H3 s3 d3 => q v H3 (s2.trans s3) d3
theorem gv_neg {i : Int} (h : Gv K t σ H (.int i)) : Gv K (tUn (rU fun i => .int (-i)) t) σ H (.int (-i)) := gv_un h fun x H1 Q s hx q => by cases hx; exact ⟨i, rfl, q _ _ (Same.refl _) (.int _)⟩
theorem gn_cat (ha : GvL K ta σ H ds) (hb : GvL K tb σ H es) (hn : ds.length + es.length ≤ 100000) : GvN K (tOp rCat ta tb) σ H (ds ++ es) := fun H1 s Q q =>
  ha H1 s _ fun a xs H2 s2 ea da => hb H2 (s.trans s2) _ fun b ys H3 s3 eb db =>
    ⟨a, b, xs, ys, rfl, rfl, s3 _ _ ea, eb, by rw [da.length, db.length]; exact Nat.le_of_lt (small5 hn), fun p np => q _ _ _ ((s2.trans s3).trans (same_new np)) ((s2.trans s3).free np) upd_same (DpAll.append (da.sm (s3.trans (same_new np))) (db.sm (same_new np)))⟩
theorem gs_setN {i : Nat} {u : TS} {D : Ends} (h : GvN K t σ H ds) (q : ∀ a vs H', Same H H' → H a = none → H' a = some (.lst vs) → DpAll K H' vs ds → u D (σ.set i (some (.ref a))) H') : tSeq (tAsg t (gName i)) u D σ H := h.at fun a vs H' s n e dv => q a vs H' s n e dv
theorem gs_setL {i : Nat} {u : TS} {D : Ends} (h : GvL K t σ H ds) (q : ∀ a vs H', Same H H' → H' a = some (.lst vs) → DpAll K H' vs ds → u D (σ.set i (some (.ref a))) H') : tSeq (tAsg t (gName i)) u D σ H := h.at fun a vs H' s e dv => q a vs H' s e dv
theorem gv_catT (ha : Gv K ta σ H (.tuple ds)) (hb : Gv K tb σ H (.tuple es)) (hn : ds.length + es.length ≤ 100000) : Gv K (tOp (rCatS K) ta tb) σ H (.tuple (ds ++ es)) :=
  gv_op2 ha hb fun x y H1 Q s hx hy q => by
    obtain ⟨a, xs, rfl, hq, hr⟩ := hx.tupI
    obtain ⟨b, ys, rfl, hq2, hr2⟩ := hy.tupI
    exact ⟨a, b, xs, ys, rfl, rfl, hq, hq2, by rw [hr.length, hr2.length]; exact Nat.le_of_lt (small5 hn), fun p H' s' hp => q _ _ s' (.tup hp (DpAll.append (hr.sm s') (hr2.sm s')))⟩
theorem cut_dp {ds : List PyData} {xs : List V} (h : DpAll K H xs ds) (lo hi : Option Int) : DpAll K H (cutV xs lo hi) ((ds.drop (HT.sIx ds.length 0 lo)).take (HT.sIx ds.length ds.length hi - HT.sIx ds.length 0 lo)) := by
  unfold cutV
  rw [h.length]
  exact (h.drop _).take _
end
end Pr
namespace Pr
open PySem PySem.Spec PyProof.Rows L2
section
variable {K : PySem.W.Frag} {σ : L2.St} {H : Hp} {t ta tb : TE} {d e : PyData} {ds es : List PyData}
/-- a, b = x, y -/
theorem gs_two {i j : Nat} {u : TS} {D : Ends} (h : Gv K t σ H (.tuple [d, e])) (q : ∀ v z H', Same H H' → Dp K H' v d → Dp K H' z e → u D ((σ.set i (some v)).set j (some z)) H') : tSeq (tAsg t (gTup K 2 (gCons (gName i) (gCons (gName j) gNil)))) u D σ H := h.at fun v H' s dv => by
  obtain ⟨T, xs, rfl, hT, hr⟩ := dv.tupI
  obtain ⟨v, z, rfl, d1, d2⟩ := dpAll2 hr
  exact ⟨T, [v, z], rfl, hT, rfl, v, [z], rfl, z, [], rfl, rfl, q v z H' s d1 d2⟩
end
theorem gv_andV {K : PySem.W.Frag} {σ : L2.St} {H : Hp} {ta tb : TE} {b c : Bool} (ha : Gv K ta σ H (.bool b)) (hb : b = true → Gv K tb σ H (.bool c)) : Gv K (tAndV ta tb) σ H (.bool (b && c)) := fun H1 s Q q => ha H1 s _ fun v H2 s2 d2 => by
  cases d2
  refine ⟨b, rfl, ?_⟩
  cases b with
  | true => rw [if_pos rfl]; exact hb rfl H2 (s.trans s2) _ fun v H3 s3 d3 => q v H3 (s2.trans s3) d3
  | false => rw [if_neg Bool.false_ne_true]; exact q _ _ s2 (.bl false)
/-- each of 0 .. n - 1 once -/
structure IsP (n : Nat) (nm : List Int) : Prop where
  len : nm.length = n
  nd : nm.Nodup
  rng : ∀ x ∈ nm, 0 ≤ x ∧ x < (n : Int)
/-- what button b is called -/
def nmOf (nm : List Int) (x : Int) : Int := nm.getD x.toNat 0
theorem IsP.at {n : Nat} {nm : List Int} (h : IsP n nm) {x : Int} (h0 : 0 ≤ x) (h1 : x < (n : Int)) : nm[x.toNat]? = some (nmOf nm x) := by
  unfold nmOf
  rw [List.getD_eq_getElem?_getD, List.getElem?_eq_getElem (by rw [h.len]; omega)]; rfl
theorem nd_get {l : List Int} (h : l.Nodup) {i j : Nat} {x : Int} (hi : l[i]? = some x) (hj : l[j]? = some x) : i = j := by
  obtain ⟨w1, z1⟩ := List.getElem?_eq_some_iff.mp hi
  obtain ⟨w2, z2⟩ := List.getElem?_eq_some_iff.mp hj
  have hp := List.pairwise_iff_getElem.mp h
  rcases Nat.lt_trichotomy i j with lt | e | lt
  · exact absurd (z1.trans z2.symm) (hp _ _ w1 w2 lt)
  · exact e
  · exact absurd (z2.trans z1.symm) (hp _ _ w2 w1 lt)
theorem IsP.inj {n : Nat} {nm : List Int} (h : IsP n nm) {x y : Int} (h0 : 0 ≤ x) (h1 : x < (n : Int)) (h2 : 0 ≤ y) (h3 : y < (n : Int)) (e : nmOf nm x = nmOf nm y) : x = y := by
  have a := h.at h0 h1
  have b := h.at h2 h3
  rw [← e] at b
  have := nd_get h.nd a b
  omega
end Pr
namespace Pr
open PySem PySem.Spec PyProof.Rows L2
section
variable {κ : Type} [DecidableEq κ]
abbrev BL (κ : Type) := List (κ × List Int)
variable {step : κ → Nat → κ} {n : Nat} {s : κ}
end
end Pr
namespace Pr
open PySem PySem.Spec PyProof.Rows L2 PySem.W
/-- v is a tuple that holds these numbers -/
def IsTI (h : Heap) (v : Value) (ns : List Int) : Prop :=
  ∃ (a : Addr) (dd : Option Addr) (items : Array Value) (n : Nat) (sl : Array (Option Value)), v = .ref a ∧ h.get? a = some { cls := .type "tuple", dict := dd, data := .seq items n, slots := sl } ∧ IntsAre items.toList ns
theorem IsTI.keeps {h h' : Heap} {v : Value} {ns : List Int} (x : IsTI h v ns) (k : ∀ b o, v = .ref b → h.get? b = some o → h'.get? b = some o) : IsTI h' v ns := by
  obtain ⟨a, dd, items, n, sl, e, g, i⟩ := x
  exact ⟨a, dd, items, n, sl, e, k _ _ e g, i⟩
theorem IsTI.type {M : Model} {h : Heap} {v : Value} {ns : List Int} (x : IsTI h v ns) : Looks M h (typeOf v) (.type "tuple") := by
  obtain ⟨a, dd, items, n, sl, rfl, g, i⟩ := x
  exact (Looks.ld g).andThen .now
end Pr
namespace Pr
open PySem PySem.Spec PyProof.Rows L2 PySem.W
end Pr
namespace Pr
open PySem PySem.Spec PyProof.Rows L2
theorem val_zip {κ : Type} [DecidableEq κ] : ∀ {ks : List κ} {vs : List V} {i : Nat} {k : κ} {v : V}, ks.Nodup → ks[i]? = some k → vs[i]? = some v → valV (ks.zip vs) k = some v
  | [], _, _, _, _, _, h, _ => by simp at h
  | _ :: _, [], _, _, _, _, _, h => by simp at h
  | a :: ks, b :: vs, 0, k, v, nd, h1, h2 => by
    simp at h1 h2; subst h1 h2
    rw [List.zip_cons_cons]; exact valV_pos rfl
  | a :: ks, b :: vs, i + 1, k, v, nd, h1, h2 => by
    rw [List.nodup_cons] at nd
    have h1' : ks[i]? = some k := by simpa using h1
    rw [List.zip_cons_cons, valV_neg (fun e => nd.1 (by rw [show a = k from e]; exact List.mem_of_getElem? h1'))]
    exact val_zip nd.2 h1' (by simpa using h2)
theorem val_zip_none {κ : Type} [DecidableEq κ] : ∀ {ks : List κ} {vs : List V} {k : κ}, k ∉ ks → valV (ks.zip vs) k = none
  | [], _, _, _ => rfl
  | _ :: _, [], _, _ => by rw [List.zip_nil_right]; rfl
  | a :: ks, b :: vs, k, h => by
    rw [List.zip_cons_cons, valV_neg (fun e => h (by rw [show a = k from e]; exact List.mem_cons_self))]
    exact val_zip_none fun z => h (List.mem_cons_of_mem _ z)
/-- the dict of the things found, each with its row -/
def DictB (K : PySem.W.Frag) (H : Hp) (d : Addr) (L : BL (List Key)) : Prop := ∃ vs, H d = some (.dT ((L.map (·.1)).zip vs)) ∧ DpAll K H vs (L.map fun x => dInts x.2)
theorem DictB.same {K : PySem.W.Frag} {H H' : Hp} {d : Addr} {L : BL (List Key)} (h : DictB K H d L) (s : Same H H') : DictB K H' d L := let ⟨vs, e, dv⟩ := h; ⟨vs, s _ _ e, dv.sm s⟩
theorem DictB.get {K : PySem.W.Frag} {H : Hp} {d a : Addr} {L : BL (List Key)} {i : Nat} {x : List Key × List Int} (h : DictB K H d L) (nd : (L.map (·.1)).Nodup) (hx : L[i]? = some x) (ea : H a = some (.tup (x.1.map kV))) : ∃ v, DGet H d (.ref a) (some v) ∧ Dp K H v (dInts x.2) := by
  obtain ⟨vs, e, dv⟩ := h
  obtain ⟨v, hv, dx⟩ := dv.get i (dInts x.2) (by rw [List.getElem?_map, hx]; rfl)
  refine ⟨v, ?_, dx⟩
  have := DGet.t (k := x.1) e ea
  rwa [val_zip nd (by rw [List.getElem?_map, hx]; rfl) hv] at this
theorem DictB.none {K : PySem.W.Frag} {H : Hp} {d a : Addr} {L : BL (List Key)} {k : List Key} (h : DictB K H d L) (hk : k ∉ L.map (·.1)) (ea : H a = some (.tup (k.map kV))) : DGet H d (.ref a) none := by
  obtain ⟨vs, e, dv⟩ := h
  have := DGet.t (k := k) e ea
  rwa [val_zip_none hk] at this
theorem DictB.some {K : PySem.W.Frag} {H : Hp} {d a : Addr} {L : BL (List Key)} {k : List Key} (h : DictB K H d L) (nd : (L.map (·.1)).Nodup) (hk : k ∈ L.map (·.1)) (ea : H a = some (.tup (k.map kV))) : ∃ v, DGet H d (.ref a) (some v) := by
  obtain ⟨x, hx, rfl⟩ := List.mem_map.mp hk
  obtain ⟨i, hi⟩ := List.getElem?_of_mem hx
  obtain ⟨v, g, _⟩ := h.get nd hi ea
  exact ⟨v, g⟩
end Pr
namespace Pr
open PySem PySem.Spec PyProof.Rows L2
theorem ok_app {a b : Str} (ha : PyData.strOk a = true) (hb : PyData.strOk b = true) : PyData.strOk (a ++ b) = true := by
  unfold PyData.strOk at ha hb ⊢
  show (a.cps ++ b.cps).all _ = true
  rw [Array.all_append, ha, hb]; rfl
theorem ok_of (s : String) : PyData.strOk (Str.ofString s) = true := by
  unfold PyData.strOk
  rw [Str.ofString_eq_toList, Array.all_eq_true_iff_forall_mem]
  intro x hx
  rw [List.mem_toArray, List.mem_map] at hx
  obtain ⟨c, _, rfl⟩ := hx
  rw [decide_eq_true_eq]
  have := c.valid
  rcases this with h | h
  · exact Nat.lt_trans h (by decide)
  · exact h.2
theorem ok_join {sep : Str} (hs : PyData.strOk sep = true) : ∀ {ts : List Str}, (∀ t ∈ ts, PyData.strOk t = true) → PyData.strOk (Str.join sep ts) = true
  | [], _ => by show PyData.strOk Str.empty = true; decide +kernel
  | [x], h => h x List.mem_cons_self
  | x :: y :: r, h => by
    show PyData.strOk (x ++ sep ++ Str.join sep (y :: r)) = true
    exact ok_app (ok_app (h x List.mem_cons_self) hs) (ok_join hs fun t ht => h t (List.mem_cons_of_mem _ ht))
theorem shp_of {d : PyData} (h : d.canLay0 = true) (hd : d.depth ≤ 64) : SeqAt.shaped d = true := by
  unfold SeqAt.shaped
  rw [h, decide_eq_true hd]; rfl
end Pr
namespace Pr
open PySem PySem.Spec PyProof.Rows L2
/-- a new tuple -/
def GvU (K : PySem.W.Frag) (t : TE) (σ : L2.St) (H : Hp) (ds : List PyData) : Prop := ∀ H1, Same H H1 → ∀ Q : VK, (∀ a vs H', Same H1 H' → H1 a = none → H' a = some (.tup vs) → DpAll K H' vs ds → Q (.ref a) H') → t σ H1 Q
section
variable {K : PySem.W.Frag} {σ : L2.St} {H : Hp} {t ta tb : TE} {d e : PyData} {ds es : List PyData}
theorem GvU.at (h : GvU K t σ H ds) {Q : VK} (q : ∀ a vs H', Same H H' → H a = none → H' a = some (.tup vs) → DpAll K H' vs ds → Q (.ref a) H') : t σ H Q := h H (Same.refl _) Q q
theorem GvU.gv (h : GvU K t σ H ds) : Gv K t σ H (.tuple ds) := fun H1 s Q q => h H1 s Q fun a vs H' s' _ e dv => q _ H' s' (.tup (.inl (.inl e)) dv)
theorem gu_tupL (h : Gv K t σ H (.list ds)) : GvU K (tCB (rTupG K) (tCons t tNil)) σ H ds := fun H1 s Q q => h H1 s _ fun v H2 s2 d2 => by
  obtain ⟨a, xs, rfl, hq, hr⟩ := d2.lstI
  exact ⟨a, xs, rfl, .inl ⟨hq, fun l nl => q _ _ _ (s2.trans (same_new nl)) (s2.free nl) upd_same (hr.sm (same_new nl))⟩⟩
end
section
variable {X : Cx}
theorem rep_flatA {v : V} : ∀ k : Nat, (List.replicate k [v]).flatten = List.replicate k v
  | 0 => rfl
  | k + 1 => by rw [List.replicate_succ, List.flatten_cons, rep_flatA k]; rfl
end
end Pr
namespace Pr
open PySem PySem.Spec PyProof.Rows L2
end Pr
namespace L2
end L2
namespace Pr
open PySem PySem.Spec PyProof.Rows L2
end Pr
namespace Pr
open PySem PySem.Spec PyProof.Rows L2
def Rel (pan : List (List Int)) (st : List Int) (x y : Int) : Prop := x ∈ st ∧ y ∈ st ∧ y ∈ pan.getD x.toNat []
def Pth (pan : List (List Int)) (st : List Int) : Nat → Int → Int → Prop
  | 0, x, y => x = y
  | m + 1, x, y => ∃ z, Rel pan st x z ∧ Pth pan st m z y
section
variable {pan : List (List Int)} {st : List Int}
theorem Pth.join : ∀ {a b : Nat} {x y z : Int}, Pth pan st a x y → Pth pan st b y z → Pth pan st (a + b) x z
  | 0, b, x, y, z, h1, h2 => by rw [Nat.zero_add]; rw [show x = y from h1]; exact h2
  | a + 1, b, x, y, z, ⟨u, r, h1⟩, h2 => by
    rw [show a + 1 + b = (a + b) + 1 by omega]
    exact ⟨u, r, Pth.join h1 h2⟩
theorem Pth.split : ∀ {a b : Nat} {x z : Int}, Pth pan st (a + b) x z → ∃ y, Pth pan st a x y ∧ Pth pan st b y z
  | 0, b, x, z, h => ⟨x, rfl, by rw [Nat.zero_add] at h; exact h⟩
  | a + 1, b, x, z, h => by
    rw [show a + 1 + b = (a + b) + 1 by omega] at h
    obtain ⟨u, r, h⟩ := h
    obtain ⟨y, h1, h2⟩ := Pth.split h
    exact ⟨y, ⟨u, r, h1⟩, h2⟩
theorem Pth.ends : ∀ {m : Nat} {x y : Int}, Pth pan st (m + 1) x y → x ∈ st ∧ y ∈ st
  | 0, x, y, ⟨z, r, h⟩ => ⟨r.1, by rw [← show z = y from h]; exact r.2.1⟩
  | m + 1, x, y, ⟨z, r, h⟩ => ⟨r.1, (Pth.ends h).2⟩
end
def Closed (pan : List (List Int)) (C : List Int) : Prop := ∀ b ∈ C, ∃ c ∈ pan.getD b.toNat [], c ∈ C
structure IsHeld (pan : List (List Int)) (st hs : List Int) : Prop where
  up : hs.Pairwise (· < ·)
  sub : ∀ x ∈ hs, x ∈ st
  closed : Closed pan hs
  most : ∀ C : List Int, Closed pan C → (∀ x ∈ C, x ∈ st) → ∀ x ∈ C, x ∈ hs
theorem IsHeld.uniq {pan : List (List Int)} {st h1 h2 : List Int} (a : IsHeld pan st h1) (b : IsHeld pan st h2) : h1 = h2 :=
  asc_ext a.up b.up fun x => ⟨fun h => b.most h1 a.closed a.sub x h, fun h => a.most h2 b.closed b.sub x h⟩
def relB (pan : List (List Int)) (os : List Int) (b : Int) : Bool := (pan.getD b.toNat []).any fun c => decide (c ∈ os)
theorem relB_iff {pan : List (List Int)} {os : List Int} {b : Int} : relB pan os b = true ↔ ∃ c ∈ pan.getD b.toNat [], c ∈ os := by
  unfold relB
  rw [List.any_eq_true]
  exact ⟨fun ⟨c, h1, h2⟩ => ⟨c, h1, of_decide_eq_true h2⟩, fun ⟨c, h1, h2⟩ => ⟨c, h1, decide_eq_true h2⟩⟩
/-- on the way to the held buttons -/
structure Hold (pan : List (List Int)) (st hs : List Int) : Prop where
  up : hs.Pairwise (· < ·)
  sub : ∀ x ∈ hs, x ∈ st
  most : ∀ C : List Int, Closed pan C → (∀ x ∈ C, x ∈ st) → ∀ x ∈ C, x ∈ hs
theorem Hold.step {pan : List (List Int)} {st hs : List Int} (h : Hold pan st hs) : Hold pan st (hs.filter (relB pan hs)) := by
  refine ⟨h.up.filter _, fun x hx => h.sub x (List.mem_filter.mp hx).1, fun C hC hs' x hx => List.mem_filter.mpr ⟨h.most C hC hs' x hx, relB_iff.mpr ?_⟩⟩
  obtain ⟨c, h1, h2⟩ := hC x hx
  exact ⟨c, h1, h.most C hC hs' c h2⟩
theorem Hold.done {pan : List (List Int)} {st hs : List Int} (h : Hold pan st hs) (hl : ¬ (hs.filter (relB pan hs)).length < hs.length) : IsHeld pan st hs := by
  have e : (hs.filter (relB pan hs)).length = hs.length := Nat.le_antisymm (List.length_filter_le _ _) (by omega)
  exact ⟨h.up, h.sub, fun b hb => relB_iff.mp (List.length_filter_eq_length_iff.mp e b hb), h.most⟩
/-- rows[x] holds the ends of ways of at most 2 ^ k links, and ends of ways only -/
structure Rch (pan : List (List Int)) (st : List Int) (k : Nat) (rows : List (List Int)) : Prop where
  len : rows.length = pan.length
  sound : ∀ (x : Nat) (l : List Int) (y : Int), rows[x]? = some l → y ∈ l → ∃ m, 1 ≤ m ∧ Pth pan st m (x : Int) y
  full : ∀ (x : Nat) (l : List Int) (y : Int) (m : Nat), rows[x]? = some l → 1 ≤ m → m ≤ 2 ^ k → Pth pan st m (x : Int) y → y ∈ l
theorem Rch.rng {pan : List (List Int)} {st : List Int} {k : Nat} {rows : List (List Int)} (h : Rch pan st k rows) (hs : ∀ x ∈ st, 0 ≤ x ∧ x < (pan.length : Int)) {x : Nat} {l : List Int} (hl : rows[x]? = some l) {y : Int} (hy : y ∈ l) : 0 ≤ y ∧ y < (pan.length : Int) := by
  obtain ⟨m, hm, p⟩ := h.sound x l y hl hy
  obtain ⟨m, rfl⟩ : ∃ k, m = k + 1 := ⟨m - 1, by omega⟩
  exact hs y (Pth.ends p).2
theorem Rch.next {pan : List (List Int)} {st : List Int} {k : Nat} {rows rows' : List (List Int)} (h : Rch pan st k rows) (hs : ∀ x ∈ st, 0 ≤ x ∧ x < (pan.length : Int)) (hl : rows'.length = rows.length)
    (hm : ∀ (x : Nat) (l l' : List Int), rows[x]? = some l → rows'[x]? = some l' → ∀ y, y ∈ l' ↔ (y ∈ l ∨ ∃ z ∈ l, y ∈ rows.getD z.toNat [])) : Rch pan st (k + 1) rows' := by
  have get : ∀ (x : Nat) (l' : List Int), rows'[x]? = some l' → ∃ l, rows[x]? = some l := fun x l' hx => by
    have := (List.getElem?_eq_some_iff.mp hx).1
    exact ⟨rows[x], List.getElem?_eq_getElem (by omega)⟩
  have nth : ∀ (z : Int), 0 ≤ z → z < (pan.length : Int) → rows[z.toNat]? = some (rows.getD z.toNat []) := fun z h0 h1 => by
    have : z.toNat < rows.length := by have := h.len; omega
    rw [List.getD_eq_getElem?_getD, List.getElem?_eq_getElem this]; rfl
  refine ⟨hl.trans h.len, fun x l' y hx hy => ?_, fun x l' y m hx h1 h2 hp => ?_⟩
  · obtain ⟨l, hl'⟩ := get x l' hx
    rcases (hm x l l' hl' hx y).mp hy with q | ⟨z, hz, q⟩
    · exact h.sound x l y hl' q
    · obtain ⟨a, ha, pa⟩ := h.sound x l z hl' hz
      have zr := h.rng hs hl' hz
      obtain ⟨b, hb, pb⟩ := h.sound z.toNat _ y (nth z zr.1 zr.2) q
      rw [Int.toNat_of_nonneg zr.1] at pb
      exact ⟨a + b, by omega, pa.join pb⟩
  · obtain ⟨l, hl'⟩ := get x l' hx
    refine (hm x l l' hl' hx y).mpr ?_
    by_cases hk : m ≤ 2 ^ k
    · exact .inl (h.full x l y m hl' h1 hk hp)
    · have e2 : 2 ^ (k + 1) = 2 ^ k + 2 ^ k := by rw [Nat.pow_succ]; omega
      have p2 : 1 ≤ 2 ^ k := Nat.one_le_two_pow
      rw [show m = 2 ^ k + (m - 2 ^ k) by omega] at hp
      obtain ⟨z, pa, pb⟩ := Pth.split hp
      have hz := h.full x l z (2 ^ k) hl' p2 (Nat.le_refl _) pa
      have zr := h.rng hs hl' hz
      refine .inr ⟨z, hz, h.full z.toNat _ y (m - 2 ^ k) (nth z zr.1 zr.2) (by omega) (by omega) ?_⟩
      rw [Int.toNat_of_nonneg zr.1]; exact pb
end Pr
namespace Pr
open PySem PySem.Spec PyProof.Rows L2
/-- what b releases -/
abbrev relM (pan : List (List Int)) (b : Int) : List Int := pan.getD b.toNat []
/-- which buttons may be pressed on the way to the goal -/
def PrOk (pan : List (List Int)) (goal hs G : List Int) (b : Int) : Prop := (b ∈ goal ∧ b ∉ hs) ∨ (b ∈ G ∧ ∀ x ∈ relM pan b, x ∉ hs)
section
variable {pan : List (List Int)} {goal hs G : List Int}
/-- a button of the goal that is not held releases no held one -/
theorem free_of (hh : IsHeld pan goal hs) {b : Int} (hb : b ∈ goal) (hn : b ∉ hs) : ∀ x ∈ relM pan b, x ∉ hs := fun x hx hxs => by
  refine hn (hh.most (b :: hs) ?_ ?_ b List.mem_cons_self)
  · intro y hy
    rcases List.mem_cons.mp hy with rfl | hy
    · exact ⟨x, hx, List.mem_cons_of_mem _ hxs⟩
    · obtain ⟨z, h1, h2⟩ := hh.closed y hy
      exact ⟨z, h1, List.mem_cons_of_mem _ h2⟩
  · intro y hy
    rcases List.mem_cons.mp hy with rfl | hy
    · exact hb
    · exact hh.sub y hy
theorem PrOk.free (hh : IsHeld pan goal hs) {b : Int} (h : PrOk pan goal hs G b) : ∀ x ∈ relM pan b, x ∉ hs := by
  rcases h with ⟨h1, h2⟩ | ⟨_, h2⟩
  · exact free_of hh h1 h2
  · exact h2
end
end Pr
namespace Pr
open PySem PySem.Spec PyProof.Rows L2
end Pr
namespace Pr
open PySem PySem.Spec PyProof.Rows L2
end Pr
namespace Pr
open PySem PySem.Spec PyProof.Rows L2
/-- n items of which P holds -/
def AllP (P : PyData → Prop) (n : Nat) (ds : List PyData) : Prop := ds.length = n ∧ ∀ d ∈ ds, P d
/-- a tuple of at most n items of which P holds -/
def TupP (P : PyData → Prop) (n : Nat) (d : PyData) : Prop := ∃ ds, d = .tuple ds ∧ ds.length ≤ n ∧ ∀ x ∈ ds, P x
theorem AllP.nil {P : PyData → Prop} : AllP P 0 [] := ⟨rfl, fun _ h => by cases h⟩
theorem AllP.cons {P : PyData → Prop} {n : Nat} {d : PyData} {ds : List PyData} (h : P d) (r : AllP P n ds) : AllP P (n + 1) (d :: ds) :=
  ⟨by rw [List.length_cons, r.1], fun x hx => by
    rcases List.mem_cons.mp hx with rfl | hx
    · exact h
    · exact r.2 x hx⟩
theorem AllP.append {P : PyData → Prop} {n m : Nat} {ds es : List PyData} (h : AllP P n ds) (r : AllP P m es) : AllP P (n + m) (ds ++ es) :=
  ⟨by rw [List.length_append, h.1, r.1], fun x hx => (List.mem_append.mp hx).elim (h.2 x) (r.2 x)⟩
theorem AllP.mono {P P' : PyData → Prop} {n : Nat} {ds : List PyData} (h : AllP P n ds) (f : ∀ d, P d → P' d) : AllP P' n ds := ⟨h.1, fun d hd => f d (h.2 d hd)⟩
theorem TupP.mono {P P' : PyData → Prop} {n m : Nat} {d : PyData} (h : TupP P n d) (f : ∀ d, P d → P' d) (hm : n ≤ m) : TupP P' m d :=
  let ⟨ds, e, l, q⟩ := h; ⟨ds, e, Nat.le_trans l hm, fun x hx => f x (q x hx)⟩
end Pr
namespace Pr
open PySem PySem.Spec PyProof.Rows L2
def isB : PyData → Bool
  | .bool _ => true
  | _ => false
theorem isB_kit {K : PySem.W.Frag} (d : PyData) : PySem.W.kitOne K (.type (tyD d)) (.type "bool") = some (isB d) := by
  cases d with
  | none => exact kit_ty (show kitB "NoneType" "bool" = some false by decide +kernel)
  | bool _ => exact kit_ty (show kitB "bool" "bool" = some true by decide +kernel)
  | int _ => exact kit_ty (show kitB "int" "bool" = some false by decide +kernel)
  | str _ => exact kit_ty (show kitB "str" "bool" = some false by decide +kernel)
  | list _ => exact kit_ty (show kitB "list" "bool" = some false by decide +kernel)
  | tuple _ => exact kit_ty (show kitB "tuple" "bool" = some false by decide +kernel)
  | dict _ => exact kit_ty (show kitB "dict" "bool" = some false by decide +kernel)
def isI : PyData → Bool
  | .bool _ => true
  | .int _ => true
  | _ => false
theorem isI_kit {K : PySem.W.Frag} (d : PyData) : PySem.W.kitOne K (.type (tyD d)) (.type "int") = some (isI d) := by
  cases d with
  | none => exact kit_ty (show kitB "NoneType" "int" = some false by decide +kernel)
  | bool _ => exact kit_ty (show kitB "bool" "int" = some true by decide +kernel)
  | int _ => exact kit_ty (show kitB "int" "int" = some true by decide +kernel)
  | str _ => exact kit_ty (show kitB "str" "int" = some false by decide +kernel)
  | list _ => exact kit_ty (show kitB "list" "int" = some false by decide +kernel)
  | tuple _ => exact kit_ty (show kitB "tuple" "int" = some false by decide +kernel)
  | dict _ => exact kit_ty (show kitB "dict" "int" = some false by decide +kernel)
def isT : PyData → Bool
  | .tuple _ => true
  | _ => false
theorem isT_kit {K : PySem.W.Frag} (d : PyData) : PySem.W.kitOne K (.type (tyD d)) (.type "tuple") = some (isT d) := by
  cases d with
  | none => exact kit_ty (show kitB "NoneType" "tuple" = some false by decide +kernel)
  | bool _ => exact kit_ty (show kitB "bool" "tuple" = some false by decide +kernel)
  | int _ => exact kit_ty (show kitB "int" "tuple" = some false by decide +kernel)
  | str _ => exact kit_ty (show kitB "str" "tuple" = some false by decide +kernel)
  | list _ => exact kit_ty (show kitB "list" "tuple" = some false by decide +kernel)
  | tuple _ => exact kit_ty (show kitB "tuple" "tuple" = some true by decide +kernel)
  | dict _ => exact kit_ty (show kitB "dict" "tuple" = some false by decide +kernel)
def isBtn (n : Int) : PyData → Bool
  | .int i => decide (0 ≤ i) && decide (i < n)
  | _ => false
def ascFrom (n : Int) : Int → List PyData → Bool
  | _, [] => true
  | b, .int i :: r => decide (0 ≤ i) && decide (i < n) && decide (b < i) && ascFrom n i r
  | _, _ :: _ => false
def btnT (n : Int) : PyData → Bool
  | .tuple ds => ascFrom n (-1) ds
  | _ => false
def dErr (k : PyData) (x : Str) : PyData := .tuple [k, .str x]
def hasInt (k : Int) : PyData → Bool
  | .tuple ds => ds.any fun d => match d with | .int i => decide (i = k) | _ => false
  | _ => false
def errFrom (n : Int) : Nat → List PyData → PyData
  | _, [] => .none
  | k, d :: r => if btnT n d then (if hasInt (k : Int) d then dErr (.int (k : Int)) "itself" else errFrom n (k + 1) r) else dErr (.int (k : Int)) "list"
def errD : PyData → PyData
  | .tuple ds => if 1 ≤ ds.length ∧ ds.length ≤ 10 then errFrom (ds.length : Int) 0 ds else dErr .none "panel"
  | _ => dErr .none "panel"
theorem ascFrom_ints {n : Int} : ∀ {b : Int} {ds : List PyData}, ascFrom n b ds = true → ∃ ns : List Int, ds = ns.map PyData.int ∧ ns.Pairwise (· < ·) ∧ ∀ x ∈ ns, b < x ∧ 0 ≤ x ∧ x < n
  | b, [], _ => ⟨[], rfl, List.Pairwise.nil, fun _ h => by cases h⟩
  | b, d :: r, h => by
    cases d with
    | int i =>
      simp only [ascFrom, Bool.and_eq_true, decide_eq_true_eq] at h
      obtain ⟨ns, rfl, h2, h3⟩ := ascFrom_ints h.2
      refine ⟨i :: ns, rfl, List.pairwise_cons.mpr ⟨fun x hx => (h3 x hx).1, h2⟩, fun x hx => ?_⟩
      rcases List.mem_cons.mp hx with rfl | hx
      · exact ⟨h.1.2, h.1.1⟩
      · have := h3 x hx; omega
    | none => simp [ascFrom] at h
    | bool _ => simp [ascFrom] at h
    | str _ => simp [ascFrom] at h
    | list _ => simp [ascFrom] at h
    | tuple _ => simp [ascFrom] at h
    | dict _ => simp [ascFrom] at h
theorem hasInt_ints {k : Int} (ns : List Int) : hasInt k (.tuple (ns.map PyData.int)) = decide (k ∈ ns) := by
  show (ns.map PyData.int).any _ = _
  rw [List.any_map, Bool.eq_iff_iff, List.any_eq_true, decide_eq_true_eq]
  constructor
  · rintro ⟨x, hx, e⟩
    have e' : x = k := by simpa using e
    rw [← e']; exact hx
  · intro h
    exact ⟨k, h, by simp⟩
theorem dqAll_of_ints {K : PySem.W.Frag} {N : Addr → Prop} {H : Hp} : ∀ {xs : List V} {ns : List Int}, DqAll K N H xs (ns.map PyData.int) → xs = ns.map V.int
  | _, [], h => by cases h; rfl
  | _, x :: r, h => by
    cases h with
    | cons h1 h2 => cases h1; rw [List.map_cons, dqAll_of_ints h2]
theorem errFrom_drop {n : Int} {ds : List PyData} {i : Nat} {d : PyData} (h : ds[i]? = some d) : errFrom n i (ds.drop i) = if btnT n d then (if hasInt (i : Int) d then dErr (.int (i : Int)) "itself" else errFrom n (i + 1) (ds.drop (i + 1))) else dErr (.int (i : Int)) "list" := by
  have hi := (List.getElem?_eq_some_iff.mp h).1
  have : ds.drop i = d :: ds.drop (i + 1) := by
    rw [List.drop_eq_getElem_cons hi, (List.getElem?_eq_some_iff.mp h).2]
  rw [this]; rfl
theorem eqv_intsL : ∀ (ns ms : List Int), PyData.eqvAll (ns.map PyData.int) (ms.map PyData.int) = decide (ns = ms)
  | [], [] => by simp [PyData.eqvAll]
  | [], _ :: _ => by simp [PyData.eqvAll]
  | _ :: _, [] => by simp [PyData.eqvAll]
  | x :: r, y :: t => by
    simp only [List.map_cons, PyData.eqvAll, PyData.eqv, eqv_intsL r t]
    by_cases h : x = y <;> by_cases h2 : r = t <;> simp [h, h2]
theorem canLay_ints : ∀ ns : List Int, PyData.canLayAll0 (ns.map PyData.int) = true ∧ PyData.depthAll (ns.map PyData.int) = 0
  | [] => ⟨by simp [PyData.canLayAll0], by simp [PyData.depthAll]⟩
  | x :: r => by
    obtain ⟨h1, h2⟩ := canLay_ints r
    exact ⟨by simp [PyData.canLayAll0, PyData.canLay0, h1], by simp [PyData.depthAll, PyData.depth, h2]⟩
end Pr
namespace Pr
open PySem PySem.Spec PyProof.Rows L2
theorem eqv_di (ns ms : List Int) : PyData.eqv (dInts ns) (dInts ms) = decide (ns = ms) := by
  unfold dInts
  simp only [PyData.eqv]
  exact eqv_intsL ns ms
theorem eqv_rowsA : ∀ (a b : List (List Int)), PyData.eqvAll (a.map dInts) (b.map dInts) = decide (a = b)
  | [], [] => by simp [PyData.eqvAll]
  | [], _ :: _ => by simp [PyData.eqvAll]
  | _ :: _, [] => by simp [PyData.eqvAll]
  | x :: r, y :: t => by
    simp only [List.map_cons, PyData.eqvAll, eqv_di, eqv_rowsA r t]
    by_cases h : x = y <;> by_cases h2 : r = t <;> simp [h, h2]
theorem eqv_rowsT (a b : List (List Int)) : PyData.eqv (.tuple (a.map dInts)) (.tuple (b.map dInts)) = decide (a = b) := by
  simp only [PyData.eqv]; exact eqv_rowsA a b
theorem lay_rows : ∀ a : List (List Int), PyData.canLayAll0 (a.map dInts) = true ∧ PyData.depthAll (a.map dInts) ≤ 1
  | [] => ⟨by simp [PyData.canLayAll0], by simp [PyData.depthAll]⟩
  | x :: r => by
    obtain ⟨h1, h2⟩ := lay_rows r
    obtain ⟨g1, g2⟩ := canLay_ints x
    refine ⟨by simp [PyData.canLayAll0, dInts, PyData.canLay0, h1, g1], ?_⟩
    simp only [List.map_cons, PyData.depthAll, dInts, PyData.depth, g2]
    omega
theorem shp_rowsT (a : List (List Int)) : SeqAt.shaped (.tuple (a.map dInts)) = true := by
  obtain ⟨h1, h2⟩ := lay_rows a
  simp only [SeqAt.shaped, PyData.canLay0, PyData.depth, h1, Bool.true_and]
  exact decide_eq_true (by omega)
def dNone : PyData → Bool
  | .none => true
  | _ => false
section
variable {K : PySem.W.Frag} {σ : L2.St} {H : Hp} {t tk ta tb : TE}
theorem gn_repL1 {d : PyData} {k : Nat} (ha : GvL K ta σ H [d]) (hb : Gv K tb σ H (.int (k : Int))) (hk : k ≤ 1000) : GvN K (tOp rRep ta tb) σ H (List.replicate k d) := fun H1 s Q q =>
  ha H1 s _ fun a vs H2 s2 e dv => hb H2 (s.trans s2) _ fun y H3 s3 dy => by
    cases dy
    obtain ⟨v, rfl, dv1⟩ := dpAll1 dv
    refine ⟨a, (k : Int), [v], rfl, rfl, s3 _ _ e, by omega, by omega, by rw [Int.toNat_natCast]; show 1 * k ≤ _; exact Nat.le_of_lt (small1000 (by omega)), fun p np => ?_⟩
    have sp := same_new (o := .lst (List.replicate ((k : Nat) : Int).toNat [v]).flatten) np
    refine q p (List.replicate k v) _ ((s2.trans s3).trans sp) ((s2.trans s3).free np) ?_ ?_
    · rw [upd_same, Int.toNat_natCast, rep_flatA]
    · have : ∀ m, DpAll K (upd H3 p (.lst (List.replicate ((k : Nat) : Int).toNat [v]).flatten)) (List.replicate m v) (List.replicate m d) := fun m => by
        induction m with
        | zero => exact .nil
        | succ m ih => exact .cons ((dv1.sm s3).sm sp) ih
      exact this k
theorem gv_cutToG {ds : List PyData} {k : Nat} (h : Gv K t σ H (.tuple ds)) (hk : Gv K tk σ H (.int (k : Int))) (hl : k ≤ ds.length) : Gv K (tSl (rSlS K) t tNoPart (tPart tk)) σ H (.tuple (ds.take k)) := fun H1 s Q q => h H1 s _ fun v H2 s2 dv => hk H2 (s.trans s2) _ fun vk H3 s3 dk => by
  cases dk
  obtain ⟨a, xs, rfl, ha, hr⟩ := dv.tupI
  refine ⟨(k : Int), rfl, a, _, rfl, same_sqT s3 ha, fun p H4 s4 hp => q _ H4 ((s2.trans s3).trans s4) (.tup hp ?_)⟩
  have := cut_dp ((hr.sm s3).sm s4) none (some (k : Int))
  rw [HT.sIx_none, HT.sIx_nat, Nat.min_eq_left hl, List.drop_zero, Nat.sub_zero] at this
  exact this
theorem gv_cutFromG {ds : List PyData} {k : Nat} (h : Gv K t σ H (.tuple ds)) (hk : Gv K tk σ H (.int (k : Int))) (hl : k ≤ ds.length) : Gv K (tSl (rSlS K) t (tPart tk) tNoPart) σ H (.tuple (ds.drop k)) := fun H1 s Q q => h H1 s _ fun v H2 s2 dv => hk H2 (s.trans s2) _ fun vk H3 s3 dk => by
  cases dk
  obtain ⟨a, xs, rfl, ha, hr⟩ := dv.tupI
  refine ⟨(k : Int), rfl, a, _, rfl, same_sqT s3 ha, fun p H4 s4 hp => q _ H4 ((s2.trans s3).trans s4) (.tup hp ?_)⟩
  have := cut_dp ((hr.sm s3).sm s4) (some (k : Int)) none
  rw [HT.sIx_none, HT.sIx_nat, Nat.min_eq_left hl, List.take_of_length_le (by rw [List.length_drop]; omega)] at this
  exact this
theorem gv_intB {b : Bool} {r : List V → Hp → VK → Prop} (hr : r = fun xs H Q => (∃ i, xs = [.int i] ∧ Q (.int i) H) ∨ ∃ k, xs = [.bl k] ∧ Q (.int (if k then 1 else 0)) H) (h : Gv K t σ H (.bool b)) : Gv K (tCB r (tCons t tNil)) σ H (.int (if b then 1 else 0)) := by
  subst hr
  refine gv_cb (gva_cons h gva_nil) fun vs H1 Q s hd q => ?_
  obtain ⟨v, rfl, hv⟩ := dpAll1 hd
  cases hv
  exact .inr ⟨b, rfl, q _ _ (Same.refl _) (.int _)⟩
theorem gv_notN {d : PyData} (h : Gv K t σ H d) {r : R2} (hr : r = (fun x y H Q => y = .non ∧ Q (.bl (!decide (x = .non))) H)) : Gv K (tOp r t (tC .non)) σ H (.bool (!dNone d)) := by
  subst hr
  refine gv_op2 h gv_non fun x y H1 Q s hx hy q => ?_
  cases hy
  refine ⟨rfl, q _ _ (Same.refl _) ?_⟩
  have : decide (x = V.non) = dNone d := by
    cases hx <;> simp [dNone]
  rw [this]; exact .bl _
end
end Pr
namespace K64
open PySem PySem.Spec PyProof.Rows L2 Pr
def topS (i : Nat) : Stmt := PySem.Challenge.pw_pressrelease_k64_shell_queries.main.body.getD i (.Pass ⟨0, 0, 0, 0⟩)
abbrev sWl : Stmt := topS 41
abbrev sLi : Stmt := topS 42
abbrev sUn : Stmt := topS 43
abbrev sNo : Stmt := topS 47
abbrev sPressE : Stmt := topS 48
abbrev sJoin : Stmt := topS 49
abbrev sWith : Stmt := topS 50
abbrev sBtn : Stmt := topS 16
abbrev sBtnT : Stmt := topS 17
abbrev sPErr : Stmt := topS 18
abbrev sPress : Stmt := topS 19
abbrev sAny : Stmt := topS 52
abbrev sHeld : Stmt := topS 53
abbrev sChkP : Stmt := topS 56
abbrev sChkS : Stmt := topS 57
abbrev sChkB : Stmt := topS 58
abbrev sKAft : Stmt := topS 60
abbrev sListT : Stmt := topS 21
abbrev sPanT : Stmt := topS 22
abbrev sRowT : Stmt := topS 23
abbrev sIsCh : Stmt := topS 34
abbrev sChng : Stmt := topS 35
abbrev sChAns : Stmt := topS 36
abbrev sQAns : Stmt := topS 38
abbrev sDraws : Stmt := topS 65
abbrev sNext : Stmt := topS 66
abbrev sPanel : Stmt := topS 67
abbrev sLatch : Stmt := topS 68
abbrev sPressed : Stmt := topS 69
abbrev sChanged : Stmt := topS 70
abbrev sAfter : Stmt := topS 71
abbrev sEdit : Stmt := topS 72
abbrev sDo : Stmt := topS 73
abbrev sLHeld : Stmt := topS 75
abbrev sLRowT : Stmt := topS 76
abbrev sLPanT : Stmt := topS 77
abbrev sAsked : Stmt := topS 78
abbrev sDesk : Stmt := topS 79
abbrev sLaw : Stmt := topS 80
theorem tup_but3K {H H' : Hp} {a c r : Addr} {m : Nat} (d : Dk3 H a c r m) (b : But a r H H') : Kp H H' :=
  ⟨fun p xs h => tup_but3 d b h, fun p o u h => by have q := d.apart h (fun _ => by intro z; cases z); exact b _ _ q.1 q.2 h⟩
theorem gv_cut63 {K : PySem.W.Frag} {σ : L2.St} {H : Hp} {t : TE} {ns : List Int} (h : Gv K t σ H (.list (ns.map PyData.int))) (hl : ns.length ≤ 63) : Gv K (tSl (rSlL K) t tNoPart (tPart (tC (.int 63)))) σ H (.list (ns.map PyData.int)) := fun H1 s Q q => h H1 s _ fun v H2 s2 dv => by
  obtain ⟨a, xs, rfl, ha, hr⟩ := dv.lstI
  rw [dpAll_intsV hr] at ha
  refine ⟨63, rfl, a, _, rfl, ha, fun p np => q _ _ (s2.trans (same_new np)) ?_⟩
  rw [cut63 ns hl]
  exact .lst (.inl (.inl upd_same)) (by rw [← dpAll_intsV hr]; exact hr.sm (same_new np))
theorem gv_geI {K : PySem.W.Frag} {σ : L2.St} {H : Hp} {ta tb : TE} {i j : Int} (ha : Gv K ta σ H (.int i)) (hb : Gv K tb σ H (.int j)) : Gv K (tOp (rI0 fun i j => V.bl (decide (j ≤ i))) ta tb) σ H (.bool (decide (j ≤ i))) := gv_I0 ha hb fun _ => .bl _
theorem gv_lt {K : PySem.W.Frag} {σ : L2.St} {H : Hp} {ta tb : TE} {i j : Int} (ha : Gv K ta σ H (.int i)) (hb : Gv K tb σ H (.int j)) : Gv K (tOp (rI0 fun i j => .bl (decide (i < j))) ta tb) σ H (.bool (decide (i < j))) := gv_I0 ha hb fun _ => .bl _
theorem gv_abs {K : PySem.W.Frag} {σ : L2.St} {H : Hp} {t : TE} {i : Int} (h : Gv K t σ H (.int i)) : Gv K (tCB (fun xs H Q => ∃ i, xs = [.int i] ∧ Q (.int (if i < 0 then -i else i)) H) (tCons t tNil)) σ H (.int (if i < 0 then -i else i)) :=
  gv_cb (gva_cons h gva_nil) fun vs H1 Q s hd q => by
    obtain ⟨v, rfl, hv⟩ := dpAll1 hd
    cases hv
    exact ⟨i, rfl, q _ _ (Same.refl _) (.int _)⟩
theorem lf_rowsQ (p : List (List Int)) : lfAll (p.map dInts) = true := lfAll_of fun d hd => by
  obtain ⟨l, _, rfl⟩ := List.mem_map.mp hd
  exact lf_ints l
theorem dpAll_ints' {K : PySem.W.Frag} {H : Hp} (l : List Int) : DpAll K H (l.map V.int) (l.map PyData.int) := by
  induction l with
  | nil => exact .nil
  | cons x l ih => exact .cons (.int x) ih
theorem good_of {nn : Nat} {pan : List (List Int)} (hpl : pan.length = nn) (h1 : 1 ≤ nn) (h10 : nn ≤ 10) (hpan : ∀ (j : Nat) (l : List Int), pan[j]? = some l → l.Pairwise (· < ·) ∧ ∀ x ∈ l, 0 ≤ x ∧ x < (nn : Int) ∧ x ≠ (j : Int)) : Good pan := by
  refine ⟨by omega, by omega, fun l hl => ?_, fun l hl x hx => ?_, fun i l h hi => ?_⟩
  · obtain ⟨j, hj⟩ := List.getElem?_of_mem hl
    exact (hpan j l hj).1
  · obtain ⟨j, hj⟩ := List.getElem?_of_mem hl
    have := (hpan j l hj).2 x hx
    omega
  · exact ((hpan i l h).2 _ hi).2.2 rfl
def nDraws : List Str := ["_law_script", "_law_cells", "_law_cell"]
theorem scDraws : FnScope nDraws ["_law_script"] (defScope sDraws) := ⟨rfl, rfl, rfl, by decide +kernel, rfl, by decide +kernel, by decide +kernel⟩
section
variable {P : Program} {w : World} {K : PySem.W.Frag} {mg : Str → Option Value} {base : Heap}
def spDraws (K : PySem.W.Frag) : Sp := fun vs H Q _ => ∃ (s : Addr) (ns : List Int), vs = [.ref s] ∧ SqL K H s (ns.map V.int) ∧ ns.length ≤ 63 ∧
  ∀ H' a c r, Same H H' → Dk3 H' a c r 1000000 → Q (.ref a) H'
theorem ok_Draws  {f : Addr} {fd : FuncData} {k : Nat} (F : Fun K "_law_draws" "_law_draws" sDraws f fd)
    (m_abs : mg "abs" = none) (m_int : mg "int" = none) (m_len : mg "len" = none) : FnOk P w K mg base CX0 (k + 1) f fd ["_law_script"] (spDraws K) := by
  refine F.ok scDraws (fun vs H Q E h => ?_) (fun cdv A outer s H vs Q E hr h => ?_)
  · obtain ⟨s, ns, rfl, _⟩ := h
    rfl
  · obtain ⟨sa, ns, rfl, hS, hlen, q⟩ := h
    refine ⟨_, pss_cons (ps_set (i := 1) scDraws.nd rfl (.inl rfl) (pe_op op_cat (pe_lc (own := [("_law_cell", 2)]) (g := gName 2) (tt := tYes) rfl scDraws.nd (show PI _ _ _ (iList K _) from pi_list (pe_slice (show SlR _ (rSlL K) from sl_list) (pv 0) po_none (po_some pe_int))) (blkOk_by (own := [("_law_cell", 2)]) (N := nDraws) (sc := defScope sDraws) (by decide +kernel)) (fun _ _ _ _ _ => pg_name (i := 2) scDraws.nd rfl (Or.inl rfl)) (fun _ _ _ _ _ => pts_nil) (fun _ _ _ _ _ => pe_callB call_abs (by rfl) m_abs (by decide +kernel) (pa_cons (pv 2) pa_nil))) (pe_op op_rep (pe_lst (pa_cons pe_int pa_nil)) (pe_callTy call_int1 (by rfl) m_int (by decide +kernel) (pa_cons (pe_cmpR op_eq (pe_callB (show CallR _ _ (rLenG K) from cr_lenG) (by rfl) m_len PySem.boot_len (pa_cons (pv 0) pa_nil)) pe_int (nomark _)) pa_nil)))))
      (pss_one (ps_ret (pe_lst (pa_cons (pv 1) (pa_cons pe_int (pa_cons (pe_lc (own := [("_law_cell", 2)]) (g := gName 2) (tt := tYes) rfl scDraws.nd (show PI _ _ _ (iList K _) from pi_list (pv 1)) (blkOk_by (own := [("_law_cell", 2)]) (N := nDraws) (sc := defScope sDraws) (by decide +kernel)) (fun _ _ _ _ _ => pg_name (i := 2) scDraws.nd rfl (Or.inl rfl)) (fun _ _ _ _ _ => pts_nil) (fun _ _ _ _ _ => pe_op op_mul (pv 2) (pe_callTy call_int1 (by rfl) m_int (by decide +kernel) (pa_cons (pe_cmpR op_ge (pv 2) (pe_op op_pow pe_int pe_int) (nomark _)) pa_nil)))) pa_nil)))))), ?_⟩
    have dS : Dp K H (.ref sa) (.list (ns.map PyData.int)) := .lst hS (by
      refine DpAll.of_get (by simp) fun i v d h1 h2 => ?_
      rw [List.getElem?_map] at h1 h2
      cases e : ns[i]? with
      | none => rw [e] at h1; cases h1
      | some z => rw [e] at h1 h2; cases h1; cases h2; exact .int _)
    obtain ⟨k, hk, lk0, lk1⟩ : ∃ k : Nat, (if decide (((ns.map PyData.int).length : Int) = 0) = true then (1 : Int) else 0) = (k : Int) ∧ 1 ≤ ns.length + k ∧ ns.length + k ≤ 63 := by
      rw [List.length_map]
      by_cases e : ns.length = 0
      · exact ⟨1, by rw [e]; rfl, by omega, by omega⟩
      · exact ⟨0, by rw [decide_eq_false (by omega)]; rfl, by omega, by omega⟩
    refine gs_setN (gn_cat (gl_lc (δ := PyData.int) (as := ns) (p := fun _ => true) (f := fun x : Int => .int (if x < 0 then -x else x)) (gvi_list (gv_cut63 (gv_var rfl dS) hlen)) (fun x v H1 _ s dx => ⟨gvt_yes, fun _ => gv_abs (gv_var rfl dx)⟩) (fun _ _ => rfl) (by omega))
      (gn_repL1 (k := k) (gl_lst (gva_cons gv_int gva_nil)) ((gv_intB rfl (gv_eqI (gv_lenL (gv_var rfl dS)) gv_int)).to (by rw [hk])) (by omega)).gl (by rw [List.length_map, List.filter_eq_self.mpr (fun _ _ => rfl), List.length_replicate]; omega)) fun c cs H1 s1 nc ec dc => ?_
    obtain ⟨cells, hcells, lcs⟩ : ∃ cells : List Int, ((ns.filter fun _ => true).map fun x : Int => PyData.int (if x < 0 then -x else x)) ++ List.replicate k (PyData.int 0) = cells.map PyData.int ∧ cells.length = ns.length + k := by
      refine ⟨(ns.map fun x => if x < 0 then -x else x) ++ List.replicate k 0, ?_, by simp⟩
      rw [List.filter_eq_self.mpr (fun _ _ => rfl), List.map_append, List.map_map, List.map_replicate]; rfl
    rw [hcells] at dc
    have ecs := dpAll_intsV dc
    have dC : Dp K H1 (.ref c) (.list (cells.map PyData.int)) := .lst (.inl (.inl ec)) dc
    refine ⟨.ref c, rfl, ?_⟩
    unfold tCons tC
    dsimp only
    refine (gn_lc (K := K) (δ := PyData.int) (as := cells) (p := fun _ => true) (f := fun x : Int => .int (x * (if decide ((10 : Int) ^ (18 : Int).toNat ≤ x) = true then 1 else 0))) (gvi_list (gv_var rfl dC)) (fun x v H2 _ s dx => ⟨gvt_yes, fun _ => ?_⟩) (fun _ _ => rfl) (by omega)).at fun D rs H2 s2 nD eD dD => ⟨by show 3 ≤ sizeLine; decide, fun a na => ?_⟩
    · exact gv_I (gv_var rfl dx) (gv_intB rfl (gv_geI (gv_var rfl dx) (gv_I gv_int gv_int ⟨by decide, by decide, by decide⟩ (fun _ => .int _)))) (.inr (by split <;> exact ⟨by decide, by decide⟩)) (fun _ => .int _)
    · rw [List.filter_eq_self.mpr (fun _ _ => rfl)] at dD
      have erl : rs.length = cells.length := by rw [dD.length, List.length_map]
      have ers : rs = (cells.map fun x : Int => x * (if decide ((10 : Int) ^ (18 : Int).toNat ≤ x) = true then 1 else 0)).map V.int := dpAll_intsV (by rw [List.map_map]; exact dD)
      have ec2 := s2 _ _ ec
      refine q _ a c D ((s1.trans s2).trans (same_new na)) ⟨cells, _, 0, upd_same, (same_new na) _ _ (by rw [ec2, ecs]), (same_new na) _ _ (by rw [eD, ers]), Ne.symm (ne_of_none ec2 na), Ne.symm (ne_of_none eD na), ne_of_none ec nD, by omega, by omega, by rw [List.length_map], by omega⟩
end
def nNext : List Str := ["_law_state", "_law_many", "_law_cells", "_law_count", "_law_rests", "_law_index", "_law_digit", "_law_mixed"]
theorem scNext : FnScope nNext ["_law_state", "_law_many"] (defScope sNext) := ⟨rfl, rfl, rfl, by decide +kernel, rfl, by decide +kernel, by decide +kernel⟩
section
variable {P : Program} {w : World} {K : PySem.W.Frag} {mg : Str → Option Value} {base : Heap}
def spNext : Sp := fun vs H Q _ => ∃ (a c r : Addr) (m : Nat) (lim : Int), vs = [.ref a, .int lim] ∧ Dk3 H a c r (m + 1) ∧ 0 < lim ∧ lim < 1000000 ∧
  ∀ H' x, But a r H H' → Dk3 H' a c r m → 0 ≤ x → x < lim → Q (.int x) H'
theorem ok_Next  {f : Addr} {fd : FuncData} {k : Nat} (F : Fun K "_law_next" "_law_next" sNext f fd)
    (m_len : mg "len" = none) : FnOk P w K mg base CX0 (k + 1) f fd ["_law_state", "_law_many"] (spNext) := by
  refine F.ok scNext (fun vs H Q E h => ?_) (fun cdv A outer s H vs Q E hr h => ?_)
  · obtain ⟨a, c, r, m, lim, rfl, _⟩ := h
    rfl
  · obtain ⟨a, c, r, m, lim, rfl, hD, l0, l1, q⟩ := h
    refine ⟨_, pss_cons (ps_asg (pv 0) (pg_unl rfl (pgs_cons (pg_name (i := 2) scNext.nd rfl (Or.inl rfl)) (pgs_cons (pg_name (i := 3) scNext.nd rfl (Or.inl rfl)) (pgs_cons (pg_name (i := 4) scNext.nd rfl (Or.inl rfl)) pgs_nil)))))
      (pss_cons (ps_set (i := 5) scNext.nd rfl (.inl rfl) (pe_op op_mod (pv 3) (pe_callB (show CallR _ _ (rLenG K) from cr_lenG) (by rfl) m_len PySem.boot_len (pa_cons (pv 2) pa_nil))))
      (pss_cons (ps_asg (pe_op op_add (pv 3) pe_int) (pg_sub (pv 0) pe_int set_list))
      (pss_cons (ps_if (pt_cmpR op_gt (pe_ix (show IxR _ (rIxL K) from ix_list) (pv 4) (pv 5) (fun _ _ => rfl)) pe_int (nomark _)) (pss_cons (ps_set (i := 6) scNext.nd rfl (.inl rfl) (pe_op op_mod (pe_ix (show IxR _ (rIxL K) from ix_list) (pv 4) (pv 5) (fun _ _ => rfl)) (pv 1)))
      (pss_cons (ps_asg (pe_op op_fdiv (pe_ix (show IxR _ (rIxL K) from ix_list) (pv 4) (pv 5) (fun _ _ => rfl)) (pv 1)) (pg_sub (pv 4) (pv 5) set_list))
      (pss_one (ps_ret (pv 6))))) pss_nil)
      (pss_cons (ps_set (i := 7) scNext.nd rfl (.inl rfl) (pe_op op_mod (pe_op op_pow (pe_op op_add (pe_op op_add (pe_op op_mod (pe_ix (show IxR _ (rIxL K) from ix_list) (pv 2) (pv 5) (fun _ _ => rfl)) pe_int) (pe_op op_mul pe_int (pv 3))) pe_int) pe_int) pe_int))
      (pss_cons (ps_set (i := 7) scNext.nd rfl (.inl rfl) (pe_op op_mod (pe_op op_pow (pe_op op_add (pe_op op_add (pv 7) (pe_op op_mul (pe_op op_mul pe_int (pv 3)) (pv 3))) pe_int) pe_int) pe_int))
      (pss_one (ps_ret (pe_op op_mod (pe_op op_fdiv (pe_op op_mod (pe_op op_mul (pv 7) pe_int) pe_int) pe_int) (pv 1))))))))), ?_⟩
    obtain ⟨cells, rests, n, ha, hc, hrr, nac, nar, ncr, lc0, lc1, lr, hn⟩ := hD
    refine ⟨.ref a, rfl, a, _, rfl, .inl (.inl ha), rfl, _, _, rfl, _, _, rfl, _, _, rfl, rfl, ?_⟩
    have hcl : ((cells.map V.int).length : Int) = (cells.length : Int) := by rw [List.length_map]
    refine ⟨.int (n : Int), rfl, .ref c, rfl, c, _, rfl, .inl (.inl (.inl hc)), _, _, rfl, rfl, (by rw [hcl]; omega), ?_⟩
    rw [hcl]
    have l2 := Int.emod_nonneg (n : Int) (show ((cells.length : Int)) ≠ 0 by omega)
    have l3 := Int.emod_lt_of_pos (n : Int) (show (0 : Int) < (cells.length : Int) by omega)
    obtain ⟨j, hj⟩ : ∃ j : Nat, (n : Int) % (cells.length : Int) = (j : Int) := ⟨_, (Int.toNat_of_nonneg l2).symm⟩
    dsimp only
    rw [hj]
    have hjl : j < cells.length := by omega
    have hjr : j < rests.length := by omega
    have gj : (cells.map V.int)[j]? = some (.int cells[j]) := by rw [List.getElem?_map, List.getElem?_eq_getElem hjl]; rfl
    have gr : (rests.map V.int)[j]? = some (.int rests[j]) := by rw [List.getElem?_map, List.getElem?_eq_getElem hjr]; rfl
    refine ⟨.int (n : Int), rfl, (n : Int), 1, rfl, rfl, .ref a, rfl, a, _, 1, 1, rfl, rfl, ha, rfl, ?_⟩
    refine gen_heap (fun H1 => H1 a = some (.lst [.ref c, .int ((n : Int) + 1), .ref r]) ∧ H1 c = some (.lst (cells.map V.int)) ∧ H1 r = some (.lst (rests.map V.int)) ∧ But a r H H1)
      ⟨upd_same, by rw [upd_ne (Ne.symm nac)]; exact hc, by rw [upd_ne (Ne.symm nar)]; exact hrr, fun b o h1 _ e => by rw [upd_ne h1]; exact e⟩ fun H1 ⟨ha1, hc1, hr1, b1⟩ => ?_
    have hcs : SqL K H1 c (cells.map V.int) := .inl (.inl hc1)
    have hrs : SqL K H1 r (rests.map V.int) := .inl (.inl hr1)
    refine ⟨.ref r, rfl, .int (j : Int), rfl, r, _, _, _, rfl, rfl, hrs, atI_nat gr, _, 0, rfl, rfl, _, rfl, ite2 (fun e => ?_) (fun e => ?_)⟩
    · refine ⟨.ref r, rfl, .int (j : Int), rfl, r, _, _, _, rfl, rfl, hrs, atI_nat gr, .int lim, rfl, _, lim, rfl, rfl, l0, ?_⟩
      refine ⟨.ref r, rfl, .int (j : Int), rfl, r, _, _, _, rfl, rfl, hrs, atI_nat gr, .int lim, rfl, _, lim, rfl, rfl, ⟨l0, by omega⟩, .ref r, rfl, .int (j : Int), rfl, r, _, _, j, rfl, rfl, hr1, ixN_nat (by rw [List.length_map]; exact hjr), ?_⟩
      refine ⟨_, rfl, q _ _ (b1.trans fun b o _ h2 e => by rw [upd_ne h2]; exact e) ⟨cells, rests.set j (rests[j] / lim), n + 1, ?_, ?_, ?_, nac, nar, ncr, lc0, lc1, ?_, by omega⟩ (Int.emod_nonneg _ (by omega)) (Int.emod_lt_of_pos _ l0)⟩
      · rw [upd_ne nar, ha1]; rfl
      · rw [upd_ne ncr]; exact hc1
      · rw [upd_same, List.map_set]
      · rw [List.length_set]; exact lr
    · have m1 : 0 ≤ cells[j] % 2147483629 := Int.emod_nonneg _ (by decide)
      have m2 : cells[j] % 2147483629 < 2147483629 := Int.emod_lt_of_pos _ (by decide)
      refine ⟨.ref c, rfl, .int (j : Int), rfl, c, _, _, _, rfl, rfl, hcs, atI_nat gj, _, 2147483629, rfl, rfl, (by show (0 : Int) < 2147483629; decide), .int (n : Int), rfl, 40037, (n : Int), rfl, rfl, .inl ⟨by decide, by decide⟩, _, _, rfl, rfl, _, 9203, rfl, rfl, _, 3, rfl, rfl, ⟨by decide, by decide, ?_⟩,
        _, 2147483587, rfl, rfl, (by show (0 : Int) < 2147483587; decide), ?_⟩
      · omega
      · dsimp only
        generalize hmx : (cells[j] % 2147483629 + 40037 * (n : Int) + 9203) ^ (3 : Int).toNat % 2147483587 = mx
        have x1 : 0 ≤ mx := by rw [← hmx]; exact Int.emod_nonneg _ (by decide)
        have x2 : mx < 2147483587 := by rw [← hmx]; exact Int.emod_lt_of_pos _ (by decide)
        have nn : (5039 * (n : Int)) * (n : Int) ≤ 6007000000 * 1000000 := by
          have a1 : 5039 * (n : Int) ≤ 6007000000 := by omega
          exact Int.le_trans (Int.mul_le_mul_of_nonneg_right a1 (by omega)) (Int.mul_le_mul_of_nonneg_left (by omega) (by decide))
        have nn0 : 0 ≤ (5039 * (n : Int)) * (n : Int) := Int.mul_nonneg (by omega) (by omega)
        refine ⟨.int mx, rfl, .int (n : Int), rfl, 5039, (n : Int), rfl, rfl, .inl ⟨by decide, by decide⟩, .int (n : Int), rfl, _, (n : Int), rfl, rfl, .inr ⟨by omega, by omega⟩, mx, _, rfl, rfl, _, 43, rfl, rfl, _, 3, rfl, rfl, ⟨by decide, by decide, ?_⟩, _, 2147483563, rfl, rfl, (by show (0 : Int) < 2147483563; decide), ?_⟩
        · generalize (5039 * (n : Int)) * (n : Int) = y at nn nn0 ⊢
          omega
        · dsimp only
          generalize (mx + 5039 * (n : Int) * (n : Int) + 43) ^ (3 : Int).toNat % 2147483563 = my
          refine ⟨.int my, rfl, my, 65537, rfl, rfl, .inr ⟨by decide, by decide⟩, _, 2305843009213693951, rfl, rfl, (by show (0 : Int) < 2305843009213693951; decide), _, 8, rfl, rfl, ⟨by decide, by decide⟩, .int lim, rfl, _, lim, rfl, rfl, l0, ?_⟩
          exact q _ _ b1 ⟨cells, rests, n + 1, by rw [ha1]; rfl, hc1, hr1, nac, nar, ncr, lc0, lc1, lr, by omega⟩ (Int.emod_nonneg _ (by omega)) (Int.emod_lt_of_pos _ l0)
end
end K64
namespace K64
open PySem PySem.Spec PyProof.Rows L2 Pr
def nPanel : List Str := ["_law_state", "_law_most", "_law_many", "_law_way", "_law_found", "_law_button", "_law_some", "_law_other", "_law_digit", "_law_is_next"]
theorem scPanel : FnScope nPanel ["_law_state", "_law_most"] (defScope sPanel) := ⟨rfl, rfl, rfl, by decide +kernel, rfl, by decide +kernel, by decide +kernel⟩
section
variable {P : Program} {w : World} {K : PySem.W.Frag} {mg : Str → Option Value} {base : Heap}
def spPanel (K : PySem.W.Frag) : Sp := fun vs H Q _ => ∃ (a c r : Addr) (m : Nat) (most : Int), vs = [.ref a, .int most] ∧ Dk3 H a c r (m + 200) ∧ 1 ≤ most ∧ most ≤ 10 ∧
  ∀ H' v pan, But a r H H' → Dk3 H' a c r m → Dp K H' v (dPan pan) → Good pan → (pan.length : Int) ≤ most → Q v H'
theorem ok_Panel {fNext : Addr} {fdNext : FuncData} {f : Addr} {fd : FuncData} {k : Nat} (F : Fun K "_law_panel" "_law_panel" sPanel f fd)
    (FNext : Fun K "_law_next" "_law_next" sNext fNext fdNext) (bNext : Binds K fdNext ["_law_state", "_law_many"] []) (gNext : mg "_law_next" = some (.ref fNext))
    (m_len : mg "len" = none) (m_range : mg "range" = none) (m_tuple : mg "tuple" = none) : FnOk P w K mg base CX0 (k + 2) f fd ["_law_state", "_law_most"] (spPanel K) := by
  have GNext : FnOk P w K mg base CX0 (k + 1) fNext fdNext ["_law_state", "_law_many"] spNext := ok_Next FNext m_len
  refine F.ok scPanel (fun vs H Q E h => ?_) (fun cdv A outer s H vs Q E hr h => ?_)
  · obtain ⟨a, c, r, m, most, rfl, _⟩ := h
    rfl
  · obtain ⟨a, c, r, m, most, rfl, hD, m1, m2, q⟩ := h
    refine ⟨_, pss_cons (ps_par3 (i := 2) (j := 3) (l := 4) rfl scPanel.nd rfl rfl rfl (by decide) (by decide) (by decide) rfl rfl rfl (pa_cons (pe_op op_add pe_int (pe_call GNext (hr.mono (by omega)) (by rfl) gNext FNext.kp bNext .nil pass0 (pa_cons (pv 0) (pa_cons (pv 1) pa_nil)))) (pa_cons (pe_call GNext (hr.mono (by omega)) (by rfl) gNext FNext.kp bNext .nil pass0 (pa_cons (pv 0) (pa_cons pe_int pa_nil))) (pa_cons (pe_lst pa_nil) pa_nil))) (by rfl))
      (pss_cons (ps_for PassesOwn.never rfl (pi_range1 (by rfl) m_range (pa_cons (pv 2) pa_nil)) (pg_name (i := 5) scPanel.nd rfl (Or.inl rfl)) (pss_cons (ps_set (i := 6) scPanel.nd rfl (.inl rfl) (pe_lst pa_nil))
      (pss_cons (ps_for PassesOwn.never rfl (pi_range1 (by rfl) m_range (pa_cons (pv 2) pa_nil)) (pg_name (i := 7) scPanel.nd rfl (Or.inl rfl)) (pss_cons (ps_set (i := 8) scPanel.nd rfl (.inl rfl) (pe_call GNext (hr.mono (by omega)) (by rfl) gNext FNext.kp bNext .nil pass0 (pa_cons (pv 0) (pa_cons pe_int pa_nil))))
      (pss_cons (ps_set (i := 9) scPanel.nd rfl (.inl rfl) (pe_and (pe_cmpR op_eq (pv 3) pe_int (nomark _)) (pe_one (pe_cmpR op_eq (pv 7) (pe_op op_mod (pe_op op_add (pv 5) pe_int) (pv 2)) (nomark _)))))
      (pss_one (ps_if (PW.pt (pw_and (pt_cmpR op_ne (pv 7) (pv 5) (nomark _)) (pw_and1 (PW.pt (pw_or (pt_val (pv 9)) (pw_or1 (pt_cmpR op_lt (pv 8) (pe_ix (show IxR _ (rIxL K) from ix_list) (pe_lst (pa_cons pe_int (pa_cons pe_int (pa_cons pe_int (pa_cons pe_int (pa_cons pe_int pa_nil)))))) (pv 3) (fun _ _ => rfl)) (nomark _)))))))) (pss_one (ps_expr (show PE _ _ (tBM K "list" rAppend _ _) from pe_bm PySem.F.plainAttrs_list PySem.F.slot_list_append PySem.F.type_list_append mt_append (pv 6) (pa_cons (pv 7) pa_nil)))) pss_nil)))))
      (pss_one (ps_expr (show PE _ _ (tBM K "list" rAppend _ _) from pe_bm PySem.F.plainAttrs_list PySem.F.slot_list_append PySem.F.type_list_append mt_append (pv 4) (pa_cons (pe_callTy (show CallR _ _ (rTupG K) from cr_tupG) (by rfl) m_tuple (by decide +kernel) (pa_cons (pv 6) pa_nil)) pa_nil)))))))
      (pss_one (ps_ret (pe_callTy (show CallR _ _ (rTupG K) from cr_tupG) (by rfl) m_tuple (by decide +kernel) (pa_cons (pv 4) pa_nil))))), ?_⟩
    refine ⟨.ref a, rfl, .int most, rfl, a, c, r, m + 199, most, rfl, hD.less (by omega), by omega, by omega, fun H1 r1 b1 D1 r1a r1b => ?_⟩
    refine ⟨1, r1, rfl, rfl, .ref a, rfl, a, c, r, m + 198, 5, rfl, D1, by decide, by decide, fun H2 y b2 D2 y0 y5 => ⟨Nat.zero_le _, fun F nF => ⟨_, _, _, rfl, ?_⟩⟩⟩
    have sF : Same H2 (upd H2 F (.lst [])) := same_new nF
    have FD' := D2.fresh nF
    have b12 := b1.trans b2
    obtain ⟨nn, hnn⟩ : ∃ nn : Nat, 1 + r1 = (nn : Int) := ⟨(1 + r1).toNat, (Int.toNat_of_nonneg (by omega)).symm⟩
    obtain ⟨lim, hlim⟩ : ∃ lim : Int, ([PyData.int 1, .int 1, .int 3, .int 1, .int 5] : List PyData)[y.toNat]? = some (.int lim) := by
      obtain h | h | h | h | h : y = 0 ∨ y = 1 ∨ y = 2 ∨ y = 3 ∨ y = 4 := by omega
      all_goals (subst h; exact ⟨_, rfl⟩)
    refine gen_heap (fun H3 => But a r H H3 ∧ Dk3 H3 a c r (m + 198) ∧ H3 F = some (.lst [])) ⟨b12.trans (But.of sF), D2.same sF, upd_same⟩ fun H3 ⟨b3, D3, eF3⟩ => ?_
    dsimp only
    rw [hnn]
    have hFH : H F = none := b12.free FD'.1 FD'.2.1 nF
    refine gs_range (K := K) (n := nn) (gv_var rfl (.int (nn : Int))) (by omega) (fun _ i σ H5 => But a r H H5 ∧ Dk3 H5 a c r (m + 10 * (10 - i)) ∧
        (∃ (vs : List V) (pan : List (List Int)), H5 F = some (.lst vs) ∧ DpAll K H5 vs (pan.map dInts) ∧ pan.length = i ∧
          ∀ (j : Nat) (l : List Int), pan[j]? = some l → l.Pairwise (· < ·) ∧ ∀ x ∈ l, 0 ≤ x ∧ x < (nn : Int) ∧ x ≠ (j : Int)) ∧
        ∃ x5 x6 x7 x8 x9, σ = [some (.ref a), some (.int most), some (.int (nn : Int)), some (.int y), some (.ref F), x5, x6, x7, x8, x9])
      (fun H4 s4 => ⟨b3.trans (But.of s4), (D3.same s4).less (by omega), ⟨[], [], s4 _ _ eF3, .nil, rfl, fun j l h => by simp at h⟩, none, none, none, none, none, rfl⟩) (fun H4 i σ H5 s4 hi hP => ?_) (fun H4 σ H5 s4 hP => ?_)
    · obtain ⟨b5, D5, ⟨vs, pan, eF, dvs, hpl, hpan⟩, x5, x6, x7, x8, x9, rfl⟩ := hP
      refine gs_setN (K := K) (gn_lst gva_nil) fun S vs0 H6 s6 nS eS dv0 => ?_
      have nSF : S ≠ F := Ne.symm (ne_of_none eF nS)
      have SD := D5.fresh nS
      have hSH : H S = none := b5.free SD.1 SD.2.1 nS
      refine gs_range (K := K) (n := nn) (gv_var rfl (.int (nn : Int))) (by omega) (fun _ k σ H7 => But a r H H7 ∧ Dk3 H7 a c r (m + 10 * (10 - i) - k) ∧ H7 F = some (.lst vs) ∧ DpAll K H7 vs (pan.map dInts) ∧
          (∃ acc : List Int, H7 S = some (.lst (acc.map V.int)) ∧ acc.length ≤ k ∧ acc.Pairwise (· < ·) ∧ ∀ x ∈ acc, 0 ≤ x ∧ x < (k : Int) ∧ x ≠ (i : Int)) ∧
          ∃ x7 x8 x9, σ = [some (.ref a), some (.int most), some (.int (nn : Int)), some (.int y), some (.ref F), some (.int (i : Int)), some (.ref S), x7, x8, x9])
        (fun H7 s7 => ⟨b5.trans (But.of (s6.trans s7)), D5.same (s6.trans s7), (s6.trans s7) _ _ eF, dvs.sm (s6.trans s7), ⟨[], s7 _ _ (by cases dv0; exact eS), Nat.le_refl _, List.Pairwise.nil, fun x h => by cases h⟩, _, _, _, rfl⟩) (fun Hx k σ H7 sx hk hP => ?_) (fun Hx σ H7 sx hP => ?_)
      · obtain ⟨b7, D7, eF7, dvs7, ⟨acc, eS7, al, ap, am⟩, x7, x8, x9, rfl⟩ := hP
        refine ⟨.ref a, rfl, a, c, r, m + 10 * (10 - i) - (k + 1), 5, rfl, D7.less (by omega), by decide, by decide, fun H8 dg b8 D8 dg0 dg5 => ?_⟩
        have eF8 : H8 F = some (.lst vs) := b8 _ _ FD'.1 FD'.2.1 eF7
        have eS8 : H8 S = some (.lst (acc.map V.int)) := b8 _ _ SD.1 SD.2.1 eS7
        have kp8 := tup_but3K D7 b8
        have dvs8 := dpAll_kp kp8 _ _ (lf_rowsQ pan) dvs7
        have b78 := b7.trans b8
        unfold gName
        dsimp only
        refine gs_set1 (K := K) (gv_andV (gv_eqI (gv_var rfl (.int y)) gv_int) (fun _ => gv_eqI (gv_var rfl (.int (k : Int))) (gv_I (gv_add (gv_var rfl (.int (i : Int))) gv_int) (gv_var rfl (.int (nn : Int))) (by show (0 : Int) < (nn : Int); omega) (fun _ => .int _)))) fun vn H9 s9 dn => ?_
        have am' : ∀ x ∈ acc, 0 ≤ x ∧ x < ((k + 1 : Nat) : Int) ∧ x ≠ (i : Int) := fun x hx => by have := am x hx; omega
        refine gs_if (gvt_and (gvt_test (K := K) (gv_neI (gv_var rfl (.int (k : Int))) (gv_var rfl (.int (i : Int))))) (fun Ha sa _ => gvt_or (gvt_b (K := K) (gv_var rfl (dn.sm sa))) (fun Hb sb _ => gvt_test (K := K) (gv_lt (gv_var rfl (.int dg)) (gv_ixL (j := y.toNat) (gv_lst (gva_cons gv_int (gva_cons gv_int (gva_cons gv_int (gva_cons gv_int (gva_cons gv_int gva_nil)))))) (gv_var rfl (.int y)) (by omega) hlim))))) (fun e Hc sc => ?_) (fun e Hc sc => ?_)
        · have hne : (k : Int) ≠ (i : Int) := by
            rw [Bool.and_eq_true] at e
            have := e.1
            simpa using this
          have eS9 : Hc S = some (.lst (acc.map V.int)) := sc _ _ (s9 _ _ eS8)
          refine ⟨.ref S, rfl, .inl ⟨rfl, _, .inl (.inl eS9)⟩, _, rfl, S, _, _, rfl, rfl, eS9, by rw [List.length_map]; exact small1000 (by omega), ?_⟩
          have kD := Kp.upd (o := .lst (acc.map V.int ++ [.int (k : Int)])) eS9
          refine ⟨fun b o h1 h2 e => ?_, ((D8.same s9).same sc).upd SD, ?_, dpAll_kp kD _ _ (lf_rowsQ pan) ((dvs8.sm s9).sm sc), ⟨acc ++ [(k : Int)], by rw [upd_same, List.map_append]; rfl, by rw [List.length_append]; show _ + 1 ≤ _; omega, ?_, fun x hx => ?_⟩, _, _, _, rfl⟩
          · have : b ≠ S := fun z => by subst z; rw [hSH] at e; cases e
            rw [upd_ne this]; exact sc _ _ (s9 _ _ (b78 b o h1 h2 e))
          · rw [upd_ne (Ne.symm nSF)]; exact sc _ _ (s9 _ _ eF8)
          · rw [List.pairwise_append]
            refine ⟨ap, List.pairwise_singleton _ _, fun x hx z hz => ?_⟩
            have := am x hx
            rw [List.mem_singleton.mp hz]; omega
          · rcases List.mem_append.mp hx with h | h
            · exact am' x h
            · rw [List.mem_singleton.mp h]; omega
        · exact ⟨b78.trans (But.of (s9.trans sc)), (D8.same s9).same sc, sc _ _ (s9 _ _ eF8), (dvs8.sm s9).sm sc, ⟨acc, sc _ _ (s9 _ _ eS8), by omega, ap, am'⟩, _, _, _, rfl⟩
      · obtain ⟨b7, D7, eF7, dvs7, ⟨acc, eS7, al, ap, am⟩, x7, x8, x9, rfl⟩ := hP
        refine ⟨.ref F, rfl, .inl ⟨rfl, _, .inl (.inl eF7)⟩, (gv_tupL (K := K) (ds := acc.map PyData.int) (gv_var rfl (.lst (.inl (.inl eS7)) (dpAll_ints' acc)))).at fun vt H8 s8 dt => ?_⟩
        have eF8 := s8 _ _ eF7
        have lv : vs.length ≤ 10 := by rw [dvs.length, List.length_map]; omega
        refine ⟨F, _, _, rfl, rfl, eF8, small1000 (by omega), ?_⟩
        have kD := Kp.upd (o := .lst (vs ++ [vt])) eF8
        refine ⟨fun b o h1 h2 e => ?_, ((D7.same s8).upd FD').less (by omega), ⟨vs ++ [vt], pan ++ [acc], upd_same, ?_, by rw [List.length_append, hpl]; rfl, fun j l h => ?_⟩, _, _, _, _, _, rfl⟩
        · have : b ≠ F := fun z => by subst z; rw [hFH] at e; cases e
          rw [upd_ne this]; exact s8 _ _ (b7 b o h1 h2 e)
        · refine dpAll_kp kD _ _ (lf_rowsQ _) ?_
          rw [List.map_append]
          exact DpAll.append (dvs7.sm s8) (.cons dt .nil)
        · rcases Nat.lt_or_ge j pan.length with hj | hj
          · rw [List.getElem?_append_left hj] at h
            exact hpan j l h
          · rw [List.getElem?_append_right hj] at h
            have hj' : j - pan.length = 0 := by
              rcases Nat.eq_zero_or_pos (j - pan.length) with h0 | h0
              · exact h0
              · rw [List.getElem?_eq_none (by show 1 ≤ _; omega)] at h; cases h
            rw [hj'] at h
            cases h
            refine ⟨ap, fun x hx => ?_⟩
            have := am x hx
            omega
    · obtain ⟨b5, D5, ⟨vs, pan, eF, dvs, hpl, hpan⟩, x5, x6, x7, x8, x9, rfl⟩ := hP
      refine gs_ret (K := K) (gv_tupL (gv_var rfl (.lst (.inl (.inl eF)) dvs))) fun v H6 s6 dv => q H6 v pan (b5.trans (But.of s6)) ((D5.same s6).less (by omega)) dv ?_ (by omega)
      exact good_of hpl (by omega) (by omega) hpan
end
def nLatch : List Str := ["_law_state", "_law_many", "_law_way", "_law_found", "_law_button"]
theorem scLatch : FnScope nLatch ["_law_state", "_law_many"] (defScope sLatch) := ⟨rfl, rfl, rfl, by decide +kernel, rfl, by decide +kernel, by decide +kernel⟩
section
variable {P : Program} {w : World} {K : PySem.W.Frag} {mg : Str → Option Value} {base : Heap}
def spLatch (K : PySem.W.Frag) : Sp := fun vs H Q _ => ∃ (a c r : Addr) (m n : Nat), vs = [.ref a, .int (n : Int)] ∧ Dk3 H a c r (m + 20) ∧ n ≤ 10 ∧
  ∀ H' t st, But a r H H' → Dk3 H' a c r m → H' t = some (.tup (st.map V.int)) → Asc n st → Q (.ref t) H'
theorem ok_Latch {fNext : Addr} {fdNext : FuncData} {f : Addr} {fd : FuncData} {k : Nat} (F : Fun K "_law_latched" "_law_latched" sLatch f fd)
    (FNext : Fun K "_law_next" "_law_next" sNext fNext fdNext) (bNext : Binds K fdNext ["_law_state", "_law_many"] []) (gNext : mg "_law_next" = some (.ref fNext))
    (m_len : mg "len" = none) (m_range : mg "range" = none) (m_tuple : mg "tuple" = none) : FnOk P w K mg base CX0 (k + 2) f fd ["_law_state", "_law_many"] (spLatch K) := by
  have GNext : FnOk P w K mg base CX0 (k + 1) fNext fdNext ["_law_state", "_law_many"] spNext := ok_Next FNext m_len
  refine F.ok scLatch (fun vs H Q E h => ?_) (fun cdv A outer s H vs Q E hr h => ?_)
  · obtain ⟨a, c, r, m, n, rfl, _⟩ := h
    rfl
  · obtain ⟨a, c, r, m, n, rfl, hD, hn, q⟩ := h
    refine ⟨_, pss_cons (ps_par (i := 2) (j := 3) rfl scLatch.nd rfl rfl (by decide) rfl rfl (pa_cons (pe_call GNext (hr.mono (by omega)) (by rfl) gNext FNext.kp bNext .nil pass0 (pa_cons (pv 0) (pa_cons pe_int pa_nil))) (pa_cons (pe_lst pa_nil) pa_nil)) (by rfl))
      (pss_cons (ps_for PassesOwn.never rfl (pi_range1 (by rfl) m_range (pa_cons (pv 1) pa_nil)) (pg_name (i := 4) scLatch.nd rfl (Or.inl rfl)) (pss_one (ps_if (pt_cmpR op_lt (pe_call GNext (hr.mono (by omega)) (by rfl) gNext FNext.kp bNext .nil pass0 (pa_cons (pv 0) (pa_cons pe_int pa_nil))) (pe_ix (show IxR _ (rIxL K) from ix_list) (pe_lst (pa_cons pe_int (pa_cons pe_int (pa_cons pe_int (pa_cons pe_int pa_nil))))) (pv 2) (fun _ _ => rfl)) (nomark _)) (pss_one (ps_expr (show PE _ _ (tBM K "list" rAppend _ _) from pe_bm PySem.F.plainAttrs_list PySem.F.slot_list_append PySem.F.type_list_append mt_append (pv 3) (pa_cons (pv 4) pa_nil)))) pss_nil)))
      (pss_one (ps_ret (pe_callTy (show CallR _ _ (rTupG K) from cr_tupG) (by rfl) m_tuple (by decide +kernel) (pa_cons (pv 3) pa_nil))))), ?_⟩
    refine ⟨.ref a, rfl, a, c, r, m + 19, 4, rfl, hD.less (by omega), by decide, by decide, fun H1 y b1 D1 y0 y4 => ⟨Nat.zero_le _, fun F nF => ⟨_, _, rfl, ?_⟩⟩⟩
    have sF : Same H1 (upd H1 F (.lst [])) := same_new nF
    have FD' := D1.fresh nF
    obtain ⟨lim, hlim⟩ : ∃ lim : Int, ([PyData.int 0, .int 4, .int 2, .int 1] : List PyData)[y.toNat]? = some (.int lim) := by
      obtain h | h | h | h : y = 0 ∨ y = 1 ∨ y = 2 ∨ y = 3 := by omega
      all_goals (subst h; exact ⟨_, rfl⟩)
    have hFH : H F = none := b1.free FD'.1 FD'.2.1 nF
    refine gen_heap (fun H3 => But a r H H3 ∧ Dk3 H3 a c r (m + 19) ∧ H3 F = some (.lst [])) ⟨b1.trans (But.of sF), D1.same sF, upd_same⟩ fun H3 ⟨b3, D3, eF3⟩ => ?_
    refine gs_range (K := K) (n := n) (gv_var rfl (.int (n : Int))) (by omega) (fun _ i σ H5 => But a r H H5 ∧ Dk3 H5 a c r (m + 19 - i) ∧
        (∃ acc : List Int, H5 F = some (.lst (acc.map V.int)) ∧ acc.length ≤ i ∧ acc.Pairwise (· < ·) ∧ ∀ x ∈ acc, 0 ≤ x ∧ x < (i : Int)) ∧
        ∃ x4, σ = [some (.ref a), some (.int (n : Int)), some (.int y), some (.ref F), x4])
      (fun H4 s4 => ⟨b3.trans (But.of s4), (D3.same s4).less (by omega), ⟨[], s4 _ _ eF3, Nat.le_refl _, List.Pairwise.nil, fun x h => by cases h⟩, none, rfl⟩) (fun H4 i σ H5 s4 hi hP => ?_) (fun H4 σ H5 s4 hP => ?_)
    · obtain ⟨b5, D5, ⟨acc, eF, al, ap, am⟩, x4, rfl⟩ := hP
      refine ⟨.ref a, rfl, a, c, r, m + 19 - (i + 1), 4, rfl, D5.less (by omega), by decide, by decide, fun H8 dg b8 D8 dg0 dg5 => ?_⟩
      have eF8 : H8 F = some (.lst (acc.map V.int)) := b8 _ _ FD'.1 FD'.2.1 eF
      have b58 := b5.trans b8
      have am' : ∀ x ∈ acc, 0 ≤ x ∧ x < ((i + 1 : Nat) : Int) := fun x hx => by have := am x hx; omega
      refine (gv_ixL (K := K) (j := y.toNat) (gv_lst (gva_cons gv_int (gva_cons gv_int (gva_cons gv_int (gva_cons gv_int gva_nil))))) (gv_var rfl (.int y)) (by omega) hlim).at fun vl H9 s9 dl => ?_
      cases dl
      have eF9 := s9 _ _ eF8
      refine ⟨dg, lim, rfl, rfl, _, rfl, ite2 (fun e => ?_) (fun e => ?_)⟩
      · refine ⟨.ref F, rfl, .inl ⟨rfl, _, .inl (.inl eF9)⟩, _, rfl, F, _, _, rfl, rfl, eF9, by rw [List.length_map]; exact small1000 (by omega), ?_⟩
        refine ⟨fun b o h1 h2 e => ?_, (D8.same s9).upd FD', ⟨acc ++ [(i : Int)], by rw [upd_same, List.map_append]; rfl, by rw [List.length_append]; show _ + 1 ≤ _; omega, ?_, fun x hx => ?_⟩, _, rfl⟩
        · have : b ≠ F := fun z => by subst z; rw [hFH] at e; cases e
          rw [upd_ne this]; exact s9 _ _ (b58 b o h1 h2 e)
        · rw [List.pairwise_append]
          refine ⟨ap, List.pairwise_singleton _ _, fun x hx z hz => ?_⟩
          have := am x hx
          rw [List.mem_singleton.mp hz]; omega
        · rcases List.mem_append.mp hx with h | h
          · exact am' x h
          · rw [List.mem_singleton.mp h]; omega
      · exact ⟨b58.trans (But.of s9), D8.same s9, ⟨acc, eF9, by omega, ap, am'⟩, _, rfl⟩
    · obtain ⟨b5, D5, ⟨acc, eF, al, ap, am⟩, x4, rfl⟩ := hP
      refine (gu_tupL (K := K) (ds := acc.map PyData.int) (gv_var rfl (.lst (.inl (.inl eF)) (dpAll_ints' acc)))).at fun t vs H6 s6 nt et dt => q H6 t acc (b5.trans (But.of s6)) ((D5.same s6).less (by omega)) (by rw [et, dpAll_intsV dt]) ⟨ap, fun x hx => ?_⟩
      have := am x hx
      omega
end
end K64
namespace K64
open PySem PySem.Spec PyProof.Rows L2 Pr
def nAny : List Str := ["panel", "button", "others", "other"]
theorem scAny : FnScope nAny ["panel", "button", "others"] (defScope sAny) := ⟨rfl, rfl, rfl, by decide +kernel, rfl, by decide +kernel, by decide +kernel⟩
def nHeld : List Str := ["panel", "state", "held", "left", "button"]
theorem scHeld : FnScope nHeld ["panel", "state"] (defScope sHeld) := ⟨rfl, rfl, rfl, by decide +kernel, rfl, by decide +kernel, by decide +kernel⟩
section
variable {P : Program} {w : World} {K : PySem.W.Frag} {mg : Str → Option Value} {base : Heap}
def spAny (K : PySem.W.Frag) : Sp := fun vs H Q _ => ∃ (p o : Addr) (pan : List (List Int)) (b : Int) (os : List Int), vs = [.ref p, .int b, .ref o] ∧ PanT K H p pan ∧ Good pan ∧ 0 ≤ b ∧ b < (pan.length : Int) ∧ SqT K H o (os.map V.int) ∧
  ∀ H', Same H H' → Q (.bl (relB pan os b)) H'
theorem ok_any {f : Addr} {fd : FuncData} {k : Nat} (F : Fun K "releases_any" "releases_any" sAny f fd) (my : mg "any" = none) : FnOk P w K mg base CX0 (k + 1) f fd ["panel", "button", "others"] (spAny K) := by
  refine F.ok scAny (fun vs H Q E h => ?_) (fun cdv A outer s H vs Q E hr h => ?_)
  · obtain ⟨p, o, pan, b, os, rfl, _⟩ := h
    rfl
  · obtain ⟨p, o, pan, b, os, rfl, hp, hg, b0, b1, ho, q⟩ := h
    refine ⟨_, pss_one (ps_ret (pe_callB (cr_any rfl) (by rfl) my (by decide +kernel) (pa_cons
      (pe_lc (own := [("other", 3)]) (g := gName 3) (tt := tYes) rfl scAny.nd (pi_tup (pe_ix ix_tup (pv 0) (pv 1) (fun _ _ => rfl)))
        (blkOk_by (own := [("other", 3)]) (N := nAny) (sc := defScope sAny) (by decide +kernel)) (fun _ _ _ _ _ => pg_name (i := 3) scAny.nd rfl (Or.inl rfl)) (fun _ _ _ _ _ => pts_nil)
        (fun _ _ _ _ _ => pe_cmpR (show OpR _ _ (rIn K false) from op_in_seq) (pv 3) (pv 2) (by rfl))) pa_nil))), ?_⟩
    obtain ⟨qs, q', hq, ha, hr', _⟩ := panT_at hp b0 b1
    have hll : (pan.getD b.toNat []).length ≤ 10 := by
      have hbn : b.toNat < pan.length := by omega
      have hm : pan.getD b.toNat [] ∈ pan := by
        rw [List.getD_eq_getElem?_getD, List.getElem?_eq_getElem hbn]
        exact List.getElem_mem hbn
      have few := hg.few
      refine pw_length (n := 10) (lo := 0) (hg.up _ hm) fun x hx => ?_
      have := hg.rng _ hm x hx
      omega
    unfold relB at q
    generalize pan.getD b.toNat [] = l at hr' hll q
    refine ⟨.ref p, rfl, .int b, rfl, p, _, _, .ref q', rfl, rfl, hq, ha, q', rfl, ⟨_, hr'⟩, fun D nD => ?_⟩
    refine lc_tup (xs := l.map V.int) (fun i H3 => Same H H3 ∧ H3 D = some (.lst (((l.take i).map fun c => decide (c ∈ os)).map V.bl))) ⟨same_new nD, upd_same⟩ (fun i H3 _ hP => same_sqT hP.1 hr') (fun i x H3 hx hP => ?_) (fun H3 hP => ?_)
    · obtain ⟨s3, eD⟩ := hP
      obtain ⟨z, hz, rfl⟩ := int_get hx
      refine ⟨rfl, tyes (iteT ⟨.int z, rfl, .ref o, rfl, o, _, rfl, .inr (same_sqT s3 ho), rfl, flat_ints _, _, eD, ?_, ?_, ?_⟩)⟩
      · rw [List.length_map, List.length_map, List.length_take]; exact small1000 (by omega)
      · intro b' ob e
        rw [upd_ne (ne_of_none e nD)]
        exact s3 _ _ e
      · rw [upd_same, if_neg Bool.false_ne_true, inV_ints, List.take_add_one, hz, List.map_append, List.map_append]; rfl
    · obtain ⟨s3, eD⟩ := hP
      rw [List.length_map, List.take_length] at eD
      refine ⟨D, _, rfl, .inl (.inl eD), ?_⟩
      rw [List.any_map]
      exact q _ s3
def spHeld (K : PySem.W.Frag) : Sp := fun vs H Q _ => ∃ (p t : Addr) (pan : List (List Int)) (st : List Int), vs = [.ref p, .ref t] ∧ PanT K H p pan ∧ Good pan ∧ SqT K H t (st.map V.int) ∧ Asc pan.length st ∧
  ∀ (H' : Hp) (u : Addr) (hs : List Int), Same H H' → SqT K H' u (hs.map V.int) → IsHeld pan st hs → Q (.ref u) H'
theorem filt_take {f : Int → Bool} {l : List Int} {i : Nat} {z : Int} (hz : l[i]? = some z) : (l.take (i + 1)).filter f = (l.take i).filter f ++ (if f z = true then [z] else []) := by
  rw [List.take_add_one, hz, List.filter_append]
  congr 1
  by_cases e : f z = true
  · rw [if_pos e]; exact List.filter_cons_of_pos e
  · rw [if_neg e]; exact List.filter_cons_of_neg e
theorem ok_held {f fA : Addr} {fd fdA : FuncData} {k : Nat} (F : Fun K "held_buttons" "held_buttons" sHeld f fd) (FA : Fun K "releases_any" "releases_any" sAny fA fdA) (bA : Binds K fdA ["panel", "button", "others"] []) (gA : mg "releases_any" = some (.ref fA))
    (ml : mg "len" = none) (mt : mg "tuple" = none) (my : mg "any" = none) : FnOk P w K mg base CX0 (k + 2) f fd ["panel", "state"] (spHeld K) := by
  have GA : FnOk P w K mg base CX0 (k + 1) fA fdA ["panel", "button", "others"] (spAny K) := ok_any FA my
  refine F.ok scHeld (fun vs H Q E h => ?_) (fun cdv A outer s H vs Q E hr h => ?_)
  · obtain ⟨p, t, pan, st, rfl, _⟩ := h
    rfl
  · obtain ⟨p, t, pan, st, rfl, hp, hg, ht, hst, q⟩ := h
    refine ⟨_, pss_cons (ps_set (i := 2) scHeld.nd rfl (.inr rfl) (pv 1))
      (pss_cons (ps_setLc (i := 3) (own := [("button", 4)]) (g := gName 4) rfl scHeld.nd rfl rfl (sw_true rfl rfl rfl (by decide +kernel)) (pi_tup (pv 2))
        (blkOk_by (own := [("button", 4)]) (N := nHeld) (sc := defScope sHeld) (by decide +kernel)) (fun _ _ _ _ _ => pg_name (i := 4) scHeld.nd rfl (Or.inl rfl))
        (fun _ _ _ _ _ => pts_one (pt_val (pe_call GA hr (by rfl) gA FA.kp bA .nil pass0 (pa_cons (pv 0) (pa_cons (pv 4) (pa_cons (pv 2) pa_nil)))))) (fun _ _ _ _ _ => pv 4))
      (pss_cons (ps_while PassesOwn.never (pt_cmpR op_lt (pe_callB call_len_seq (by rfl) ml PySem.boot_len (pa_cons (pv 3) pa_nil)) (pe_callB call_len_seq (by rfl) ml PySem.boot_len (pa_cons (pv 2) pa_nil)) (nomark _))
        (pss_cons (ps_set (i := 2) scHeld.nd rfl (.inr rfl) (pe_callTy call_tupF (by rfl) mt (by decide +kernel) (pa_cons (pv 3) pa_nil)))
        (pss_one (ps_setLc (i := 3) (own := [("button", 4)]) (g := gName 4) rfl scHeld.nd rfl rfl (sw_true rfl rfl rfl (by decide +kernel)) (pi_tup (pv 2))
          (blkOk_by (own := [("button", 4)]) (N := nHeld) (sc := defScope sHeld) (by decide +kernel)) (fun _ _ _ _ _ => pg_name (i := 4) scHeld.nd rfl (Or.inl rfl))
          (fun _ _ _ _ _ => pts_one (pt_val (pe_call GA hr (by rfl) gA FA.kp bA .nil pass0 (pa_cons (pv 0) (pa_cons (pv 4) (pa_cons (pv 2) pa_nil)))))) (fun _ _ _ _ _ => pv 4)))))
      (pss_one (ps_ret (pv 2))))), ?_⟩
    have few := hg.few
    refine ⟨.ref t, rfl, ?_⟩
    refine ⟨.ref t, rfl, t, rfl, ⟨_, ht⟩, fun D nD => ?_⟩
    have slen := hst.len
    refine lc_tup (xs := st.map V.int) (fun i H3 => Same H H3 ∧ H3 D = some (.lst (((st.take i).filter (relB pan st)).map V.int))) ⟨same_new nD, upd_same⟩ (fun i H3 _ hP => same_sqT hP.1 ht) (fun i x H3 hx hP => ?_) (fun H3 hP => ?_)
    · obtain ⟨s3, eD⟩ := hP
      obtain ⟨z, hz, rfl⟩ := int_get hx
      have hzr := hst.rng z (List.mem_of_getElem? hz)
      have step := filt_take (f := relB pan st) hz
      have fl := List.length_filter_le (relB pan st) (st.take i)
      rw [List.length_take] at fl
      refine ⟨rfl, .ref p, rfl, .int z, rfl, .ref t, rfl, p, t, pan, z, st, rfl, hp.same s3, hg, hzr.1, hzr.2, same_sqT s3 ht, fun H4 s4 => ⟨_, rfl, ite2 (fun e => ?_) (fun e => ?_)⟩⟩
      · refine ⟨.int z, rfl, _, s4 _ _ eD, by rw [List.length_map]; exact small1000 (by omega), fun b o e' => ?_, ?_⟩
        · rw [upd_ne (ne_of_none e' nD)]
          exact s4 _ _ (s3 _ _ e')
        · rw [upd_same, step, if_pos e, List.map_append]; rfl
      · refine ⟨s3.trans s4, ?_⟩
        rw [step, if_neg e, List.append_nil]; exact s4 _ _ eD
    · obtain ⟨s3, eD⟩ := hP
      rw [List.length_map, List.take_length] at eD
      refine ⟨fun mm σ H4 => ∃ (hs : List Int) (u L : Addr) (x4 : Option V), mm = hs.length ∧ Same H H4 ∧ SqT K H4 u (hs.map V.int) ∧ H4 L = some (.lst ((hs.filter (relB pan hs)).map V.int)) ∧ Hold pan st hs ∧ σ = [some (.ref p), some (.ref t), some (.ref u), some (.ref L), x4],
        ⟨_, st, t, D, _, rfl, s3, same_sqT s3 ht, eD, ⟨hst.up, fun x h => h, fun C _ h x hx => h x hx⟩, rfl⟩, ?_⟩
      rintro mm σ H4 ⟨hs, u, L, x4, rfl, s4, hu, eL, hh, rfl⟩
      have hsr : ∀ x ∈ hs, 0 ≤ x ∧ x < (pan.length : Int) := fun x hx => hst.rng x (hh.sub x hx)
      have hsl : hs.length ≤ 10 := pw_length (n := 10) (lo := 0) hh.up fun x hx => by have := hsr x hx; omega
      refine ⟨.ref L, rfl, L, _, rfl, .inl (.inl (.inl eL)), .ref u, rfl, u, _, rfl, .inr hu, _, _, rfl, rfl, _, rfl, ite2 (fun e => ?_) (fun e => ?_)⟩
      · have e' : (hs.filter (relB pan hs)).length < hs.length := by
          have := of_decide_eq_true e
          rw [List.length_map, List.length_map] at this; omega
        have hstep := hh.step
        generalize hs.filter (relB pan hs) = gs at e' eL hstep
        refine ⟨_, fun σ' H' h => h, .ref L, rfl, L, _, rfl, .inl (.inl eL), fun u' o' nu' ho' => ?_⟩
        have su : Same H4 (upd H4 u' (.frz o' (.tup (gs.map V.int)))) := same_new nu'
        have hu' : SqT K (upd H4 u' (.frz o' (.tup (gs.map V.int)))) u' (gs.map V.int) := .inl (.inr ⟨o', upd_same⟩)
        refine gen_name (fun H5 => Same H4 H5 ∧ SqT K H5 u' (gs.map V.int)) ⟨su, hu'⟩ fun H5 ⟨s5, hu5⟩ => ?_
        have s05 := s4.trans s5
        refine ⟨.ref u', rfl, u', rfl, ⟨_, hu5⟩, fun D2 nD2 => ?_⟩
        refine lc_tup (xs := gs.map V.int) (fun i H6 => Same H5 H6 ∧ H6 D2 = some (.lst (((gs.take i).filter (relB pan gs)).map V.int))) ⟨same_new nD2, upd_same⟩ (fun i H6 _ hP => same_sqT hP.1 hu5) (fun i x H6 hx hP => ?_) (fun H6 hP => ?_)
        · obtain ⟨s6, eD2⟩ := hP
          obtain ⟨z, hz, rfl⟩ := int_get hx
          have hzr := hst.rng z (hstep.sub z (List.mem_of_getElem? hz))
          have step := filt_take (f := relB pan gs) hz
          have fl := List.length_filter_le (relB pan gs) (gs.take i)
          rw [List.length_take] at fl
          refine ⟨rfl, .ref p, rfl, .int z, rfl, .ref u', rfl, p, u', pan, z, gs, rfl, hp.same (s05.trans s6), hg, hzr.1, hzr.2, same_sqT s6 hu5, fun H7 s7 => ⟨_, rfl, ite2 (fun e => ?_) (fun e => ?_)⟩⟩
          · refine ⟨.int z, rfl, _, s7 _ _ eD2, by rw [List.length_map]; exact small1000 (by omega), fun b o e' => ?_, ?_⟩
            · rw [upd_ne (ne_of_none e' nD2)]
              exact s7 _ _ (s6 _ _ e')
            · rw [upd_same, step, if_pos e, List.map_append]; rfl
          · refine ⟨s6.trans s7, ?_⟩
            rw [step, if_neg e, List.append_nil]; exact s7 _ _ eD2
        · obtain ⟨s6, eD2⟩ := hP
          rw [List.length_map, List.take_length] at eD2
          exact ⟨gs.length, e', gs, u', D2, _, rfl, s05.trans s6, same_sqT s6 hu5, eD2, hstep, rfl⟩
      · have e' : ¬ (hs.filter (relB pan hs)).length < hs.length := fun z => e (decide_eq_true (by rw [List.length_map, List.length_map]; omega))
        exact ⟨.ref u, rfl, q H4 u hs s4 hu (hh.done e')⟩
end
end K64
namespace Pr
open PySem PySem.Spec PyProof.Rows L2
def tlen : PyData → Bool
  | .tuple es => decide (es.length ≤ 60)
  | _ => true
def smlB : PyData → Bool
  | .tuple ds => ds.all tlen
  | _ => true
def lowB (d : PyData) : Bool := d.showable && decide (d.depth ≤ 3) && decide (d.shown.length ≤ 60) && tlen d && smlB d
/-- a small thing: at most three deep, at most sixty signs -/
def Low (d : PyData) : Prop := lowB d = true
theorem Low.shq {d : PyData} (h : Low d) : Shq 3 60 d := by
  simp only [Low, lowB, Bool.and_eq_true, decide_eq_true_eq] at h
  exact ⟨h.1.1.1.1, h.1.1.1.2, h.1.1.2⟩
theorem Low.len {d : PyData} (h : Low d) : tlen d = true := by
  simp only [Low, lowB, Bool.and_eq_true, decide_eq_true_eq] at h
  exact h.1.2
theorem Low.sml {d : PyData} (h : Low d) : smlB d = true := by
  simp only [Low, lowB, Bool.and_eq_true, decide_eq_true_eq] at h
  exact h.2
/-- values of the laws -/
def Top (d : PyData) : Prop := Shq 5 2000000 d ∧ smlB d = true
theorem Low.top {d : PyData} (h : Low d) : Top d := ⟨h.shq.mono (by decide) (by decide), h.sml⟩
end Pr
namespace Pr
open PySem PySem.Spec PyProof.Rows L2
end Pr
namespace Pr
open PySem PySem.Spec PyProof.Rows L2
section
variable {X : Cx}
theorem pmk_own0 {C : Addr} {bmB : List Value} {B newId initId : String} {x : Str} {p pos : Pos} (F : ExcBaseFacts B newId initId bmB) (q : PySem.W.excIn X.K C bmB newId = true) (gC : X.mg x = some (.ref C)) (kC : PySem.W.keepIn X.K (.ref C) = true) (r : Raises X (.ref C)) (hg : Gl X x)
    (hdb : (x == ("__debug__" : Str)) = false := by decide) : PMk X (.Call (.Name x p) [] [] pos) (fun _ H Q => Q (.ref C) none H) := by
  intro pins s σ H Q I h
  refine wpAny_Call_Name_kw (ld_glob I hg gC ?_ hdb)
  refine PySem.W.callWith_K0 I.kIn kC ?_
  show wpAny _ _ (call (.ref C) []) _ _ _
  obtain ⟨bm, N, nm, qn, bs, hdct, sn, sub, ab, col, dd, k0, k1, k2, k3, k5, mN, hC, hN, hni, T⟩ := exc_obj I.kIn q
  refine wpAny_call_exc_subT F T hC hN hni (fun h' e hm => ?_) (by show 0 ≤ sizeLine; omega)
  exact mk_of I hm r h (I.hok.gone hm.new)
/-- what the top says of such a class -/
structure Ex0 (K : PySem.W.Frag) (mg : Str → Option Value) (nm : Str) (C : Addr) : Prop where
  q : PySem.W.excIn K C [.type "ValueError", .type "Exception", .type "BaseException", .type "object"] "ValueError.__new__" = true
  g : mg nm = some (.ref C)
  k : PySem.W.keepIn K (.ref C) = true
  s : PySem.W.subIn K (.ref C) (.type "BaseException") = some true
  t : PySem.W.typeIn K (.ref C) = some (.type "type")
theorem Ex0.made {nm : Str} {C : Addr} {p pos : Pos} (T : Ex0 X.K X.mg nm C) (hg : Gl X nm) (hdb : (nm == ("__debug__" : Str)) = false := by decide) : PMk X (.Call (.Name nm p) [] [] pos) (fun _ H Q => Q (.ref C) none H) :=
  pmk_own0 PySem.F.excBase_ValueError T.q T.g T.k (raises_own T.s T.t) hg hdb
end
theorem passX {X : Cx} : Passes (L2.CX X.prog X.w) X E0 := fun _ _ _ _ _ _ _ h => by
  obtain ⟨_, _, _, _, _, _, _, _, _, _, _, _, z⟩ := h
  exact z.elim
end Pr
namespace Pr
open PySem PySem.Spec PyProof.Rows L2
end Pr
namespace Pr
open PySem PySem.Spec PyProof.Rows L2
section
variable {K : PySem.W.Frag} {H H' : Hp} {pan : List (List Int)}
theorem panT_dp {v : V} (h : Dp K H v (dPan pan)) : ∃ p, v = .ref p ∧ PanT K H p pan := by
  obtain ⟨p, xs, rfl, hq, hr⟩ := h.tupI
  have : ∀ (xs : List V) (pan : List (List Int)), DpAll K H xs (pan.map dInts) → ∃ qs : List Addr, xs = qs.map V.ref ∧ Paired (fun q l => SqT K H q (l.map V.int)) qs pan := by
    intro xs pan
    induction pan generalizing xs with
    | nil => intro h; cases h; exact ⟨[], rfl, .nil⟩
    | cons l pan ih =>
      intro h
      cases h with
      | cons h1 h2 =>
        obtain ⟨q, rfl, hq⟩ := h1.intsI
        obtain ⟨qs, rfl, hqs⟩ := ih _ h2
        exact ⟨q :: qs, rfl, .cons hq hqs⟩
  obtain ⟨qs, rfl, hqs⟩ := this xs pan hr
  exact ⟨p, rfl, qs, hq, hqs⟩
theorem dq_panT {N : Addr → Prop} {p : Addr} (h : PanT K H p pan) : Dq K N H (.ref p) (dPan pan) := by
  obtain ⟨qs, h1, h2⟩ := h
  refine .tup h1 ?_
  have : ∀ {qs : List Addr} {pan : List (List Int)}, Paired (fun q l => SqT K H q (l.map V.int)) qs pan → DqAll K N H (qs.map V.ref) (pan.map dInts) := fun h => by
    induction h with
    | nil => exact .nil
    | cons a b ih => exact .cons (dq_ints a) ih
  exact this h2
end
theorem asc_from {n : Int} : ∀ {l : List Int} {b : Int}, l.Pairwise (· < ·) → (∀ x ∈ l, b < x ∧ 0 ≤ x ∧ x < n) → ascFrom n b (l.map PyData.int) = true
  | [], _, _, _ => rfl
  | x :: l, b, up, h => by
    rw [List.pairwise_cons] at up
    have hx := h x List.mem_cons_self
    have ih := asc_from (n := n) (b := x) up.2 fun y hy => ⟨up.1 y hy, (h y (List.mem_cons_of_mem _ hy)).2⟩
    show (decide (0 ≤ x) && decide (x < n) && decide (b < x) && ascFrom n x (l.map PyData.int)) = true
    rw [ih, decide_eq_true hx.1, decide_eq_true hx.2.1, decide_eq_true hx.2.2]; rfl
theorem err_from {n : Int} : ∀ (pan : List (List Int)) (k : Nat), (∀ l ∈ pan, l.Pairwise (· < ·) ∧ ∀ x ∈ l, 0 ≤ x ∧ x < n) → (∀ (j : Nat) (l : List Int), pan[j]? = some l → ((k + j : Nat) : Int) ∉ l) → errFrom n k (pan.map dInts) = .none
  | [], _, _, _ => rfl
  | l :: pan, k, h1, h2 => by
    have a := h1 l List.mem_cons_self
    have b := h2 0 l rfl
    have ih := err_from pan (k + 1) (fun m hm => h1 m (List.mem_cons_of_mem _ hm)) fun j m hj => by
      have := h2 (j + 1) m hj
      rw [show k + 1 + j = k + (j + 1) by omega]; exact this
    show (if btnT n (dInts l) then (if hasInt (k : Int) (dInts l) then dErr (.int (k : Int)) "itself" else errFrom n (k + 1) (pan.map dInts)) else dErr (.int (k : Int)) "list") = .none
    have e1 : btnT n (dInts l) = true := asc_from a.1 fun x hx => ⟨by have := a.2 x hx; omega, a.2 x hx⟩
    have e2 : hasInt (k : Int) (dInts l) = false := by
      show ((l.map PyData.int).any fun d => match d with | .int i => decide (i = (k : Int)) | _ => false) = false
      rw [List.any_map, List.any_eq_false]
      intro x hx
      simp only [Function.comp, decide_eq_true_eq]
      rintro rfl
      exact b (by simpa using hx)
    rw [e1, e2, if_pos rfl, if_neg Bool.false_ne_true, ih]
theorem err_good {pan : List (List Int)} (g : Good pan) : errD (dPan pan) = .none := by
  show (if 1 ≤ (pan.map dInts).length ∧ (pan.map dInts).length ≤ 10 then errFrom ((pan.map dInts).length : Int) 0 (pan.map dInts) else dErr .none "panel") = .none
  rw [List.length_map, if_pos ⟨g.pos, g.few⟩]
  exact err_from pan 0 (fun l hl => ⟨g.up l hl, g.rng l hl⟩) fun j l hj => by rw [Nat.zero_add]; exact g.own j l hj
/-- all but the object at g stands as before -/
def ButO (g : Addr) (H H' : Hp) : Prop := ∀ b o, b ≠ g → H b = some o → H' b = some o
theorem ButO.refl (g : Addr) (H : Hp) : ButO g H H := fun _ _ _ e => e
theorem ButO.of {g : Addr} {H H' : Hp} (s : Same H H') : ButO g H H' := fun b o _ e => s b o e
theorem ButO.trans {g : Addr} {H H1 H2 : Hp} (x : ButO g H H1) (y : ButO g H1 H2) : ButO g H H2 := fun b o n e => y b o n (x b o n e)
theorem ButO.upd {g : Addr} {H : Hp} {o : HO} : ButO g H (upd H g o) := fun b o' n e => by rw [upd_ne n]; exact e
theorem ButO.kp {g C dx : Addr} {fs : List (Str × V)} {H H' : Hp} (h : H g = some (.ins C dx fs)) (b : ButO g H H') : Kp H H' :=
  ⟨fun p xs e => b _ _ (ne_of e h (by intro z; cases z)) e, fun p o u e => b _ _ (ne_of e h (by intro z; cases z)) e⟩
theorem PanT.kp {K : PySem.W.Frag} {H H' : Hp} {p : Addr} {pan : List (List Int)} (k : Kp H H') (h : PanT K H p pan) : PanT K H' p pan := by
  obtain ⟨p', e, h'⟩ := panT_dp (h.dp.kp k (lf_pan _))
  cases e; exact h'
end Pr
namespace K64
open PySem PySem.Spec PyProof.Rows L2 Pr
def wlM (pan : List (List Int)) (b : Int) (l : List Int) : List (List Int) := pan.zipIdx.map fun x => if (x.2 : Int) = b then l else x.1
theorem wl_set (pan : List (List Int)) {b : Int} (l : List Int) (h0 : 0 ≤ b) : wlM pan b l = pan.set b.toNat l := by
  refine List.ext_getElem? fun i => ?_
  unfold wlM
  rw [List.getElem?_map, List.getElem?_zipIdx, List.getElem?_set]
  by_cases hi : i < pan.length
  · rw [List.getElem?_eq_getElem hi]
    by_cases hb : b.toNat = i
    · rw [if_pos hb, if_pos (by omega)]
      simp only [Option.map_some, Nat.zero_add]
      rw [if_pos (by omega)]
    · rw [if_neg hb]
      simp only [Option.map_some, Nat.zero_add]
      rw [if_neg (by omega)]
  · rw [List.getElem?_eq_none (by omega)]
    by_cases hb : b.toNat = i
    · rw [if_pos hb, if_neg (by omega)]; rfl
    · rw [if_neg hb]; rfl
def liM (pan : List (List Int)) (one other : Int) : List (List Int) := if other ∈ pan.getD one.toNat [] then pan else pan.set one.toNat (srt (pan.getD one.toNat [] ++ [other]))
def unM (pan : List (List Int)) (one other : Int) : List (List Int) := if other ∈ pan.getD one.toNat [] then pan.set one.toNat ((pan.getD one.toNat []).filter fun x => !decide (x = other)) else pan
theorem list_few {pan : List (List Int)} (h : ∀ l ∈ pan, l.length ≤ 60) (i : Nat) : (pan.getD i []).length ≤ 60 := by
  rw [List.getD_eq_getElem?_getD]
  cases e : pan[i]? with
  | none => simp
  | some l => exact h l (List.mem_of_getElem? e)
def nWl : List Str := ["panel", "button", "released", "index", "row"]
theorem scWl : FnScope nWl ["panel", "button", "released"] (defScope sWl) := ⟨rfl, rfl, rfl, by decide +kernel, rfl, by decide +kernel, by decide +kernel⟩
section
variable {P : Program} {w : World} {K : PySem.W.Frag} {mg : Str → Option Value} {base : Heap}
def spWl (K : PySem.W.Frag) : Sp := spP K (fun x : List (List Int) × Int × List Int => [dPan x.1, .int x.2.1, dInts x.2.2]) (fun x => x.1.length ≤ 100 ∧ 0 ≤ x.2.1) (fun x => dPan (x.1.set x.2.1.toNat x.2.2))
theorem gv_Wl {σ : L2.St} {H : Hp} {t : TA} {E : XK} {pan : List (List Int)} {b : Int} {l : List Int} (h : GvA K t σ H [dPan pan, .int b, dInts l]) (hc : pan.length ≤ 100 ∧ 0 ≤ b) : Gv K (tCall (spWl K) [] E t) σ H (dPan (pan.set b.toNat l)) := gv_call (K := K) (δ := fun x : List (List Int) × Int × List Int => [dPan x.1, .int x.2.1, dInts x.2.2]) (C := fun x => x.1.length ≤ 100 ∧ 0 ≤ x.2.1) (f := fun x => dPan (x.1.set x.2.1.toNat x.2.2)) (pan, b, l) h hc
theorem ok_Wl  {f : Addr} {fd : FuncData} {k : Nat} (F : Fun K "with_list" "with_list" sWl f fd)
    (m_enumerate : mg "enumerate" = none) (m_tuple : mg "tuple" = none) : FnOk P w K mg base CX0 (k + 1) f fd ["panel", "button", "released"] (spWl K) := by
  refine F.ok scWl (fun vs H Q E h => ?_) (fun cdv A outer s H vs Q E hr h => ?_)
  · obtain ⟨_, hd, _⟩ := h
    exact hd.length
  · obtain ⟨⟨pan, b, l⟩, hd, hc, q⟩ := h
    obtain ⟨v1, v2, v3, rfl, d1, d2, d3⟩ := dpAll3 hd
    try dsimp only at hc
    try dsimp only at q
    try dsimp only at d1 d2 d3
    refine ⟨_, pss_one (ps_ret (pe_callTy (show CallR _ _ (rTupG K) from cr_tupG) (by rfl) m_tuple (by decide +kernel) (pa_cons (pe_lc (own := [("index", 3), ("row", 4)]) (g := gTup K 2 (gCons (gName 3) (gCons (gName 4) gNil))) (tt := tYes) rfl scWl.nd (pi_enumT (by rfl) m_enumerate (pa_cons (pv 0) pa_nil)) (blkOk_by (own := [("index", 3), ("row", 4)]) (N := nWl) (sc := defScope sWl) (by decide +kernel)) (fun _ _ _ _ _ => pg_tup rfl (pgs_cons (pg_name (i := 3) scWl.nd rfl (Or.inl rfl)) (pgs_cons (pg_name (i := 4) scWl.nd rfl (Or.inl rfl)) pgs_nil))) (fun _ _ _ _ _ => pts_nil) (fun _ _ _ _ _ => pe_ifExp (pt_cmpR op_eq (pv 3) (pv 1) (nomark _)) (pv 2) (pv 4))) pa_nil))), ?_⟩
    refine gs_ret ((gv_tupL (gv_lc2 (gvi_enumT (gv_var rfl d1)) (fun a v u H1 ha s dv du => ⟨gvt_yes, fun _ => gv_if (gvt_test (gv_eqI (gv_var rfl dv) (gv_var rfl (d2.sm s)))) (fun _ => gv_var rfl (d3.sm s)) (fun _ => gv_var rfl du)⟩) (fun a _ => ?_) ?_ (by decide))).to ?_) q
    · split
      · exact lf_ints _
      · exact lf_ints _
    · rw [List.length_zipIdx]; omega
    · rw [← wl_set _ _ hc.2]
      unfold dPan wlM
      rw [List.filter_eq_self.mpr (fun _ _ => rfl), List.map_map]
      congr 1
      refine List.map_congr_left fun a _ => ?_
      simp only [Function.comp, decide_eq_true_eq]
      split <;> rfl
end
def nLi : List Str := ["panel", "one", "other"]
theorem scLi : FnScope nLi ["panel", "one", "other"] (defScope sLi) := ⟨rfl, rfl, rfl, by decide +kernel, rfl, by decide +kernel, by decide +kernel⟩
section
variable {P : Program} {w : World} {K : PySem.W.Frag} {mg : Str → Option Value} {base : Heap}
def spLi (K : PySem.W.Frag) : Sp := spP K (fun x : List (List Int) × Int × Int => [dPan x.1, .int x.2.1, .int x.2.2]) (fun x => x.1.length ≤ 100 ∧ (∀ l ∈ x.1, l.length ≤ 60) ∧ 0 ≤ x.2.1 ∧ x.2.1 < (x.1.length : Int)) (fun x => dPan (liM x.1 x.2.1 x.2.2))
theorem gv_Li {σ : L2.St} {H : Hp} {t : TA} {E : XK} {pan : List (List Int)} {one : Int} {other : Int} (h : GvA K t σ H [dPan pan, .int one, .int other]) (hc : pan.length ≤ 100 ∧ (∀ l ∈ pan, l.length ≤ 60) ∧ 0 ≤ one ∧ one < (pan.length : Int)) : Gv K (tCall (spLi K) [] E t) σ H (dPan (liM pan one other)) := gv_call (K := K) (δ := fun x : List (List Int) × Int × Int => [dPan x.1, .int x.2.1, .int x.2.2]) (C := fun x => x.1.length ≤ 100 ∧ (∀ l ∈ x.1, l.length ≤ 60) ∧ 0 ≤ x.2.1 ∧ x.2.1 < (x.1.length : Int)) (f := fun x => dPan (liM x.1 x.2.1 x.2.2)) (pan, one, other) h hc
theorem ok_Li {fWl : Addr} {fdWl : FuncData} {f : Addr} {fd : FuncData} {k : Nat} (F : Fun K "linked" "linked" sLi f fd)
    (FWl : Fun K "with_list" "with_list" sWl fWl fdWl) (bWl : Binds K fdWl ["panel", "button", "released"] []) (gWl : mg "with_list" = some (.ref fWl))
    (m_enumerate : mg "enumerate" = none) (m_sorted : mg "sorted" = none) (m_tuple : mg "tuple" = none) : FnOk P w K mg base CX0 (k + 2) f fd ["panel", "one", "other"] (spLi K) := by
  have GWl : FnOk P w K mg base CX0 (k + 1) fWl fdWl ["panel", "button", "released"] (spWl K) := ok_Wl FWl m_enumerate m_tuple
  refine F.ok scLi (fun vs H Q E h => ?_) (fun cdv A outer s H vs Q E hr h => ?_)
  · obtain ⟨_, hd, _⟩ := h
    exact hd.length
  · obtain ⟨⟨pan, one, other⟩, hd, hc, q⟩ := h
    obtain ⟨v1, v2, v3, rfl, d1, d2, d3⟩ := dpAll3 hd
    try dsimp only at hc
    try dsimp only at q
    try dsimp only at d1 d2 d3
    refine ⟨_, pss_cons (ps_if (pt_cmpR (show OpR _ _ (rIn K false) from op_in_seq) (pv 2) (pe_ix (show IxR _ (rIxT K) from ix_tup) (pv 0) (pv 1) (fun _ _ => rfl)) (by rfl)) (pss_one (ps_ret (pv 0))) pss_nil)
      (pss_one (ps_ret (pe_call GWl (hr.mono (by omega)) (by rfl) gWl FWl.kp bWl .nil pass0 (pa_cons (pv 0) (pa_cons (pv 1) (pa_cons (pe_callTy (show CallR _ _ (rTupG K) from cr_tupG) (by rfl) m_tuple (by decide +kernel) (pa_cons (pe_callB (show CallR _ _ (rSorted K) from cr_sorted) (by rfl) m_sorted (by decide +kernel) (pa_cons (pe_lst (StX.pa_star (pe_ix (show IxR _ (rIxT K) from ix_tup) (pv 0) (pv 1) (fun _ _ => rfl)) (pa_cons (pv 2) pa_nil))) pa_nil)) pa_nil)) pa_nil)))))), ?_⟩
    obtain ⟨c1, c2, c3, c4⟩ := hc
    have hl := list_few c2 one.toNat
    refine gs_if1 (gvt_test (gv_inT (gv_var rfl d3) (gv_pan (gv_var rfl d1) (gv_var rfl d2) c3 c4))) (fun e H' s => ?_) (fun e H' s => ?_)
    · have e' : other ∈ pan.getD one.toNat [] := by simpa using e
      refine gs_ret (gv_var rfl (d1.sm s)) fun v H2 s2 dv => q v H2 (s.trans s2) ?_
      unfold liM; rw [if_pos e']; exact dv
    · have e' : other ∉ pan.getD one.toNat [] := by simpa using e
      refine gs_ret (gv_Wl (l := srt (pan.getD one.toNat [] ++ [other])) (gva_cons (gv_var rfl (d1.sm s)) (gva_cons (gv_var rfl (d2.sm s)) (gva_cons (gv_tupL (gv_sortL (l := pan.getD one.toNat [] ++ [other]) ((gv_lst (gva_starT (gv_pan (gv_var rfl (d1.sm s)) (gv_var rfl (d2.sm s)) c3 c4) (gva_cons (gv_var rfl (d3.sm s)) gva_nil)) ?_).to ?_) ?_)) gva_nil))) ⟨c1, c3⟩) fun v H2 s2 dv => q v H2 (s.trans s2) ?_
      · rw [List.length_append, List.length_map]; exact Nat.le_of_lt (small5 (by show _ + 1 ≤ _; omega))
      · rw [List.map_append]; rfl
      · rw [List.length_append]; show _ + 1 < 64; omega
      · unfold liM; rw [if_neg e']; exact dv
end
def nUn : List Str := ["panel", "one", "other", "button"]
theorem scUn : FnScope nUn ["panel", "one", "other"] (defScope sUn) := ⟨rfl, rfl, rfl, by decide +kernel, rfl, by decide +kernel, by decide +kernel⟩
section
variable {P : Program} {w : World} {K : PySem.W.Frag} {mg : Str → Option Value} {base : Heap}
def spUn (K : PySem.W.Frag) : Sp := spP K (fun x : List (List Int) × Int × Int => [dPan x.1, .int x.2.1, .int x.2.2]) (fun x => x.1.length ≤ 100 ∧ (∀ l ∈ x.1, l.length ≤ 60) ∧ 0 ≤ x.2.1 ∧ x.2.1 < (x.1.length : Int)) (fun x => dPan (unM x.1 x.2.1 x.2.2))
theorem gv_Un {σ : L2.St} {H : Hp} {t : TA} {E : XK} {pan : List (List Int)} {one : Int} {other : Int} (h : GvA K t σ H [dPan pan, .int one, .int other]) (hc : pan.length ≤ 100 ∧ (∀ l ∈ pan, l.length ≤ 60) ∧ 0 ≤ one ∧ one < (pan.length : Int)) : Gv K (tCall (spUn K) [] E t) σ H (dPan (unM pan one other)) := gv_call (K := K) (δ := fun x : List (List Int) × Int × Int => [dPan x.1, .int x.2.1, .int x.2.2]) (C := fun x => x.1.length ≤ 100 ∧ (∀ l ∈ x.1, l.length ≤ 60) ∧ 0 ≤ x.2.1 ∧ x.2.1 < (x.1.length : Int)) (f := fun x => dPan (unM x.1 x.2.1 x.2.2)) (pan, one, other) h hc
theorem ok_Un {fWl : Addr} {fdWl : FuncData} {f : Addr} {fd : FuncData} {k : Nat} (F : Fun K "unlinked" "unlinked" sUn f fd)
    (FWl : Fun K "with_list" "with_list" sWl fWl fdWl) (bWl : Binds K fdWl ["panel", "button", "released"] []) (gWl : mg "with_list" = some (.ref fWl))
    (m_enumerate : mg "enumerate" = none) (m_tuple : mg "tuple" = none) : FnOk P w K mg base CX0 (k + 2) f fd ["panel", "one", "other"] (spUn K) := by
  have GWl : FnOk P w K mg base CX0 (k + 1) fWl fdWl ["panel", "button", "released"] (spWl K) := ok_Wl FWl m_enumerate m_tuple
  refine F.ok scUn (fun vs H Q E h => ?_) (fun cdv A outer s H vs Q E hr h => ?_)
  · obtain ⟨_, hd, _⟩ := h
    exact hd.length
  · obtain ⟨⟨pan, one, other⟩, hd, hc, q⟩ := h
    obtain ⟨v1, v2, v3, rfl, d1, d2, d3⟩ := dpAll3 hd
    try dsimp only at hc
    try dsimp only at q
    try dsimp only at d1 d2 d3
    refine ⟨_, pss_cons (ps_if (pt_cmpR (show OpR _ _ (rIn K true) from op_notIn_seq) (pv 2) (pe_ix (show IxR _ (rIxT K) from ix_tup) (pv 0) (pv 1) (fun _ _ => rfl)) (by rfl)) (pss_one (ps_ret (pv 0))) pss_nil)
      (pss_one (ps_ret (pe_call GWl (hr.mono (by omega)) (by rfl) gWl FWl.kp bWl .nil pass0 (pa_cons (pv 0) (pa_cons (pv 1) (pa_cons (pe_callTy (show CallR _ _ (rTupG K) from cr_tupG) (by rfl) m_tuple (by decide +kernel) (pa_cons (pe_lc (own := [("button", 3)]) (g := gName 3) rfl scUn.nd (show PI _ _ _ (iTup K _) from pi_tup (pe_ix (show IxR _ (rIxT K) from ix_tup) (pv 0) (pv 1) (fun _ _ => rfl))) (blkOk_by (own := [("button", 3)]) (N := nUn) (sc := defScope sUn) (by decide +kernel)) (fun _ _ _ _ _ => pg_name (i := 3) scUn.nd rfl (Or.inl rfl)) (fun _ _ _ _ _ => pts_one (pt_cmpR op_ne (pv 3) (pv 2) (nomark _))) (fun _ _ _ _ _ => pv 3)) pa_nil)) pa_nil)))))), ?_⟩
    obtain ⟨c1, c2, c3, c4⟩ := hc
    have hl := list_few c2 one.toNat
    refine gs_if1 (gvt_test (gv_inT (gv_var rfl d3) (gv_pan (gv_var rfl d1) (gv_var rfl d2) c3 c4))) (fun e H' s => ?_) (fun e H' s => ?_)
    · have e' : other ∉ pan.getD one.toNat [] := by simpa using e
      refine gs_ret (gv_var rfl (d1.sm s)) fun v H2 s2 dv => q v H2 (s.trans s2) ?_
      unfold unM; rw [if_neg e']; exact dv
    · have e' : other ∈ pan.getD one.toNat [] := by simpa using e
      refine gs_ret (gv_Wl (gva_cons (gv_var rfl (d1.sm s)) (gva_cons (gv_var rfl (d2.sm s)) (gva_cons (gv_tupL (gv_lc (gvi_tup (gv_pan (gv_var rfl (d1.sm s)) (gv_var rfl (d2.sm s)) c3 c4))
        (fun a v H1 ha s1 dv => ⟨gvt_test (gv_neI (gv_var rfl dv) (gv_var rfl ((d3.sm s).sm s1))), fun _ => gv_var rfl dv⟩) (fun _ _ => rfl) (by omega))) gva_nil))) ⟨c1, c3⟩) fun v H2 s2 dv => q v H2 (s.trans s2) ?_
      unfold unM; rw [if_pos e']; exact dv
end
def nPress : List Str := ["panel", "state", "button", "released", "kept", "other"]
theorem scPress : FnScope nPress ["panel", "state", "button"] (defScope sPress) := ⟨rfl, rfl, rfl, by decide +kernel, rfl, by decide +kernel, by decide +kernel⟩
section
variable {P : Program} {w : World} {K : PySem.W.Frag} {mg : Str → Option Value} {base : Heap}
def spPress (K : PySem.W.Frag) : Sp := fun vs H Q _ => ∃ (pan : List (List Int)) (st : List Int) (b : Int), DpAll K H vs [dPan pan, dInts st, .int b] ∧ Asc pan.length st ∧ pan.length ≤ 10 ∧ 0 ≤ b ∧ b < (pan.length : Int) ∧
  ∀ H' t, Same H H' → H' t = some (.tup ((pressM pan st b).map V.int)) → Q (.ref t) H'
theorem ok_Press  {f : Addr} {fd : FuncData} {k : Nat} (F : Fun K "press_button" "press_button" sPress f fd)
    (m_sorted : mg "sorted" = none) (m_tuple : mg "tuple" = none) : FnOk P w K mg base CX0 (k + 1) f fd ["panel", "state", "button"] (spPress K) := by
  refine F.ok scPress (fun vs H Q E h => ?_) (fun cdv A outer s H vs Q E hr h => ?_)
  · obtain ⟨_, _, _, hd, _⟩ := h
    exact hd.length
  · obtain ⟨pan, st, b, hd, hst, few, b0, b1, q⟩ := h
    obtain ⟨v1, v2, v3, rfl, d1, d2, d3⟩ := dpAll3 hd
    have stl := hst.len
    refine ⟨_, pss_cons (ps_set (i := 3) scPress.nd rfl (.inr rfl) (pe_ix (show IxR _ (rIxT K) from ix_tup) (pv 0) (pv 2) (fun _ _ => rfl)))
      (pss_cons (ps_setLc (i := 4) (own := [("other", 5)]) (g := gName 5) rfl scPress.nd rfl rfl (sw_true rfl rfl rfl (by decide +kernel)) (show PI _ _ _ (iTup K _) from pi_tup (pv 1)) (blkOk_by (own := [("other", 5)]) (N := nPress) (sc := defScope sPress) (by decide +kernel)) (fun _ _ _ _ _ => pg_name (i := 5) scPress.nd rfl (Or.inl rfl)) (fun _ _ _ _ _ => pts_one (PW.pt (pw_and (pt_cmpR op_ne (pv 5) (pv 2) (nomark _)) (pw_and1 (pt_cmpR (show OpR _ _ (rIn K true) from op_notIn_seq) (pv 5) (pv 3) (by rfl)))))) (fun _ _ _ _ _ => pv 5))
      (pss_one (ps_ret (pe_callTy (show CallR _ _ (rTupG K) from cr_tupG) (by rfl) m_tuple (by decide +kernel) (pa_cons (pe_callB (show CallR _ _ (rSorted K) from cr_sorted) (by rfl) m_sorted (by decide +kernel) (pa_cons (pe_lst (StX.pa_star (pv 4) (pa_cons (pv 2) pa_nil))) pa_nil)) pa_nil))))), ?_⟩
    refine gs_set1 (gv_pan (gv_var rfl d1) (gv_var rfl d3) b0 b1) fun vr H1 s1 dr => ?_
    refine gs_set1 (gv_lc (p := fun x => decide (x ≠ b ∧ x ∉ pan.getD b.toNat [])) (f := PyData.int) (gvi_tup (gv_var rfl (d2.sm s1))) (fun x vx H2 hx s2 dx => ⟨(gvt_and (gvt_test (gv_neI (gv_var rfl dx) (gv_var rfl ((d3.sm s1).sm s2)))) (fun H3 s3 _ => gvt_test (gv_inT (neg := true) (gv_var rfl (dx.sm s3)) (gv_var rfl ((dr.sm s2).sm s3))))).to (by simp), fun _ => gv_var rfl dx⟩) (fun _ _ => rfl) (by omega)) fun vk H2 s2 dk => ?_
    refine (gu_tupL (gv_sortL (l := st.filter (fun x => decide (x ≠ b ∧ x ∉ pan.getD b.toNat [])) ++ [b]) ((gv_lst (gva_starL (gv_var rfl dk) (gva_cons (gv_var rfl ((d3.sm s1).sm s2)) gva_nil)) ?_).to ?_) ?_)).at fun t vs H3 s3 nt et dt => q H3 t ((s1.trans s2).trans s3) ?_
    · rw [List.length_append, List.length_map]
      have := List.length_filter_le (fun x => decide (x ≠ b ∧ x ∉ pan.getD b.toNat [])) st
      exact Nat.le_of_lt (small5 (by show _ + 1 ≤ _; omega))
    · rw [List.map_append]; rfl
    · rw [List.length_append]
      have := List.length_filter_le (fun x => decide (x ≠ b ∧ x ∉ pan.getD b.toNat [])) st
      show _ + 1 < 64; omega
    · rw [et, dpAll_intsV dt, press_sorted hst b0 b1 (srt_perm _) (srt_up _)]
end
theorem scBtn : FnScope ["value", "many"] ["value", "many"] (defScope sBtn) := ⟨rfl, rfl, rfl, by decide +kernel, rfl, by decide +kernel, by decide +kernel⟩
theorem scBtnT : FnScope ["value", "many", "before", "item"] ["value", "many"] (defScope sBtnT) := ⟨rfl, rfl, rfl, by decide +kernel, rfl, by decide +kernel, by decide +kernel⟩
theorem scPErr : FnScope ["value", "index", "item"] ["value"] (defScope sPErr) := ⟨rfl, rfl, rfl, by decide +kernel, rfl, by decide +kernel, by decide +kernel⟩
section
variable {P : Program} {w : World} {K : PySem.W.Frag} {mg : Str → Option Value} {base : Heap}
def spBtn (K : PySem.W.Frag) : Sp := fun vs H Q _ => ∃ (N : Addr → Prop) (v : V) (d : PyData) (n : Int), vs = [v, .int n] ∧ Dq K N H v d ∧ Q (.bl (isBtn n d)) H
theorem ok_btn {f : Addr} {fd : FuncData} {k : Nat} (F : Fun K "is_button" "is_button" sBtn f fd) (mi : mg "isinstance" = none) (mb : mg "bool" = none) (mn : mg "int" = none) : FnOk P w K mg base CX0 (k + 1) f fd ["value", "many"] (spBtn K) := by
  refine F.ok scBtn (fun vs H Q E h => ?_) (fun cdv A outer s H vs Q E hr h => ?_)
  · obtain ⟨N, v, d, n, rfl, _⟩ := h
    rfl
  · obtain ⟨N, v, d, n, rfl, hd, q⟩ := h
    refine ⟨_, pss_cons (ps_if (PW.pt (pw_or (pt_val (pe_callB call_isi (by rfl) mi (by decide +kernel) (pa_cons (pv 0) (pa_cons (pe_bltn (v := .ty "bool") (by rfl) mb (by decide +kernel) rfl) pa_nil))))
        (pw_or1 (pt_not (pt_val (pe_callB call_isi (by rfl) mi (by decide +kernel) (pa_cons (pv 0) (pa_cons (pe_bltn (v := .ty "int") (by rfl) mn (by decide +kernel) rfl) pa_nil))))))))
        (pss_one (ps_ret pe_bl)) pss_nil)
      (pss_one (ps_ret (pe_chain op_le op_lt pe_int (pv 0) (pv 1)))), ?_⟩
    refine ⟨v, rfl, v, .ty "bool", _, _, _, rfl, .ty "bool", hd.ty, isB_kit d, _, rfl, ?_⟩
    by_cases hb : ∃ b, d = .bool b
    · obtain ⟨b, rfl⟩ := hb
      exact iteT (iteT q)
    · have e1 : isB d = false := by
        cases d <;> first | rfl | exact absurd ⟨_, rfl⟩ hb
      rw [e1]
      refine iteF ⟨v, rfl, v, .ty "int", _, _, _, rfl, .ty "int", hd.ty, isI_kit d, _, rfl, ?_⟩
      by_cases hi : ∃ i, d = .int i
      · obtain ⟨i, rfl⟩ := hi
        cases hd
        refine iteF ⟨.int i, rfl, 0, i, rfl, rfl, _, rfl, ite2 (fun e => ?_) (fun e => ?_)⟩
        · refine ⟨.int n, rfl, i, n, rfl, rfl, ?_⟩
          have q' : Q (.bl (decide (0 ≤ i) && decide (i < n))) H := q
          rw [e, Bool.true_and] at q'
          exact q'
        · have q' : Q (.bl (decide (0 ≤ i) && decide (i < n))) H := q
          rw [(Bool.not_eq_true _).mp e, Bool.false_and] at q'
          exact q'
      · have e2 : isI d = false := by
          cases d <;> first | rfl | exact absurd ⟨_, rfl⟩ hi | exact absurd ⟨_, rfl⟩ hb
        rw [e2]
        have q' : Q (.bl false) H := by
          cases d <;> first | exact q | exact absurd ⟨_, rfl⟩ hi
        exact iteT q'
def spBtnT (K : PySem.W.Frag) : Sp := fun vs H Q _ => ∃ (N : Addr → Prop) (v : V) (d : PyData) (n : Int), vs = [v, .int n] ∧ Dq K N H v d ∧ Q (.bl (btnT n d)) H
theorem ok_btnT {f fB : Addr} {fd fdB : FuncData} {k : Nat} (F : Fun K "is_button_tuple" "is_button_tuple" sBtnT f fd) (FB : Fun K "is_button" "is_button" sBtn fB fdB) (bB : Binds K fdB ["value", "many"] []) (gB : mg "is_button" = some (.ref fB))
    (mi : mg "isinstance" = none) (mb : mg "bool" = none) (mn : mg "int" = none) (mt : mg "tuple" = none) : FnOk P w K mg base CX0 (k + 2) f fd ["value", "many"] (spBtnT K) := by
  have GB : FnOk P w K mg base CX0 (k + 1) fB fdB ["value", "many"] (spBtn K) := ok_btn FB mi mb mn
  refine F.ok scBtnT (fun vs H Q E h => ?_) (fun cdv A outer s H vs Q E hr h => ?_)
  · obtain ⟨N, v, d, n, rfl, _⟩ := h
    rfl
  · obtain ⟨N, v, d, n, rfl, hd, q⟩ := h
    refine ⟨_, pss_cons (ps_if (pt_not (pt_val (pe_callB call_isi (by rfl) mi (by decide +kernel) (pa_cons (pv 0) (pa_cons (pe_bltn (v := .ty "tuple") (by rfl) mt (by decide +kernel) rfl) pa_nil))))) (pss_one (ps_ret pe_bl)) pss_nil)
      (pss_cons (ps_set (i := 2) scBtnT.nd rfl (.inl rfl) (pe_un un_neg pe_int))
      (pss_cons (ps_for PassesOwn.never rfl (pi_tup (pv 0)) (pg_name (i := 3) scBtnT.nd rfl (.inl rfl))
        (pss_cons (ps_if (PW.pt (pw_or (pt_not (pt_val (pe_call GB hr (by rfl) gB FB.kp bB .nil pass0 (pa_cons (pv 3) (pa_cons (pv 1) pa_nil))))) (pw_or1 (pt_cmpR op_le (pv 3) (pv 2) (nomark _))))) (pss_one (ps_ret pe_bl)) pss_nil)
        (pss_one (ps_set (i := 2) scBtnT.nd rfl (.inl rfl) (pv 3)))))
      (pss_one (ps_ret pe_bl)))), ?_⟩
    refine ⟨v, rfl, v, .ty "tuple", _, _, _, rfl, .ty "tuple", hd.ty, isT_kit d, _, rfl, ?_⟩
    by_cases ht : ∃ ds, d = .tuple ds
    · obtain ⟨ds, rfl⟩ := ht
      cases hd with
      | @tup l xs _ hs ha =>
        have q' : Q (.bl (ascFrom n (-1) ds)) H := q
        refine iteF ⟨1, rfl, .ref l, rfl, l, rfl, ⟨_, hs⟩, ?_⟩
        refine for_tup (xs := xs) (fun i σ H' => H' = H ∧ ∃ b x3, σ = [some (.ref l), some (.int n), some (.int b), x3] ∧ ascFrom n (-1) ds = ascFrom n b (ds.drop i)) ⟨rfl, -1, none, rfl, rfl⟩ (fun i σ H' _ hP => by rw [hP.1]; exact hs) (fun i x σ H' hx hP => ?_) (fun σ H' hP => ?_)
        · obtain ⟨rfl, b, x3, rfl, ea⟩ := hP
          obtain ⟨di, hdi, hq⟩ := ha.get i x hx
          have hi := (List.getElem?_eq_some_iff.mp hdi).1
          have ed : ds.drop i = di :: ds.drop (i + 1) := by rw [List.drop_eq_getElem_cons hi, (List.getElem?_eq_some_iff.mp hdi).2]
          rw [ed] at ea
          refine ⟨x, rfl, .int n, rfl, N, x, di, n, rfl, hq, _, rfl, ?_⟩
          by_cases hb : isBtn n di = true
          · rw [hb]
            obtain ⟨j, rfl⟩ : ∃ j, di = .int j := by
              cases di <;> first | exact ⟨_, rfl⟩ | (simp [isBtn] at hb)
            cases hq
            have ea' : ascFrom n (-1) ds = (decide (0 ≤ j) && decide (j < n) && decide (b < j) && ascFrom n j (ds.drop (i + 1))) := ea
            have hb' : (decide (0 ≤ j) && decide (j < n)) = true := hb
            rw [hb', Bool.true_and] at ea'
            refine iteF ⟨.int j, rfl, .int b, rfl, j, b, rfl, rfl, _, rfl, ite2 (fun e => ?_) (fun e => ?_)⟩
            · have : ¬ b < j := by have := of_decide_eq_true e; omega
              rw [decide_eq_false this, Bool.false_and] at ea'
              rw [ea'] at q'
              exact q'
            · have : b < j := by
                have : ¬ j ≤ b := fun h => e (decide_eq_true h)
                omega
              rw [decide_eq_true this, Bool.true_and] at ea'
              exact ⟨.int j, rfl, rfl, j, _, rfl, ea'⟩
          · rw [(Bool.not_eq_true _).mp hb]
            have ef : ascFrom n (-1) ds = false := by
              rw [ea]
              cases di with
              | int j =>
                have hb' : (decide (0 ≤ j) && decide (j < n)) = false := (Bool.not_eq_true _).mp hb
                show (decide (0 ≤ j) && decide (j < n) && decide (b < j) && ascFrom n j (ds.drop (i + 1))) = false
                rw [hb', Bool.false_and, Bool.false_and]
              | _ => rfl
            rw [ef] at q'
            exact iteT q'
        · obtain ⟨rfl, b, x3, rfl, ea⟩ := hP
          rw [ha.length, List.drop_length] at ea
          rw [ea] at q'
          exact q'
    · have e1 : isT d = false := by
        cases d <;> first | rfl | exact absurd ⟨_, rfl⟩ ht
      rw [e1]
      have q' : Q (.bl false) H := by
        cases d <;> first | exact q | exact absurd ⟨_, rfl⟩ ht
      exact iteT q'
end
section
variable {P : Program} {w : World} {K : PySem.W.Frag} {mg : Str → Option Value} {base : Heap}
def spPErr (K : PySem.W.Frag) : Sp := fun vs H Q _ => ∃ (N : Addr → Prop) (v : V) (d : PyData), vs = [v] ∧ Dq K N H v d ∧ ∀ H' u, Same H H' → Dp K H' u (errD d) → Q u H'
theorem dp_err {H : Hp} {p : Addr} {v : V} {d : PyData} {x : Str} (hv : Dp K (upd H p (.tup [v, .str x])) v d) : Dp K (upd H p (.tup [v, .str x])) (.ref p) (dErr d x) := .tup (.inl (.inl upd_same)) (.cons hv (.cons (.str x) .nil))
theorem ok_perr {f fB fT : Addr} {fd fdB fdT : FuncData} {k : Nat} {tk : Tok} (F : Fun K "panel_error" "panel_error" sPErr f fd) (FB : Fun K "is_button" "is_button" sBtn fB fdB) (bB : Binds K fdB ["value", "many"] []) (gB : mg "is_button" = some (.ref fB))
    (FT' : Fun K "is_button_tuple" "is_button_tuple" sBtnT fT fdT) (bT : Binds K fdT ["value", "many"] []) (gT : mg "is_button_tuple" = some (.ref fT)) (mM : mg "MAX_BUTTONS" = some (.int 10 tk))
    (mi : mg "isinstance" = none) (mb : mg "bool" = none) (mn : mg "int" = none) (mt : mg "tuple" = none) (ml : mg "len" = none) (me : mg "enumerate" = none) : FnOk P w K mg base CX0 (k + 3) f fd ["value"] (spPErr K) := by
  have GT : FnOk P w K mg base CX0 (k + 2) fT fdT ["value", "many"] (spBtnT K) := ok_btnT FT' FB bB gB mi mb mn mt
  refine F.ok scPErr (fun vs H Q E h => ?_) (fun cdv A outer s H vs Q E hr h => ?_)
  · obtain ⟨N, v, d, rfl, _⟩ := h
    rfl
  · obtain ⟨N, v, d, rfl, hd, q⟩ := h
    refine ⟨_, pss_cons (ps_if (PW.pt (pw_or (pt_not (pt_val (pe_callB call_isi (by rfl) mi (by decide +kernel) (pa_cons (pv 0) (pa_cons (pe_bltn (v := .ty "tuple") (by rfl) mt (by decide +kernel) rfl) pa_nil)))))
        (pw_or1 (pt_not (pt_chain op_le op_le pe_int (pe_callB call_len_seq (by rfl) ml PySem.boot_len (pa_cons (pv 0) pa_nil)) (pe_glob (v := .int 10) rfl mM ⟨_, rfl⟩))))))
        (pss_one (ps_ret (pe_tup (pa_cons pe_non (pa_cons pe_str pa_nil))))) pss_nil)
      (pss_cons (ps_for PassesOwn.never rfl (pi_enumT (by rfl) me (pa_cons (pv 0) pa_nil)) (pg_tup rfl (pgs_cons (pg_name (i := 1) scPErr.nd rfl (.inl rfl)) (pgs_cons (pg_name (i := 2) scPErr.nd rfl (.inl rfl)) pgs_nil)))
        (pss_cons (ps_if (pt_not (pt_val (pe_call GT hr (by rfl) gT FT'.kp bT .nil pass0 (pa_cons (pv 2) (pa_cons (pe_callB call_len_seq (by rfl) ml PySem.boot_len (pa_cons (pv 0) pa_nil)) pa_nil)))))
          (pss_one (ps_ret (pe_tup (pa_cons (pv 1) (pa_cons pe_str pa_nil))))) pss_nil)
        (pss_one (ps_if (pt_cmpR op_in_seq (pv 1) (pv 2) (by rfl)) (pss_one (ps_ret (pe_tup (pa_cons (pv 1) (pa_cons pe_str pa_nil))))) pss_nil))))
      (pss_one (ps_ret pe_non))), ?_⟩
    have bad : errD d = dErr .none "panel" → ∀ p, H p = none → Q (.ref p) (upd H p (.tup [.non, .str "panel"])) := fun e p np => by
      refine q _ _ (same_new np) ?_
      rw [e]
      exact dp_err .non
    refine ⟨v, rfl, v, .ty "tuple", _, _, _, rfl, .ty "tuple", hd.ty, isT_kit d, _, rfl, ?_⟩
    by_cases ht : ∃ ds, d = .tuple ds
    · obtain ⟨ds, rfl⟩ := ht
      cases hd with
      | @tup l xs _ hs ha =>
        have hl := ha.length
        refine iteF ⟨.ref l, rfl, l, xs, rfl, .inr hs, 1, (xs.length : Int), rfl, rfl, _, rfl, ?_⟩
        by_cases h1 : (1 : Int) ≤ (xs.length : Int)
        · rw [decide_eq_true h1]
          refine iteT ⟨(xs.length : Int), 10, rfl, rfl, _, rfl, ?_⟩
          by_cases h2 : (xs.length : Int) ≤ 10
          · rw [decide_eq_true h2]
            refine iteF ⟨.ref l, rfl, l, xs, rfl, hs, ?_⟩
            have ed : errD (.tuple ds) = errFrom (ds.length : Int) 0 ds := if_pos ⟨by omega, by omega⟩
            rw [ed] at q
            refine for_it (walk_enumT (xs := xs)) (fun i σ H' => Same H H' ∧ ∃ x1 x2, σ = [some (.ref l), x1, x2] ∧ errFrom (ds.length : Int) 0 ds = errFrom (ds.length : Int) i (ds.drop i)) ⟨Same.refl _, none, none, rfl, rfl⟩ (fun i σ H' _ hP => same_sqT hP.1 hs) (fun i x σ H3 H4 hi hP hY => ?_) (fun σ H' hP => ?_)
            · obtain ⟨s3, x1, x2, rfl, ea⟩ := hP
              obtain ⟨T, y1, y2, rfl, nT, rfl, e1, e2⟩ := hY
              cases e1
              replace e2 : xs[i]? = some y2 := e2
              have sT : Same H3 (upd H3 T (.tup [.int (i : Nat), y2])) := same_new nT
              obtain ⟨di, hdi, hq⟩ := ha.get i y2 e2
              rw [errFrom_drop hdi] at ea
              have s4 := s3.trans sT
              have hq4 := Dq.same s4 di y2 hq
              refine ⟨T, _, rfl, .inl (.inl upd_same), rfl, _, _, rfl, _, _, rfl, rfl, ?_⟩
              refine ⟨y2, rfl, .ref l, rfl, l, xs, rfl, .inr (same_sqT s4 hs), N, y2, di, (xs.length : Int), rfl, hq4, _, rfl, ?_⟩
              rw [hl]
              by_cases hb : btnT (ds.length : Int) di = true
              · rw [hb] at ea ⊢
                rw [if_pos rfl] at ea
                obtain ⟨es, rfl⟩ : ∃ es, di = .tuple es := by
                  cases di <;> first | exact ⟨_, rfl⟩ | (simp [btnT] at hb)
                obtain ⟨ns, rfl, up, rg⟩ := ascFrom_ints (show ascFrom (ds.length : Int) (-1) es = true from hb)
                rw [hasInt_ints] at ea
                cases hq4 with
                | @tup l2 zs _ hs2 ha2 =>
                  obtain rfl := dqAll_of_ints ha2
                  refine iteF ⟨.int (i : Int), rfl, .ref l2, rfl, l2, _, rfl, .inr hs2, rfl, flat_ints ns, _, rfl, ?_⟩
                  rw [if_neg Bool.false_ne_true, inV_ints]
                  refine ite2 (fun e => ?_) (fun e => ?_)
                  · rw [e, if_pos rfl] at ea
                    refine ⟨.int (i : Int), rfl, by show 2 ≤ sizeLine; decide, fun p np => q _ _ (s4.trans (same_new np)) ?_⟩
                    rw [ea]
                    exact dp_err (.int _)
                  · rw [if_neg e] at ea
                    exact ⟨s4, _, _, rfl, ea⟩
              · rw [(Bool.not_eq_true _).mp hb] at ea ⊢
                rw [if_neg Bool.false_ne_true] at ea
                refine iteT ⟨.int (i : Int), rfl, by show 2 ≤ sizeLine; decide, fun p np => q _ _ (s4.trans (same_new np)) ?_⟩
                rw [ea]
                exact dp_err (.int _)
            · obtain ⟨s3, x1, x2, rfl, ea⟩ := hP
              rw [hl, List.drop_length] at ea
              refine q _ _ s3 ?_
              rw [ea]
              exact .non
          · rw [decide_eq_false h2]
            exact iteT ⟨by show 2 ≤ sizeLine; decide, bad (if_neg (by omega))⟩
        · rw [decide_eq_false h1]
          refine iteF ⟨_, rfl, ?_⟩
          exact iteT ⟨by show 2 ≤ sizeLine; decide, bad (if_neg (by omega))⟩
    · have e1 : isT d = false := by
        cases d <;> first | rfl | exact absurd ⟨_, rfl⟩ ht
      rw [e1]
      refine iteT (iteT ⟨by show 2 ≤ sizeLine; decide, bad ?_⟩)
      cases d <;> first | rfl | exact absurd ⟨_, rfl⟩ ht
end
def nChkP : List Str := ["value", "error"]
theorem scChkP : FnScope nChkP ["value"] (defScope sChkP) := ⟨rfl, rfl, rfl, by decide +kernel, rfl, by decide +kernel, by decide +kernel⟩
section
variable {P : Program} {w : World} {K : PySem.W.Frag} {mg : Str → Option Value} {base : Heap}
def spChkP (K : PySem.W.Frag) : Sp := fun vs H Q _ => ∃ (p : Addr) (pan : List (List Int)), vs = [.ref p] ∧ PanT K H p pan ∧ Good pan ∧ ∀ H', Same H H' → Q .non H'
theorem ok_ChkP {fBtn : Addr} {fdBtn : FuncData} {fBtnT : Addr} {fdBtnT : FuncData} {fPErr : Addr} {fdPErr : FuncData} {f : Addr} {fd : FuncData} {k : Nat} (F : Fun K "check_panel" "check_panel" sChkP f fd)
    (FBtn : Fun K "is_button" "is_button" sBtn fBtn fdBtn) (bBtn : Binds K fdBtn ["value", "many"] []) (gBtn : mg "is_button" = some (.ref fBtn))
    (FBtnT : Fun K "is_button_tuple" "is_button_tuple" sBtnT fBtnT fdBtnT) (bBtnT : Binds K fdBtnT ["value", "many"] []) (gBtnT : mg "is_button_tuple" = some (.ref fBtnT))
    (FPErr : Fun K "panel_error" "panel_error" sPErr fPErr fdPErr) (bPErr : Binds K fdPErr ["value"] []) (gPErr : mg "panel_error" = some (.ref fPErr))
    (m_bool : mg "bool" = none) (m_enumerate : mg "enumerate" = none) (m_int : mg "int" = none) (m_isinstance : mg "isinstance" = none) (m_len : mg "len" = none) (m_tuple : mg "tuple" = none) {tk : Tok} (y_MAX : mg "MAX_BUTTONS" = some (.int 10 tk)) : FnOk P w K mg base CX0 (k + 4) f fd ["value"] (spChkP K) := by
  have GPErr : FnOk P w K mg base CX0 (k + 3) fPErr fdPErr ["value"] (spPErr K) := ok_perr FPErr FBtn bBtn gBtn FBtnT bBtnT gBtnT y_MAX m_isinstance m_bool m_int m_tuple m_len m_enumerate
  refine F.ok scChkP (fun vs H Q E h => ?_) (fun cdv A outer s H vs Q E hr h => ?_)
  · obtain ⟨p, pan, rfl, _⟩ := h
    rfl
  · obtain ⟨p, pan, rfl, hp, hg, q⟩ := h
    refine ⟨_, pss_cons (ps_set (i := 1) scChkP.nd rfl (.inl rfl) (pe_call GPErr (hr.mono (by omega)) (by rfl) gPErr FPErr.kp bPErr .nil pass0 (pa_cons (pv 0) pa_nil)))
      (pss_one (ps_if (pt_cmpR op_notN (pv 1) pe_non (by rfl)) (pss_one ps_never) pss_nil)), ?_⟩
    refine ⟨.ref p, rfl, fun _ => False, .ref p, dPan pan, rfl, dq_panT hp, fun H1 u s1 du => ?_⟩
    rw [err_good hg] at du
    cases du
    refine gs_noN (gvt_test (K := K) (gv_notN (gv_var rfl .non) rfl)) rfl fun H2 s2 => q H2 (s1.trans s2)
end
def nChkS : List Str := ["panel", "value"]
theorem scChkS : FnScope nChkS ["panel", "value"] (defScope sChkS) := ⟨rfl, rfl, rfl, by decide +kernel, rfl, by decide +kernel, by decide +kernel⟩
section
variable {P : Program} {w : World} {K : PySem.W.Frag} {mg : Str → Option Value} {base : Heap}
def spChkS (K : PySem.W.Frag) : Sp := fun vs H Q _ => ∃ (p l : Addr) (pan : List (List Int)) (st : List Int), vs = [.ref p, .ref l] ∧ PanT K H p pan ∧ SqT K H l (st.map V.int) ∧ Asc pan.length st ∧ ∀ H', Same H H' → Q .non H'
theorem ok_ChkS {fBtn : Addr} {fdBtn : FuncData} {fBtnT : Addr} {fdBtnT : FuncData} {f : Addr} {fd : FuncData} {k : Nat} (F : Fun K "check_state" "check_state" sChkS f fd)
    (FBtn : Fun K "is_button" "is_button" sBtn fBtn fdBtn) (bBtn : Binds K fdBtn ["value", "many"] []) (gBtn : mg "is_button" = some (.ref fBtn))
    (FBtnT : Fun K "is_button_tuple" "is_button_tuple" sBtnT fBtnT fdBtnT) (bBtnT : Binds K fdBtnT ["value", "many"] []) (gBtnT : mg "is_button_tuple" = some (.ref fBtnT))
    (m_bool : mg "bool" = none) (m_int : mg "int" = none) (m_isinstance : mg "isinstance" = none) (m_len : mg "len" = none) (m_tuple : mg "tuple" = none) : FnOk P w K mg base CX0 (k + 3) f fd ["panel", "value"] (spChkS K) := by
  have GBtnT : FnOk P w K mg base CX0 (k + 2) fBtnT fdBtnT ["value", "many"] (spBtnT K) := ok_btnT FBtnT FBtn bBtn gBtn m_isinstance m_bool m_int m_tuple
  refine F.ok scChkS (fun vs H Q E h => ?_) (fun cdv A outer s H vs Q E hr h => ?_)
  · obtain ⟨p, l, pan, st, rfl, _⟩ := h
    rfl
  · obtain ⟨p, l, pan, st, rfl, hp, hl, hst, q⟩ := h
    refine ⟨_, pss_one (ps_if (pt_not (pt_val (pe_call GBtnT (hr.mono (by omega)) (by rfl) gBtnT FBtnT.kp bBtnT .nil pass0 (pa_cons (pv 1) (pa_cons (pe_callB (show CallR _ _ (rLenG K) from cr_lenG) (by rfl) m_len PySem.boot_len (pa_cons (pv 0) pa_nil)) pa_nil))))) (pss_one ps_never) pss_nil), ?_⟩
    have hlp : (pan.map dInts).length = pan.length := List.length_map _
    refine ⟨.ref l, rfl, (gv_lenT (K := K) (gv_var rfl hp.dp)).at fun vn H1 s1 dn => ?_⟩
    cases dn
    rw [hlp]
    refine ⟨fun _ => False, .ref l, dInts st, (pan.length : Int), rfl, dq_ints (same_sqT s1 hl), ⟨_, rfl, ?_⟩⟩
    have e : btnT (pan.length : Int) (dInts st) = true := asc_from hst.up fun x hx => ⟨by have := hst.rng x hx; omega, hst.rng x hx⟩
    rw [e]
    exact iteF (q H1 s1)
end
def nChkB : List Str := ["panel", "value"]
theorem scChkB : FnScope nChkB ["panel", "value"] (defScope sChkB) := ⟨rfl, rfl, rfl, by decide +kernel, rfl, by decide +kernel, by decide +kernel⟩
section
variable {P : Program} {w : World} {K : PySem.W.Frag} {mg : Str → Option Value} {base : Heap}
def spChkB (K : PySem.W.Frag) : Sp := fun vs H Q _ => ∃ (p : Addr) (pan : List (List Int)) (b : Int), vs = [.ref p, .int b] ∧ PanT K H p pan ∧ 0 ≤ b ∧ b < (pan.length : Int) ∧ ∀ H', Same H H' → Q .non H'
theorem ok_ChkB {fBtn : Addr} {fdBtn : FuncData} {f : Addr} {fd : FuncData} {k : Nat} (F : Fun K "check_button" "check_button" sChkB f fd)
    (FBtn : Fun K "is_button" "is_button" sBtn fBtn fdBtn) (bBtn : Binds K fdBtn ["value", "many"] []) (gBtn : mg "is_button" = some (.ref fBtn))
    (m_bool : mg "bool" = none) (m_int : mg "int" = none) (m_isinstance : mg "isinstance" = none) (m_len : mg "len" = none) : FnOk P w K mg base CX0 (k + 2) f fd ["panel", "value"] (spChkB K) := by
  have GBtn : FnOk P w K mg base CX0 (k + 1) fBtn fdBtn ["value", "many"] (spBtn K) := ok_btn FBtn m_isinstance m_bool m_int
  refine F.ok scChkB (fun vs H Q E h => ?_) (fun cdv A outer s H vs Q E hr h => ?_)
  · obtain ⟨p, pan, b, rfl, _⟩ := h
    rfl
  · obtain ⟨p, pan, b, rfl, hp, b0, b1, q⟩ := h
    refine ⟨_, pss_one (ps_if (pt_not (pt_val (pe_call GBtn (hr.mono (by omega)) (by rfl) gBtn FBtn.kp bBtn .nil pass0 (pa_cons (pv 1) (pa_cons (pe_callB (show CallR _ _ (rLenG K) from cr_lenG) (by rfl) m_len PySem.boot_len (pa_cons (pv 0) pa_nil)) pa_nil))))) (pss_one ps_never) pss_nil), ?_⟩
    have hlp : (pan.map dInts).length = pan.length := List.length_map _
    refine ⟨.int b, rfl, (gv_lenT (K := K) (gv_var rfl hp.dp)).at fun vn H1 s1 dn => ?_⟩
    cases dn
    rw [hlp]
    refine ⟨fun _ => False, .int b, .int b, (pan.length : Int), rfl, .int b, ⟨_, rfl, ?_⟩⟩
    have e : isBtn (pan.length : Int) (.int b) = true := by simp [isBtn, b0, b1]
    rw [e]
    exact iteF (q H1 s1)
end
end K64
namespace Pr
open PySem PySem.Spec PyProof.Rows L2
/-- kvs holds the last place of each of the first i -/
def LastAt (row : List Int) (i : Nat) (kvs : List (Key × V)) : Prop :=
  ∀ x : Int, x ∈ row.take i → ∃ j : Nat, row[j]? = some x ∧ j < i ∧ (∀ m, j < m → m < i → row[m]? ≠ some x) ∧ valV kvs (Sum.inl x) = some (.int (j : Int))
theorem LastAt.nil (row : List Int) (kvs : List (Key × V)) : LastAt row 0 kvs := fun x h => by simp at h
end Pr
namespace Pr
open PySem PySem.Spec PyProof.Rows L2
end Pr
namespace Pr
open PySem PySem.Spec PyProof.Rows L2
end Pr
namespace Pr
open PySem PySem.Spec PyProof.Rows L2
end Pr
namespace Pr
open PySem PySem.Spec PyProof.Rows L2
def numT (x : Int) : Str := (toString x : String)
def listT (b : Int) (l : List Int) : Str := numT b ++ (">" : Str) ++ Txt.join ("," : Str) (l.map numT)
def panT (pan : List (List Int)) : Str := Txt.join (" " : Str) (pan.zipIdx.map fun x => listT (x.2 : Nat) x.1)
def rowW (row : List Int) : List Str := row.map numT ++ List.replicate (if row.length = 0 then 1 else 0) ("none" : Str)
def rowT (row : List Int) : Str := Txt.join (" " : Str) (rowW row)
def Dg (x : Int) : Prop := 0 ≤ x ∧ x < 10
theorem rowT_nil : rowT [] = ("none" : Str) := by unfold rowT rowW; rw [TL.join_eq]; rfl
theorem rowT_cons {row : List Int} (h : row ≠ []) : rowT row = Txt.join (" " : Str) (row.map numT) := by
  unfold rowT rowW
  rw [if_neg (fun e => h (List.length_eq_zero_iff.mp e)), List.replicate_zero, List.append_nil]
structure Sm (n : Nat) (x : Str) : Prop where
  ln : x.length ≤ n
  cs : ∀ c ∈ TL.tl x, c < 128
theorem Sm.app {n m : Nat} {x y : Str} (h : Sm n x) (g : Sm m y) : Sm (n + m) (x ++ y) := by
  refine ⟨by rw [Str.length_append]; have := h.ln; have := g.ln; omega, fun c hc => ?_⟩
  rw [TL.tl_append] at hc
  rcases List.mem_append.mp hc with h' | h'
  · exact h.cs c h'
  · exact g.cs c h'
theorem Sm.mono {n m : Nat} {x : Str} (h : Sm n x) (g : n ≤ m) : Sm m x := ⟨Nat.le_trans h.ln g, h.cs⟩
theorem sm_num {x : Int} (h : Dg x) : Sm 1 (numT x) := by
  have : ∀ n < 10, (numT ((n : Nat) : Int)).length ≤ 1 ∧ ∀ c ∈ TL.tl (numT ((n : Nat) : Int)), c < 128 := by decide +kernel
  obtain ⟨n, rfl⟩ : ∃ n : Nat, x = (n : Int) := ⟨x.toNat, (Int.toNat_of_nonneg h.1).symm⟩
  have := this n (by have := h.2; omega)
  exact ⟨this.1, this.2⟩
theorem sm_join {y : Str} (hy : Sm 1 y) {k : Nat} : ∀ {parts : List Str}, (∀ p ∈ parts, Sm k p) → Sm (parts.length * (k + 1)) (Txt.join y parts)
  | [], _ => by rw [TL.join_eq]; exact ⟨Nat.zero_le _, fun c hc => by cases hc⟩
  | [p], h => by rw [TL.join_eq]; exact (h p List.mem_cons_self).mono (by show k ≤ 1 * (k + 1); omega)
  | p :: q :: r, h => by
    have ih := sm_join hy (parts := q :: r) fun z hz => h z (List.mem_cons_of_mem _ hz)
    rw [TL.join_eq] at ih ⊢
    refine (((h p List.mem_cons_self).app hy).app ih).mono ?_
    show k + 1 + (r.length + 1) * (k + 1) ≤ (r.length + 1 + 1) * (k + 1)
    rw [Nat.succ_mul (r.length + 1) (k + 1)]; omega
theorem sm_list {b : Int} {l : List Int} (hb : Dg b) (hl : ∀ x ∈ l, Dg x) : Sm (l.length * 2 + 2) (listT b l) := by
  unfold listT
  have h1 : Sm 1 (">" : Str) := ⟨by decide +kernel, by decide +kernel⟩
  have h2 : Sm 1 ("," : Str) := ⟨by decide +kernel, by decide +kernel⟩
  refine (((sm_num hb).app h1).app (sm_join h2 (k := 1) fun p hp => ?_)).mono (by rw [List.length_map]; omega)
  obtain ⟨x, hx, rfl⟩ := List.mem_map.mp hp
  exact sm_num (hl x hx)
structure OkT (pan : List (List Int)) : Prop where
  few : pan.length ≤ 10
  sh : ∀ l ∈ pan, l.length ≤ 60
  dg : ∀ l ∈ pan, ∀ x ∈ l, Dg x
theorem Good.okT {pan : List (List Int)} (g : Good pan) : OkT pan := by
  have few := g.few
  refine ⟨few, fun l hl => ?_, fun l hl x hx => ?_⟩
  · have := pw_length (n := 10) (lo := 0) (g.up l hl) fun x hx => by have := g.rng l hl x hx; omega
    omega
  · have := g.rng l hl x hx
    exact ⟨this.1, by omega⟩
theorem zip_ix {pan : List (List Int)} {x : List Int × Nat} (h : x ∈ pan.zipIdx) : x.2 < pan.length ∧ x.1 ∈ pan := by
  obtain ⟨h1, h2, h3⟩ := List.mem_zipIdx h
  exact ⟨by omega, by rw [h3]; exact List.getElem_mem _⟩
def rStrI : List V → Hp → VK → Prop := fun xs H Q => ∃ i, xs = [.int i] ∧ i.natAbs.log2 < 1920 ∧ Q (.str (toString i)) H
section
variable {K : PySem.W.Frag} {σ : L2.St} {H : Hp} {t ta tb te : TE}
theorem gv_numT {x : Int} (h : Gv K te σ H (.int x)) (hx : Dg x) : Gv K (tCB rStrI (tCons te tNil)) σ H (.str (numT x)) := gv_cb (gva_cons h gva_nil) fun vs H1 Q s hd' q => by
  obtain ⟨v, rfl, hv⟩ := dpAll1 hd'
  cases hv
  refine ⟨_, rfl, ?_, q _ _ (Same.refl _) (.str _)⟩
  have : ∀ n < 10, (((n : Nat) : Int)).natAbs.log2 < 1920 := by decide +kernel
  obtain ⟨n, rfl⟩ : ∃ n : Nat, x = (n : Int) := ⟨x.toNat, (Int.toNat_of_nonneg hx.1).symm⟩
  exact this n (by have := hx.2; omega)
theorem gv_addS {x y : Str} (ha : Gv K ta σ H (.str x)) (hb : Gv K tb σ H (.str y)) (hl : x.length + y.length ≤ 100000) {r : R2} (hr : r = fun x y H Q => ∃ i j, x = .str i ∧ y = .str j ∧ i.length + j.length ≤ sizeLine ∧ Q (.str (i ++ j)) H) : Gv K (tOp r ta tb) σ H (.str (x ++ y)) := by
  subst hr
  refine gv_op2 ha hb fun u v H1 Q s hx hy q => ?_
  cases hx; cases hy
  exact ⟨_, _, rfl, rfl, Nat.le_of_lt (small5 hl), q _ _ (Same.refl _) (.str _)⟩
theorem dpAll_strJ : ∀ {vs : List V} {l : List Str}, DpAll K H vs (l.map PyData.str) → vs = l.map V.str := fun {vs l} h => dpAll_strsV h
theorem gv_joinT {td tl : TE} {a : Str} {ys : List Str} {n : Nat} (h1 : Gv K td σ H (.str a)) (h2 : Gv K tl σ H (.list (ys.map PyData.str))) (hy : ∀ y ∈ ys, y.length ≤ 200) (hl : ys.length ≤ 100) (ha : a.length ≤ 1) {r : V → List V → Hp → VK → Prop}
    (hr : r = fun x xs H Q => ∃ a p, ∃ ys : List Str, x = .str a ∧ xs = [.ref p] ∧ (SqL K H p (ys.map V.str) ∨ SqT K H p (ys.map V.str)) ∧ (ys.map (·.length)).sum + ys.length * a.length ≤ 16777216 ∧ Q (.str (Txt.join a ys)) H) :
    Gv K (tM1 r td tl) σ H (.str (Txt.join a ys)) := fun H1 s Q q => h1 H1 s _ fun v H2 s2 d2 => by
  subst hr
  cases d2
  refine ⟨⟨_, rfl⟩, h2 H2 (s.trans s2) _ fun w H3 s3 d3 => ?_⟩
  obtain ⟨p, xs, rfl, hp, hr⟩ := d3.lstI
  rw [dpAll_strJ hr] at hp
  refine ⟨_, p, ys, rfl, rfl, .inl hp, ?_, q _ H3 (s2.trans s3) (.str _)⟩
  have h3 : ∀ {ys : List Str}, (∀ y ∈ ys, y.length ≤ 200) → (ys.map (·.length)).sum ≤ ys.length * 200 := fun {ys} => by
    induction ys with
    | nil => intro _; exact Nat.le_refl _
    | cons x r ih =>
      intro h
      have a1 := h x List.mem_cons_self
      have a2 := ih fun z hz => h z (List.mem_cons_of_mem _ hz)
      rw [List.map_cons, List.sum_cons, List.length_cons]; omega
  have h4 := h3 hy
  have h5 : ys.length * a.length ≤ 100 * 1 := Nat.mul_le_mul hl ha
  omega
theorem gvt_truT {ds : List PyData} {r : TT} (h : Gv K t σ H (.tuple ds)) (hr : r = fun σ H Q => t σ H fun x H' => ∃ k, TruV K x H' k ∧ Q k H') : GvT r σ H (!ds.isEmpty) := fun H1 s Q q => by
  subst hr
  refine h H1 s _ fun v H2 s2 dv => ?_
  obtain ⟨a, xs, rfl, hq, hr⟩ := dv.tupI
  refine ⟨_, .inr (.inl ⟨xs, hq, rfl⟩), ?_⟩
  have : xs.isEmpty = ds.isEmpty := by cases hr <;> rfl
  rw [this]; exact q _ s2
/-- f"{x}>" -/
theorem gv_fnum {x : Int} {y : Str} (h : Gv K te σ H (.int x)) (hx : Dg x) (hy : y.length ≤ 100) {t : TE} (ht : t = fun σ H Q => tJs [tFmt te, tC (.str y)] Str.empty σ H fun out H1 => Q (.str out) H1) : Gv K t σ H (.str (numT x ++ y)) := fun H1 s Q q => by
  subst ht
  refine h H1 s _ fun v H2 s2 dv => ?_
  cases dv
  have l1 := (sm_num hx).ln
  have this : ∀ n < 10, (((n : Nat) : Int)).natAbs.log2 < 1920 := by decide +kernel
  refine .inr ⟨x, rfl, ?_, numT x, rfl, ?_, y, rfl, ?_, ?_⟩
  · obtain ⟨n, rfl⟩ : ∃ n : Nat, x = (n : Int) := ⟨x.toNat, (Int.toNat_of_nonneg hx.1).symm⟩
    exact this n (by have := hx.2; omega)
  · rw [Str.empty_append]; exact Nat.le_of_lt (small5 (by omega))
  · rw [Str.empty_append, Str.length_append]; exact Nat.le_of_lt (small5 (by omega))
  · have := q (.str (numT x ++ y)) H2 s2 (.str _)
    rw [Str.empty_append]; exact this
end
end Pr
namespace K64
open PySem PySem.Spec PyProof.Rows L2 Pr
theorem dpAll_strsD {K : PySem.W.Frag} {H : Hp} (l : List Str) : DpAll K H (l.map V.str) (l.map PyData.str) := by
  induction l with
  | nil => exact .nil
  | cons x l ih => exact .cons (.str x) ih
def nListT : List Str := ["button", "released", "other"]
theorem scListT : FnScope nListT ["button", "released"] (defScope sListT) := ⟨rfl, rfl, rfl, by decide +kernel, rfl, by decide +kernel, by decide +kernel⟩
section
variable {P : Program} {w : World} {K : PySem.W.Frag} {mg : Str → Option Value} {base : Heap}
def spListT (K : PySem.W.Frag) : Sp := spP K (fun x : Int × List Int => [.int x.1, dInts x.2]) (fun x => Dg x.1 ∧ x.2.length ≤ 60 ∧ ∀ y ∈ x.2, Dg y) (fun x => .str (listT x.1 x.2))
theorem gv_ListT {σ : L2.St} {H : Hp} {t : TA} {E : XK} {b : Int} {l : List Int} (h : GvA K t σ H [.int b, dInts l]) (hc : Dg b ∧ l.length ≤ 60 ∧ ∀ y ∈ l, Dg y) : Gv K (tCall (spListT K) [] E t) σ H (.str (listT b l)) := gv_call (K := K) (δ := fun x : Int × List Int => [.int x.1, dInts x.2]) (C := fun x => Dg x.1 ∧ x.2.length ≤ 60 ∧ ∀ y ∈ x.2, Dg y) (f := fun x => .str (listT x.1 x.2)) (b, l) h hc
theorem ok_ListT  {f : Addr} {fd : FuncData} {k : Nat} (F : Fun K "list_text" "list_text" sListT f fd)
    (m_str : mg "str" = none) : FnOk P w K mg base CX0 (k + 1) f fd ["button", "released"] (spListT K) := by
  refine F.ok scListT (fun vs H Q E h => ?_) (fun cdv A outer s H vs Q E hr h => ?_)
  · obtain ⟨_, hd, _⟩ := h
    exact hd.length
  · obtain ⟨⟨b, l⟩, hd, hc, q⟩ := h
    obtain ⟨v1, v2, rfl, d1, d2⟩ := dpAll2 hd
    try dsimp only at hc
    try dsimp only at q
    try dsimp only at d1 d2
    refine ⟨_, pss_one (ps_ret (pe_op op_add_str (pe_joined (.cons (pe_fmt (pv 0)) (.cons pe_str .nil))) (pe_join pe_str (pe_lc (own := [("other", 2)]) (g := gName 2) (tt := tYes) rfl scListT.nd (show PI _ _ _ (iTup K _) from pi_tup (pv 1)) (blkOk_by (own := [("other", 2)]) (N := nListT) (sc := defScope sListT) (by decide +kernel)) (fun _ _ _ _ _ => pg_name (i := 2) scListT.nd rfl (Or.inl rfl)) (fun _ _ _ _ _ => pts_nil) (fun _ _ _ _ _ => pe_callTy (show CallR _ _ rStrI from call_str_int) (by rfl) m_str (by decide +kernel) (pa_cons (pv 2) pa_nil)))))), ?_⟩
    obtain ⟨hb, ll, hl⟩ := hc
    have sj : Sm 1 ("," : Str) := ⟨by decide +kernel, by decide +kernel⟩
    have sn : ∀ p ∈ l.map numT, Sm 1 p := fun p hp => by
      obtain ⟨x, hx, rfl⟩ := List.mem_map.mp hp
      exact sm_num (hl x hx)
    have l1 := (sm_join sj sn).ln
    rw [List.length_map] at l1
    have l2 := (sm_num hb).ln
    refine gs_ret (gv_addS (gv_fnum (gv_var rfl d1) hb (by decide +kernel) rfl) (gv_joinT (n := 1) gv_str ((gv_lc (δ := PyData.int) (as := l) (p := fun _ => true) (f := fun x : Int => .str (numT x)) (gvi_tup (gv_var rfl d2)) (fun x v H1 hx s dx => ⟨gvt_yes, fun _ => gv_numT (gv_var rfl dx) (hl x hx)⟩) (fun _ _ => rfl) (by omega)).to (by rw [List.filter_eq_self.mpr (fun _ _ => rfl), List.map_map]; rfl)) (fun y hy => Nat.le_trans (sn y hy).ln (by decide)) (by rw [List.length_map]; omega) (by decide +kernel) rfl) (by rw [Str.length_append]; show _ + 1 + _ ≤ _; omega) rfl) fun v H1 s1 dv => q v H1 s1 dv
end
def nPanT : List Str := ["panel", "button", "released"]
theorem scPanT : FnScope nPanT ["panel"] (defScope sPanT) := ⟨rfl, rfl, rfl, by decide +kernel, rfl, by decide +kernel, by decide +kernel⟩
section
variable {P : Program} {w : World} {K : PySem.W.Frag} {mg : Str → Option Value} {base : Heap}
def spPanT (K : PySem.W.Frag) : Sp := spP K (fun x : List (List Int) => [dPan x]) (fun x => OkT x) (fun x => .str (panT x))
theorem gv_PanT {σ : L2.St} {H : Hp} {t : TA} {E : XK} {pan : List (List Int)} (h : GvA K t σ H [dPan pan]) (hc : OkT pan) : Gv K (tCall (spPanT K) [] E t) σ H (.str (panT pan)) := gv_call (K := K) (δ := fun x : List (List Int) => [dPan x]) (C := fun x => OkT x) (f := fun x => .str (panT x)) pan h hc
theorem ok_PanT {fListT : Addr} {fdListT : FuncData} {f : Addr} {fd : FuncData} {k : Nat} (F : Fun K "panel_text" "panel_text" sPanT f fd)
    (FListT : Fun K "list_text" "list_text" sListT fListT fdListT) (bListT : Binds K fdListT ["button", "released"] []) (gListT : mg "list_text" = some (.ref fListT))
    (m_enumerate : mg "enumerate" = none) (m_str : mg "str" = none) : FnOk P w K mg base CX0 (k + 2) f fd ["panel"] (spPanT K) := by
  have GListT : FnOk P w K mg base CX0 (k + 1) fListT fdListT ["button", "released"] (spListT K) := ok_ListT FListT m_str
  refine F.ok scPanT (fun vs H Q E h => ?_) (fun cdv A outer s H vs Q E hr h => ?_)
  · obtain ⟨_, hd, _⟩ := h
    exact hd.length
  · obtain ⟨pan, hd, hc, q⟩ := h
    obtain ⟨v1, rfl, d1⟩ := dpAll1 hd
    try dsimp only at hc
    try dsimp only at q
    try dsimp only at d1
    refine ⟨_, pss_one (ps_ret (pe_join pe_str (pe_lc (own := [("button", 1), ("released", 2)]) (g := gTup K 2 (gCons (gName 1) (gCons (gName 2) gNil))) (tt := tYes) rfl scPanT.nd (pi_enumT (by rfl) m_enumerate (pa_cons (pv 0) pa_nil)) (blkOk_by (own := [("button", 1), ("released", 2)]) (N := nPanT) (sc := defScope sPanT) (by decide +kernel)) (fun _ _ _ _ _ => pg_tup rfl (pgs_cons (pg_name (i := 1) scPanT.nd rfl (Or.inl rfl)) (pgs_cons (pg_name (i := 2) scPanT.nd rfl (Or.inl rfl)) pgs_nil))) (fun _ _ _ _ _ => pts_nil) (fun _ _ _ _ _ => pe_call GListT (hr.mono (by omega)) (by rfl) gListT FListT.kp bListT .nil pass0 (pa_cons (pv 1) (pa_cons (pv 2) pa_nil)))))), ?_⟩
    have few := hc.few
    refine gs_ret (gv_joinT (n := 1) gv_str ((gv_lc2 (δ1 := fun x : List Int × Nat => .int (x.2 : Nat)) (δ2 := fun x => dInts x.1) (as := pan.zipIdx) (p := fun _ => true) (f := fun x => .str (listT (x.2 : Nat) x.1)) (gvi_enumT (δ := dInts) (gv_var rfl d1)) (fun x v u H1 hx s dx du => ⟨gvt_yes, fun _ => ?_⟩) (fun _ _ => rfl) (by rw [List.length_zipIdx]; omega) (by decide)).to (by rw [List.filter_eq_self.mpr (fun _ _ => rfl)]; exact congrArg PyData.list (List.map_map (f := fun x : List Int × Nat => listT (x.2 : Nat) x.1) (g := PyData.str) (l := pan.zipIdx)).symm)) (fun y hy => ?_) (by rw [List.length_map, List.length_zipIdx]; omega) (by decide +kernel) rfl) fun v H1 s1 dv => q v H1 s1 dv
    · have hz := zip_ix hx
      exact gv_ListT (gva_cons (gv_var rfl dx) (gva_cons (gv_var rfl du) gva_nil)) ⟨⟨by omega, by omega⟩, hc.sh _ hz.2, hc.dg _ hz.2⟩
    · obtain ⟨x, hx, rfl⟩ := List.mem_map.mp hy
      have hz := zip_ix hx
      have := (sm_list (b := (x.2 : Nat)) ⟨by omega, by omega⟩ (hc.dg _ hz.2)).ln
      have := hc.sh _ hz.2
      omega
end
def nRowT : List Str := ["row", "button"]
theorem scRowT : FnScope nRowT ["row"] (defScope sRowT) := ⟨rfl, rfl, rfl, by decide +kernel, rfl, by decide +kernel, by decide +kernel⟩
section
variable {P : Program} {w : World} {K : PySem.W.Frag} {mg : Str → Option Value} {base : Heap}
def spRowT (K : PySem.W.Frag) : Sp := spP K (fun x : List Int => [dInts x]) (fun x => x.length ≤ 99 ∧ ∀ y ∈ x, Dg y) (fun x => .str (rowT x))
theorem gv_RowT {σ : L2.St} {H : Hp} {t : TA} {E : XK} {row : List Int} (h : GvA K t σ H [dInts row]) (hc : row.length ≤ 99 ∧ ∀ y ∈ row, Dg y) : Gv K (tCall (spRowT K) [] E t) σ H (.str (rowT row)) := gv_call (K := K) (δ := fun x : List Int => [dInts x]) (C := fun x => x.length ≤ 99 ∧ ∀ y ∈ x, Dg y) (f := fun x => .str (rowT x)) row h hc
theorem ok_RowT  {f : Addr} {fd : FuncData} {k : Nat} (F : Fun K "row_text" "row_text" sRowT f fd)
    (m_str : mg "str" = none) : FnOk P w K mg base CX0 (k + 1) f fd ["row"] (spRowT K) := by
  refine F.ok scRowT (fun vs H Q E h => ?_) (fun cdv A outer s H vs Q E hr h => ?_)
  · obtain ⟨_, hd, _⟩ := h
    exact hd.length
  · obtain ⟨row, hd, hc, q⟩ := h
    obtain ⟨v1, rfl, d1⟩ := dpAll1 hd
    try dsimp only at hc
    try dsimp only at q
    try dsimp only at d1
    refine ⟨_, pss_cons (ps_if (pt_not (pt_truth (pv 0) (fun _ => rfl))) (pss_one (ps_ret pe_str)) pss_nil)
      (pss_one (ps_ret (pe_join pe_str (pe_lc (own := [("button", 1)]) (g := gName 1) (tt := tYes) rfl scRowT.nd (show PI _ _ _ (iTup K _) from pi_tup (pv 0)) (blkOk_by (own := [("button", 1)]) (N := nRowT) (sc := defScope sRowT) (by decide +kernel)) (fun _ _ _ _ _ => pg_name (i := 1) scRowT.nd rfl (Or.inl rfl)) (fun _ _ _ _ _ => pts_nil) (fun _ _ _ _ _ => pe_callTy (show CallR _ _ rStrI from call_str_int) (by rfl) m_str (by decide +kernel) (pa_cons (pv 1) pa_nil)))))), ?_⟩
    obtain ⟨ll, hl⟩ := hc
    refine gs_if1 (gvt_not (gvt_truT (K := K) (gv_var rfl d1) rfl)) (fun e H1 s1 => ?_) (fun e H1 s1 => ?_)
    · have : row = [] := by simpa using e
      subst this
      refine gs_ret gv_str fun v H2 s2 dv => q v H2 (s1.trans s2) (by rw [rowT_nil]; exact dv)
    · have : row ≠ [] := by simpa using e
      rw [rowT_cons this] at q
      refine gs_ret (gv_joinT (n := 1) gv_str ((gv_lc (δ := PyData.int) (as := row) (p := fun _ => true) (f := fun x : Int => .str (numT x)) (gvi_tup (gv_var rfl (d1.sm s1))) (fun x v H1 hx s dx => ⟨gvt_yes, fun _ => gv_numT (gv_var rfl dx) (hl x hx)⟩) (fun _ _ => rfl) (by omega)).to (by rw [List.filter_eq_self.mpr (fun _ _ => rfl), List.map_map]; rfl)) (fun y hy => ?_) (by rw [List.length_map]; omega) (by decide +kernel) rfl) fun v H2 s2 dv => q v H2 (s1.trans s2) dv
      obtain ⟨x, hx, rfl⟩ := List.mem_map.mp hy
      exact Nat.le_trans (sm_num (hl x hx)).ln (by decide)
end
def nLRowT : List Str := ["_law_row", "_law_button"]
theorem scLRowT : FnScope nLRowT ["_law_row"] (defScope sLRowT) := ⟨rfl, rfl, rfl, by decide +kernel, rfl, by decide +kernel, by decide +kernel⟩
section
variable {P : Program} {w : World} {K : PySem.W.Frag} {mg : Str → Option Value} {base : Heap}
def spLRowT (K : PySem.W.Frag) : Sp := spP K (fun x : List Int => [dInts x]) (fun x => x.length ≤ 99 ∧ ∀ y ∈ x, Dg y) (fun x => .str (rowT x))
theorem gv_LRowT {σ : L2.St} {H : Hp} {t : TA} {E : XK} {row : List Int} (h : GvA K t σ H [dInts row]) (hc : row.length ≤ 99 ∧ ∀ y ∈ row, Dg y) : Gv K (tCall (spLRowT K) [] E t) σ H (.str (rowT row)) := gv_call (K := K) (δ := fun x : List Int => [dInts x]) (C := fun x => x.length ≤ 99 ∧ ∀ y ∈ x, Dg y) (f := fun x => .str (rowT x)) row h hc
theorem ok_LRowT  {f : Addr} {fd : FuncData} {k : Nat} (F : Fun K "_law_row_text" "_law_row_text" sLRowT f fd)
    (m_int : mg "int" = none) (m_len : mg "len" = none) (m_str : mg "str" = none) : FnOk P w K mg base CX0 (k + 1) f fd ["_law_row"] (spLRowT K) := by
  refine F.ok scLRowT (fun vs H Q E h => ?_) (fun cdv A outer s H vs Q E hr h => ?_)
  · obtain ⟨_, hd, _⟩ := h
    exact hd.length
  · obtain ⟨row, hd, hc, q⟩ := h
    obtain ⟨v1, rfl, d1⟩ := dpAll1 hd
    try dsimp only at hc
    try dsimp only at q
    try dsimp only at d1
    refine ⟨_, pss_one (ps_ret (pe_join pe_str (pe_op op_cat (pe_lc (own := [("_law_button", 1)]) (g := gName 1) (tt := tYes) rfl scLRowT.nd (show PI _ _ _ (iTup K _) from pi_tup (pv 0)) (blkOk_by (own := [("_law_button", 1)]) (N := nLRowT) (sc := defScope sLRowT) (by decide +kernel)) (fun _ _ _ _ _ => pg_name (i := 1) scLRowT.nd rfl (Or.inl rfl)) (fun _ _ _ _ _ => pts_nil) (fun _ _ _ _ _ => pe_callTy (show CallR _ _ rStrI from call_str_int) (by rfl) m_str (by decide +kernel) (pa_cons (pv 1) pa_nil))) (pe_op op_rep (pe_lst (pa_cons pe_str pa_nil)) (pe_callTy call_int1 (by rfl) m_int (by decide +kernel) (pa_cons (pe_cmpR op_eq (pe_callB (show CallR _ _ (rLenG K) from cr_lenG) (by rfl) m_len PySem.boot_len (pa_cons (pv 0) pa_nil)) pe_int (nomark _)) pa_nil)))))), ?_⟩
    obtain ⟨ll, hl⟩ := hc
    refine gs_ret (gv_joinT (n := 1) (ys := rowW row) gv_str ((gn_cat (gl_lc (δ := PyData.int) (as := row) (p := fun _ => true) (f := fun x : Int => .str (numT x)) (gvi_tup (gv_var rfl d1)) (fun x v H1 hx s dx => ⟨gvt_yes, fun _ => gv_numT (gv_var rfl dx) (hl x hx)⟩) (fun _ _ => rfl) (by omega)) (gn_repL1 (k := if row.length = 0 then 1 else 0) (gl_lst (gva_cons gv_str gva_nil)) ((gv_intB rfl (gv_eqI (gv_lenT (gv_var rfl d1)) gv_int)).to ?_) (by split <;> omega)).gl ?_).gv.to ?_) (fun y hy => ?_) ?_ (by decide +kernel) rfl) fun v H2 s2 dv => q v H2 s2 dv
    · rw [List.length_map]
      by_cases e : row.length = 0
      · rw [if_pos (by rw [e]; rfl), if_pos e]; rfl
      · rw [if_neg (by simp only [decide_eq_true_eq]; omega), if_neg e]; rfl
    · rw [List.length_map, List.filter_eq_self.mpr (fun _ _ => rfl), List.length_replicate]
      split <;> omega
    · unfold rowW
      rw [List.filter_eq_self.mpr (fun _ _ => rfl), List.map_append, List.map_map, List.map_replicate]; rfl
    · unfold rowW at hy
      rcases List.mem_append.mp hy with hp | hp
      · obtain ⟨x, hx, rfl⟩ := List.mem_map.mp hp
        exact Nat.le_trans (sm_num (hl x hx)).ln (by decide)
      · rw [List.eq_of_mem_replicate hp]; decide +kernel
    · unfold rowW
      rw [List.length_append, List.length_map, List.length_replicate]
      split <;> omega
end
def nLPanT : List Str := ["_law_panel_here", "_law_words", "_law_button", "_law_other"]
theorem scLPanT : FnScope nLPanT ["_law_panel_here"] (defScope sLPanT) := ⟨rfl, rfl, rfl, by decide +kernel, rfl, by decide +kernel, by decide +kernel⟩
section
variable {P : Program} {w : World} {K : PySem.W.Frag} {mg : Str → Option Value} {base : Heap}
def spLPanT (K : PySem.W.Frag) : Sp := spP K (fun x : List (List Int) => [dPan x]) (fun x => OkT x) (fun x => .str (panT x))
theorem gv_LPanT {σ : L2.St} {H : Hp} {t : TA} {E : XK} {pan : List (List Int)} (h : GvA K t σ H [dPan pan]) (hc : OkT pan) : Gv K (tCall (spLPanT K) [] E t) σ H (.str (panT pan)) := gv_call (K := K) (δ := fun x : List (List Int) => [dPan x]) (C := fun x => OkT x) (f := fun x => .str (panT x)) pan h hc
theorem ok_LPanT  {f : Addr} {fd : FuncData} {k : Nat} (F : Fun K "_law_panel_text" "_law_panel_text" sLPanT f fd)
    (m_len : mg "len" = none) (m_range : mg "range" = none) (m_str : mg "str" = none) : FnOk P w K mg base CX0 (k + 1) f fd ["_law_panel_here"] (spLPanT K) := by
  refine F.ok scLPanT (fun vs H Q E h => ?_) (fun cdv A outer s H vs Q E hr h => ?_)
  · obtain ⟨_, hd, _⟩ := h
    exact hd.length
  · obtain ⟨pan, hd, hc, q⟩ := h
    obtain ⟨v1, rfl, d1⟩ := dpAll1 hd
    try dsimp only at hc
    try dsimp only at q
    try dsimp only at d1
    refine ⟨_, pss_cons (ps_set (i := 1) scLPanT.nd rfl (.inl rfl) (pe_lst pa_nil))
      (pss_cons (ps_for PassesOwn.never rfl (pi_range1 (by rfl) m_range (pa_cons (pe_callB (show CallR _ _ (rLenG K) from cr_lenG) (by rfl) m_len PySem.boot_len (pa_cons (pv 0) pa_nil)) pa_nil)) (pg_name (i := 2) scLPanT.nd rfl (Or.inl rfl)) (pss_one (ps_expr (show PE _ _ (tBM K "list" rAppend _ _) from pe_bm PySem.F.plainAttrs_list PySem.F.slot_list_append PySem.F.type_list_append mt_append (pv 1) (pa_cons (pe_op op_add_str (pe_op op_add_str (pe_callTy (show CallR _ _ rStrI from call_str_int) (by rfl) m_str (by decide +kernel) (pa_cons (pv 2) pa_nil)) pe_str) (pe_join pe_str (pe_lc (own := [("_law_other", 3)]) (g := gName 3) (tt := tYes) rfl scLPanT.nd (show PI _ _ _ (iTup K _) from pi_tup (pe_ix (show IxR _ (rIxT K) from ix_tup) (pv 0) (pv 2) (fun _ _ => rfl))) (blkOk_by (own := [("_law_other", 3)]) (N := nLPanT) (sc := defScope sLPanT) (by decide +kernel)) (fun _ _ _ _ _ => pg_name (i := 3) scLPanT.nd rfl (Or.inl rfl)) (fun _ _ _ _ _ => pts_nil) (fun _ _ _ _ _ => pe_callTy (show CallR _ _ rStrI from call_str_int) (by rfl) m_str (by decide +kernel) (pa_cons (pv 3) pa_nil))))) pa_nil)))))
      (pss_one (ps_ret (pe_join pe_str (pv 1))))), ?_⟩
    have few := hc.few
    have sj : Sm 1 ("," : Str) := ⟨by decide +kernel, by decide +kernel⟩
    refine gs_setN (K := K) (gn_lst gva_nil) fun D vs0 H1 s1 nD eD dv0 => ?_
    cases dv0
    refine gs_range (K := K) (n := pan.length) ((gv_lenT (gv_var rfl (d1.sm s1))).to (by rw [List.length_map])) (by omega) (fun Ha k σ H' => (∀ b o, b ≠ D → Ha b = some o → H' b = some o) ∧ Kp Ha H' ∧ H' D = some (.lst (((pan.zipIdx.take k).map fun x => listT (x.2 : Nat) x.1).map V.str)) ∧ ∃ x2 x3, σ = [some v1, some (.ref D), x2, x3])
      (fun H2 s2 => ⟨fun _ _ _ e => e, Kp.refl _, s2 _ _ eD, _, _, rfl⟩) (fun H2 k σ H3 s2 hk hP => ?_) (fun H2 σ H3 s2 hP => ?_)
    · obtain ⟨but, kp, eD3, x2, x3, rfl⟩ := hP
      have dp3 : Dp K H3 v1 (dPan pan) := ((d1.sm s1).sm s2).kp kp
      have hkl : k < pan.zipIdx.length := by rw [List.length_zipIdx]; exact hk
      have hpk : pan.getD k [] ∈ pan := by rw [List.getD_eq_getElem?_getD, List.getElem?_eq_getElem hk]; exact List.getElem_mem _
      have hsh := hc.sh _ hpk
      have hdg := hc.dg _ hpk
      have hb : Dg (k : Int) := ⟨by omega, by omega⟩
      have sn : ∀ p ∈ (pan.getD k []).map numT, Sm 1 p := fun p hp => by
        obtain ⟨x, hx, rfl⟩ := List.mem_map.mp hp
        exact sm_num (hdg x hx)
      have l1 := (sm_join sj sn).ln
      rw [List.length_map] at l1
      have l2 := (sm_num hb).ln
      have gp := gv_pan (K := K) (gv_var (σ := [some v1, some (.ref D), some (.int (k : Int)), x3]) (i := 0) rfl dp3) (gv_var (i := 2) rfl (.int (k : Int))) (by omega) (by omega)
      rw [Int.toNat_natCast] at gp
      refine ⟨.ref D, rfl, .inl ⟨rfl, _, .inl (.inl eD3)⟩, (gv_addS (K := K) (gv_addS (gv_numT (gv_var rfl (.int (k : Int))) hb) gv_str (by show _ + 1 ≤ _; omega) rfl) (gv_joinT (n := 1) (ys := (pan.getD k []).map numT) gv_str ((gv_lc (δ := PyData.int) (as := pan.getD k []) (p := fun _ => true) (f := fun x : Int => .str (numT x)) (gvi_tup gp) (fun x v H1 hx s dx => ⟨gvt_yes, fun _ => gv_numT (gv_var rfl dx) (hdg x hx)⟩) (fun _ _ => rfl) (by omega)).to (by rw [List.filter_eq_self.mpr (fun _ _ => rfl), List.map_map]; rfl)) (fun y hy => Nat.le_trans (sn y hy).ln (by decide)) (by rw [List.length_map]; omega) (by decide +kernel) rfl) (by rw [Str.length_append]; show _ + 1 + _ ≤ _; omega) rfl).at fun vt H4 s4 dt => ?_⟩
      cases dt
      have eD4 := s4 _ _ eD3
      refine ⟨D, _, _, rfl, rfl, eD4, ?_, fun b o hb e => ?_, kp.trans ((Kp.of s4).trans (Kp.upd eD4)), ?_, _, _, rfl⟩
      · rw [List.length_map, List.length_map, List.length_take]; exact small1000 (by omega)
      · rw [upd_ne hb]; exact s4 _ _ (but b o hb e)
      · rw [upd_same, List.take_add_one, List.getElem?_eq_getElem hkl, List.getElem_zipIdx]
        simp only [Option.toList_some, List.map_append, List.map_cons, List.map_nil, Nat.zero_add]
        rw [List.getD_eq_getElem?_getD, List.getElem?_eq_getElem hk]; rfl
    · obtain ⟨but, kp, eD3, x2, x3, rfl⟩ := hP
      rw [List.take_of_length_le (by rw [List.length_zipIdx]; exact Nat.le_refl _)] at eD3
      have dW : Dp K H3 (.ref D) (.list ((pan.zipIdx.map fun x => listT (x.2 : Nat) x.1).map PyData.str)) := .lst (.inl (.inl eD3)) (dpAll_strsD _)
      unfold panT at q
      have hy0 : ∀ y ∈ (pan.zipIdx.map fun x => listT (x.2 : Nat) x.1), y.length ≤ 200 := fun y hy => by
        obtain ⟨x, hx, rfl⟩ := List.mem_map.mp hy
        have hz := zip_ix hx
        have := (sm_list (b := (x.2 : Nat)) ⟨by omega, by omega⟩ (hc.dg _ hz.2)).ln
        have := hc.sh _ hz.2
        omega
      have hy1 : (pan.zipIdx.map fun x => listT (x.2 : Nat) x.1).length ≤ 100 := by rw [List.length_map, List.length_zipIdx]; omega
      generalize (pan.zipIdx.map fun x => listT (x.2 : Nat) x.1) = ws at dW q hy0 hy1
      refine gs_ret (gv_joinT (n := 1) (K := K) (ys := ws) gv_str (gv_var rfl dW) hy0 hy1 (by decide +kernel) rfl) fun v H4 s4 dv => q v H4 ?_ dv
      · refine Same.trans (fun b o e => ?_) s4
        exact but b o (ne_of_none e nD) (s2 _ _ (s1 _ _ e))
end
end K64
namespace Pr
open PySem PySem.Spec PyProof.Rows L2
theorem srt_mem {l : List Int} {x : Int} : x ∈ srt l ↔ x ∈ l := (srt_perm l).mem_iff
theorem srt_asc {l : List Int} (nd : l.Nodup) : (srt l).Pairwise (· < ·) := by
  have nd' : (srt l).Nodup := (srt_perm l).nodup_iff.mpr nd
  exact (List.Pairwise.and (srt_up l) nd').imp fun {a b} h => by have := h.1; have := h.2; omega
end Pr
namespace K64
open PySem PySem.Spec PyProof.Rows L2 Pr
def stpM (pan : List (List Int)) (l : List Int) : List Int := l.filter fun x => !((pan.getD x.toNat []).filter fun y => decide (y ∈ l)).isEmpty
def itM (pan : List (List Int)) : Nat → List Int → List Int
  | 0, l => l
  | n + 1, l => stpM pan (itM pan n l)
theorem stp_mem {pan : List (List Int)} {l : List Int} {x : Int} : x ∈ stpM pan l ↔ x ∈ l ∧ ∃ y ∈ pan.getD x.toNat [], y ∈ l := by
  unfold stpM
  rw [List.mem_filter]
  constructor
  · rintro ⟨h1, h2⟩
    refine ⟨h1, ?_⟩
    cases e : (pan.getD x.toNat []).filter fun y => decide (y ∈ l) with
    | nil => rw [e] at h2; cases h2
    | cons y r =>
      have := List.mem_filter.mp (show y ∈ (pan.getD x.toNat []).filter fun y => decide (y ∈ l) by rw [e]; exact List.mem_cons_self)
      exact ⟨y, this.1, of_decide_eq_true this.2⟩
  · rintro ⟨h1, y, h2, h3⟩
    refine ⟨h1, ?_⟩
    have : y ∈ (pan.getD x.toNat []).filter fun y => decide (y ∈ l) := List.mem_filter.mpr ⟨h2, decide_eq_true h3⟩
    cases e : (pan.getD x.toNat []).filter fun y => decide (y ∈ l) with
    | nil => rw [e] at this; cases this
    | cons y r => rfl
theorem it_succ {pan : List (List Int)} : ∀ (n : Nat) (l : List Int), itM pan (n + 1) l = itM pan n (stpM pan l)
  | 0, l => rfl
  | n + 1, l => by
    show stpM pan (itM pan (n + 1) l) = stpM pan (itM pan n (stpM pan l))
    rw [it_succ n l]
theorem it_fix {pan : List (List Int)} {l : List Int} (h : stpM pan l = l) : ∀ n : Nat, itM pan n l = l
  | 0 => rfl
  | n + 1 => by
    show stpM pan (itM pan n l) = l
    rw [it_fix h n, h]
theorem it_closed {pan : List (List Int)} : ∀ (n : Nat) (l : List Int), l.length ≤ n → Closed pan (itM pan n l)
  | 0, l, h => by
    have : l = [] := List.length_eq_zero_iff.mp (by omega)
    subst this
    intro b hb; cases hb
  | n + 1, l, h => by
    by_cases e : (stpM pan l).length < l.length
    · rw [it_succ]; exact it_closed n _ (by omega)
    · have sb : List.Sublist (stpM pan l) l := List.filter_sublist
      have e2 : stpM pan l = l := sb.eq_of_length (by have := sb.length_le; omega)
      rw [it_fix e2]
      intro b hb
      rw [← e2] at hb
      exact (stp_mem.mp hb).2
theorem it_sub {pan : List (List Int)} {l : List Int} : ∀ n : Nat, List.Sublist (itM pan n l) l
  | 0 => List.Sublist.refl _
  | n + 1 => List.filter_sublist.trans (it_sub n)
theorem it_held {pan : List (List Int)} {st : List Int} (up : st.Pairwise (· < ·)) : IsHeld pan st (itM pan st.length st) := by
  refine ⟨up.sublist (it_sub _), fun x hx => (it_sub _).subset hx, it_closed _ _ (Nat.le_refl _), fun C hC hs x hx => ?_⟩
  have : ∀ n : Nat, ∀ x ∈ C, x ∈ itM pan n st := fun n => by
    induction n with
    | zero => exact hs
    | succ n ih =>
      intro x hx
      obtain ⟨y, h1, h2⟩ := hC x hx
      exact stp_mem.mpr ⟨ih x hx, y, h1, ih y h2⟩
  exact this _ x hx
theorem it_len {pan : List (List Int)} {l : List Int} (n : Nat) : (itM pan n l).length ≤ l.length := (it_sub n).length_le
theorem ne_nilI {l : List Int} : (!PyData.eqv (.list (l.map PyData.int)) (.list [])) = !l.isEmpty := by
  cases l <;> simp [PyData.eqv, PyData.eqvAll]
theorem shp_intsL (ns : List Int) : SeqAt.shaped (.list (ns.map PyData.int)) = true := by
  obtain ⟨h1, h2⟩ := canLay_ints ns
  simp [SeqAt.shaped, PyData.canLay0, PyData.depth, h1, h2]
theorem it_heldF {pan : List (List Int)} {st : List Int} {k : Nat} (up : st.Pairwise (· < ·)) (hf : stpM pan (itM pan k st) = itM pan k st) : itM pan k st = itM pan st.length st := by
  have h1 : IsHeld pan st (itM pan k st) := by
    refine ⟨up.sublist (it_sub _), fun x hx => (it_sub _).subset hx, fun b hb => ?_, fun C hC hs x hx => ?_⟩
    · rw [← hf] at hb
      exact (stp_mem.mp hb).2
    · have : ∀ n : Nat, ∀ x ∈ C, x ∈ itM pan n st := fun n => by
        induction n with
        | zero => exact hs
        | succ n ih =>
          intro x hx
          obtain ⟨y, h1, h2⟩ := hC x hx
          exact stp_mem.mpr ⟨ih x hx, y, h1, ih y h2⟩
      exact this _ x hx
  exact h1.uniq (it_held up)
section
variable {K : PySem.W.Frag} {w : World} {σ : L2.St} {H : Hp} {t : TE}
theorem gv_sortSetL {l ms0 : List Int} {m : Nat} (h : Gv K t σ H (.list (l.map PyData.int))) (hr : ∀ x ∈ l, 0 ≤ x ∧ x < (m : Int)) (hm : m < 64) (hl : l.length ≤ 1000) (up : ms0.Pairwise (· < ·)) (mem : ∀ x, x ∈ ms0 ↔ x ∈ l) : Gv K (tCB (rSortedSet w) (tCons (tCB (rSetL' K w) (tCons t tNil)) tNil)) σ H (.list (ms0.map PyData.int)) := fun H1 s Q q => h H1 s _ fun v H2 s2 dv => by
  obtain ⟨a, xs, rfl, ha, hx⟩ := dv.lstI
  rw [dpAll_intsV hx] at ha
  refine sortSet_of (w := w) ⟨a, l, m, rfl, ha, hl, hm, hr, fun ms p H' s' ep up2 m2 np => ?_⟩
  obtain rfl : ms = ms0 := asc_ext up2 up fun x => by rw [m2 x, mem x]
  exact q _ _ (s2.trans s') (.lst (.inl (.inl ep)) (dpAll_ints _))
end
@[irreducible] def dNow (pan : List (List Int)) (st : List Int) : PyData := .tuple [dPan pan, dInts st]
theorem dNow_eq (pan : List (List Int)) (st : List Int) : dNow pan st = .tuple [dPan pan, dInts st] := by unfold dNow; rfl
def InP2 (pan : List (List Int)) (one other : Int) : Prop := 0 ≤ one ∧ one < (pan.length : Int) ∧ 0 ≤ other ∧ other < (pan.length : Int) ∧ one ≠ other
theorem set_mem {pan : List (List Int)} {i : Nat} {x l : List Int} (h : l ∈ pan.set i x) : l = x ∨ l ∈ pan := by
  rcases List.mem_or_eq_of_mem_set h with h | h
  · exact .inr h
  · exact .inl h
theorem good_set {pan : List (List Int)} (g : Good pan) {i : Nat} {x : List Int} (hi : i < pan.length) (up : x.Pairwise (· < ·)) (rng : ∀ y ∈ x, 0 ≤ y ∧ y < (pan.length : Int)) (own : (i : Int) ∉ x) : Good (pan.set i x) := by
  have hl : (pan.set i x).length = pan.length := List.length_set
  refine ⟨by rw [hl]; exact g.pos, by rw [hl]; exact g.few, fun l h => ?_, fun l h => ?_, fun j l h => ?_⟩
  · rcases set_mem h with rfl | h
    · exact up
    · exact g.up l h
  · rw [hl]
    rcases set_mem h with rfl | h
    · exact rng
    · exact g.rng l h
  · rw [List.getElem?_set] at h
    by_cases e : i = j
    · rw [if_pos e, if_pos hi] at h
      cases h
      rw [← e]; exact own
    · rw [if_neg e] at h
      exact g.own j l h
theorem rel_mem {pan : List (List Int)} {i : Nat} (hi : i < pan.length) : pan.getD i [] ∈ pan := by
  rw [List.getD_eq_getElem?_getD, List.getElem?_eq_getElem hi]; exact List.getElem_mem hi
theorem good_li {pan : List (List Int)} (g : Good pan) {one other : Int} (h : InP2 pan one other) (hn : other ∉ pan.getD one.toNat []) : Good (liM pan one other) ∧ (liM pan one other).length = pan.length ∧ liM pan one other ≠ pan := by
  obtain ⟨o0, o1, u0, u1, ne⟩ := h
  have hi : one.toNat < pan.length := by omega
  have e : liM pan one other = pan.set one.toNat (srt (pan.getD one.toNat [] ++ [other])) := by unfold liM; rw [if_neg hn]
  have hm := rel_mem hi
  have up := g.up _ hm
  rw [e]
  have nd : (pan.getD one.toNat [] ++ [other]).Nodup := by
    rw [List.nodup_append]
    refine ⟨up.imp fun {a b} h => by omega, by simp, fun x hx y hy z => ?_⟩
    rw [List.mem_singleton.mp hy] at z
    exact hn (z ▸ hx)
  have mem : ∀ x, x ∈ srt (pan.getD one.toNat [] ++ [other]) ↔ x ∈ pan.getD one.toNat [] ∨ x = other := fun x => by rw [srt_mem, List.mem_append, List.mem_singleton]
  refine ⟨good_set g hi (srt_asc nd) (fun y hy => ?_) (fun h => ?_), List.length_set, fun z => ?_⟩
  · rcases (mem y).mp hy with h | rfl
    · exact g.rng _ hm y h
    · exact ⟨u0, u1⟩
  · rcases (mem _).mp h with h | h
    · exact g.own' (b := one) o0 o1 (by rwa [show ((one.toNat : Nat) : Int) = one by omega] at h)
    · omega
  · have : (pan.set one.toNat (srt (pan.getD one.toNat [] ++ [other]))).getD one.toNat [] = pan.getD one.toNat [] := by rw [z]
    rw [List.getD_eq_getElem?_getD, List.getElem?_set, if_pos rfl, if_pos hi] at this
    replace this : srt (pan.getD one.toNat [] ++ [other]) = pan.getD one.toNat [] := this
    exact hn (by rw [← this]; exact (mem other).mpr (.inr rfl))
theorem good_un {pan : List (List Int)} (g : Good pan) {one other : Int} (h : InP2 pan one other) (hn : other ∈ pan.getD one.toNat []) : Good (unM pan one other) ∧ (unM pan one other).length = pan.length ∧ unM pan one other ≠ pan := by
  obtain ⟨o0, o1, u0, u1, ne⟩ := h
  have hi : one.toNat < pan.length := by omega
  have e : unM pan one other = pan.set one.toNat ((pan.getD one.toNat []).filter fun x => !decide (x = other)) := by unfold unM; rw [if_pos hn]
  have hm := rel_mem hi
  rw [e]
  refine ⟨good_set g hi ((g.up _ hm).filter _) (fun y hy => g.rng _ hm y (List.mem_filter.mp hy).1) (fun h => ?_), List.length_set, fun z => ?_⟩
  · exact g.own' (b := one) o0 o1 (by have := (List.mem_filter.mp h).1; rwa [show ((one.toNat : Nat) : Int) = one by omega] at this)
  · have : (pan.set one.toNat ((pan.getD one.toNat []).filter fun x => !decide (x = other))).getD one.toNat [] = pan.getD one.toNat [] := by rw [z]
    rw [List.getD_eq_getElem?_getD, List.getElem?_set, if_pos rfl, if_pos hi] at this
    replace this : (pan.getD one.toNat []).filter (fun x => !decide (x = other)) = pan.getD one.toNat [] := this
    rw [← this] at hn
    simpa using (List.mem_filter.mp hn).2
theorem pan_ok {pan : List (List Int)} (g : Good pan) : pan.length ≤ 100 ∧ ∀ l ∈ pan, l.length ≤ 60 := ⟨by have := g.few; omega, fun l hl => by
  have := pw_length (n := 10) (lo := 0) (g.up l hl) fun x hx => by have := g.rng l hl x hx; have := g.few; omega
  omega⟩
def dLk (w : Str) (one other : Int) : PyData := .tuple [.str w, .int one, .int other]
/-- an edit that can be done -/
inductive Ed (pan : List (List Int)) : PyData → List (List Int) → (List Int → List Int) → Prop
  | press {b : Int} (h0 : 0 ≤ b) (h1 : b < (pan.length : Int)) : Ed pan (.tuple [.str "press", .int b]) pan (fun st => pressM pan st b)
  | link {one other : Int} (h : InP2 pan one other) (hn : other ∉ pan.getD one.toNat []) : Ed pan (dLk "link" one other) (liM pan one other) (fun st => st)
  | unlink {one other : Int} (h : InP2 pan one other) (hn : other ∈ pan.getD one.toNat []) : Ed pan (dLk "unlink" one other) (unM pan one other) (fun st => st)
theorem Ed.good {pan pan' : List (List Int)} {d : PyData} {f : List Int → List Int} (h : Ed pan d pan' f) (g : Good pan) : Good pan' ∧ pan'.length = pan.length := by
  cases h with
  | press _ _ => exact ⟨g, rfl⟩
  | link h hn => exact ⟨(good_li g h hn).1, (good_li g h hn).2.1⟩
  | unlink h hn => exact ⟨(good_un g h hn).1, (good_un g h hn).2.1⟩
theorem Ed.asc {pan pan' : List (List Int)} {d : PyData} {f : List Int → List Int} (h : Ed pan d pan' f) (g : Good pan) {st : List Int} (hst : Asc pan.length st) : Asc pan'.length (f st) := by
  cases h with
  | press _ _ => exact pressM_asc _ _ _
  | link h hn => rw [(good_li g h hn).2.1]; exact hst
  | unlink h hn => rw [(good_un g h hn).2.1]; exact hst
end K64
namespace K64
open PySem PySem.Spec PyProof.Rows L2 Pr
def nPressed : List Str := ["_law_panel_here", "_law_latched_here", "_law_button", "_law_rest", "_law_other"]
theorem scPressed : FnScope nPressed ["_law_panel_here", "_law_latched_here", "_law_button"] (defScope sPressed) := ⟨rfl, rfl, rfl, by decide +kernel, rfl, by decide +kernel, by decide +kernel⟩
section
variable {P : Program} {w : World} {K : PySem.W.Frag} {mg : Str → Option Value} {base : Heap}
def spPressed (K : PySem.W.Frag) : Sp := spP K (fun x : List (List Int) × List Int × Int => [dPan x.1, dInts x.2.1, .int x.2.2]) (fun x => Good x.1 ∧ Asc x.1.length x.2.1 ∧ 0 ≤ x.2.2 ∧ x.2.2 < (x.1.length : Int)) (fun x => dInts (pressM x.1 x.2.1 x.2.2))
theorem gv_Pressed {σ : L2.St} {H : Hp} {t : TA} {E : XK} {pan : List (List Int)} {st : List Int} {b : Int} (h : GvA K t σ H [dPan pan, dInts st, .int b]) (hc : Good pan ∧ Asc pan.length st ∧ 0 ≤ b ∧ b < (pan.length : Int)) : Gv K (tCall (spPressed K) [] E t) σ H (dInts (pressM pan st b)) := gv_call (K := K) (δ := fun x : List (List Int) × List Int × Int => [dPan x.1, dInts x.2.1, .int x.2.2]) (C := fun x => Good x.1 ∧ Asc x.1.length x.2.1 ∧ 0 ≤ x.2.2 ∧ x.2.2 < (x.1.length : Int)) (f := fun x => dInts (pressM x.1 x.2.1 x.2.2)) (pan, st, b) h hc
theorem ok_Pressed  {f : Addr} {fd : FuncData} {k : Nat} (F : Fun K "_law_pressed" "_law_pressed" sPressed f fd)
    (m_set : mg "set" = none) (m_sorted : mg "sorted" = none) (m_tuple : mg "tuple" = none) : FnOk P w K mg base CX0 (k + 1) f fd ["_law_panel_here", "_law_latched_here", "_law_button"] (spPressed K) := by
  refine F.ok scPressed (fun vs H Q E h => ?_) (fun cdv A outer s H vs Q E hr h => ?_)
  · obtain ⟨_, hd, _⟩ := h
    exact hd.length
  · obtain ⟨⟨pan, st, b⟩, hd, hc, q⟩ := h
    obtain ⟨v1, v2, v3, rfl, d1, d2, d3⟩ := dpAll3 hd
    try dsimp only at hc
    try dsimp only at q
    try dsimp only at d1 d2 d3
    refine ⟨_, pss_cons (ps_setLc (i := 3) (own := [("_law_other", 4)]) (g := gName 4) rfl scPressed.nd rfl rfl (sw_true rfl rfl rfl (by decide +kernel)) (show PI _ _ _ (iTup K _) from pi_tup (pv 1)) (blkOk_by (own := [("_law_other", 4)]) (N := nPressed) (sc := defScope sPressed) (by decide +kernel)) (fun _ _ _ _ _ => pg_name (i := 4) scPressed.nd rfl (Or.inl rfl)) (fun _ _ _ _ _ => pts_one (pt_cmpR (show OpR _ _ (rIn K true) from op_notIn_seq) (pv 4) (pe_ix (show IxR _ (rIxT K) from ix_tup) (pv 0) (pv 2) (fun _ _ => rfl)) (by rfl))) (fun _ _ _ _ _ => pv 4))
      (pss_one (ps_ret (pe_callTy (show CallR _ _ (rTupG K) from cr_tupG) (by rfl) m_tuple (by decide +kernel) (pa_cons (pe_callB (show CallR _ _ (rSortedSet w) from cr_sortedSet rfl) (by rfl) m_sorted (by decide +kernel) (pa_cons (pe_callTy (show CallR _ _ (rSetL' K w) from cr_setL rfl) (by rfl) m_set (by decide +kernel) (pa_cons (pe_op op_cat (pv 3) (pe_lst (pa_cons (pv 2) pa_nil))) pa_nil)) pa_nil)) pa_nil)))), ?_⟩
    obtain ⟨hg, hst, b0, b1⟩ := hc
    have few := hg.few
    have stl := hst.len
    have fl := List.length_filter_le (fun x => !decide (x ∈ pan.getD b.toNat [])) st
    refine gs_setL (K := K) (gl_lc (δ := PyData.int) (as := st) (p := fun x => !decide (x ∈ pan.getD b.toNat [])) (f := PyData.int) (gvi_tup (gv_var rfl d2)) (fun x vx H2 hx s2 dx => ⟨gvt_test (gv_inT (neg := true) (gv_var rfl dx) (gv_pan (gv_var rfl (d1.sm s2)) (gv_var rfl (d3.sm s2)) b0 b1)), fun _ => gv_var rfl dx⟩) (fun _ _ => rfl) (by omega)) fun a vs H1 s1 ea da => ?_
    refine gs_ret (K := K) (gv_tupL (gv_sortSetL (l := st.filter (fun x => !decide (x ∈ pan.getD b.toNat [])) ++ [b]) (ms0 := pressM pan st b) (m := 10) ((gn_cat (gl_var rfl ea da) (gl_lst (gva_cons (gv_var rfl (d3.sm s1)) gva_nil)) ?_).gv.to ?_) (fun x hx => ?_) (by decide) ?_ (pressM_asc _ _ _).up (fun x => ?_))) fun v H2 s2 dv => q v H2 (s1.trans s2) dv
    · rw [List.length_map]; show _ + 1 ≤ _; omega
    · rw [List.map_append]; rfl
    · rcases List.mem_append.mp hx with h | h
      · have := hst.rng x (List.mem_filter.mp h).1; omega
      · rw [List.mem_singleton.mp h]; omega
    · rw [List.length_append]; show _ + 1 ≤ _; omega
    · rw [mem_pressM, List.mem_append, List.mem_filter, List.mem_singleton]
      constructor
      · rintro ⟨h, rfl | ⟨h1, h2⟩⟩
        · exact .inr rfl
        · exact .inl ⟨h1, by rw [decide_eq_false h2]; rfl⟩
      · rintro (⟨h1, h2⟩ | rfl)
        · exact ⟨hst.rng x h1, .inr ⟨h1, by rw [Bool.not_eq_true'] at h2; exact of_decide_eq_false h2⟩⟩
        · exact ⟨⟨b0, b1⟩, .inl rfl⟩
end
def nChanged : List Str := ["_law_panel_here", "_law_one", "_law_other", "_law_is_linked", "_law_row", "_law_k"]
theorem scChanged : FnScope nChanged ["_law_panel_here", "_law_one", "_law_other", "_law_is_linked"] (defScope sChanged) := ⟨rfl, rfl, rfl, by decide +kernel, rfl, by decide +kernel, by decide +kernel⟩
section
variable {P : Program} {w : World} {K : PySem.W.Frag} {mg : Str → Option Value} {base : Heap}
def spChanged (K : PySem.W.Frag) : Sp := spP K (fun x : List (List Int) × Int × Int × Bool => [dPan x.1, .int x.2.1, .int x.2.2.1, .bool x.2.2.2]) (fun x => Good x.1 ∧ InP2 x.1 x.2.1 x.2.2.1 ∧ (x.2.2.2 = true → x.2.2.1 ∉ x.1.getD x.2.1.toNat []) ∧ (x.2.2.2 = false → x.2.2.1 ∈ x.1.getD x.2.1.toNat [])) (fun x => dPan (if x.2.2.2 then liM x.1 x.2.1 x.2.2.1 else unM x.1 x.2.1 x.2.2.1))
theorem gv_Changed {σ : L2.St} {H : Hp} {t : TA} {E : XK} {pan : List (List Int)} {one : Int} {other : Int} {fl : Bool} (h : GvA K t σ H [dPan pan, .int one, .int other, .bool fl]) (hc : Good pan ∧ InP2 pan one other ∧ (fl = true → other ∉ pan.getD one.toNat []) ∧ (fl = false → other ∈ pan.getD one.toNat [])) : Gv K (tCall (spChanged K) [] E t) σ H (dPan (if fl then liM pan one other else unM pan one other)) := gv_call (K := K) (δ := fun x : List (List Int) × Int × Int × Bool => [dPan x.1, .int x.2.1, .int x.2.2.1, .bool x.2.2.2]) (C := fun x => Good x.1 ∧ InP2 x.1 x.2.1 x.2.2.1 ∧ (x.2.2.2 = true → x.2.2.1 ∉ x.1.getD x.2.1.toNat []) ∧ (x.2.2.2 = false → x.2.2.1 ∈ x.1.getD x.2.1.toNat [])) (f := fun x => dPan (if x.2.2.2 then liM x.1 x.2.1 x.2.2.1 else unM x.1 x.2.1 x.2.2.1)) (pan, one, other, fl) h hc
theorem ok_Changed  {f : Addr} {fd : FuncData} {k : Nat} (F : Fun K "_law_changed" "_law_changed" sChanged f fd)
    (m_int : mg "int" = none) (m_set : mg "set" = none) (m_sorted : mg "sorted" = none) (m_tuple : mg "tuple" = none) : FnOk P w K mg base CX0 (k + 1) f fd ["_law_panel_here", "_law_one", "_law_other", "_law_is_linked"] (spChanged K) := by
  refine F.ok scChanged (fun vs H Q E h => ?_) (fun cdv A outer s H vs Q E hr h => ?_)
  · obtain ⟨_, hd, _⟩ := h
    exact hd.length
  · obtain ⟨⟨pan, one, other, fl⟩, hd, hc, q⟩ := h
    obtain ⟨v1, v2, v3, v4, rfl, d1, d2, d3, d4⟩ := dpAll4 hd
    try dsimp only at hc
    try dsimp only at q
    try dsimp only at d1 d2 d3 d4
    refine ⟨_, pss_cons (ps_set (i := 4) scChanged.nd rfl (.inl rfl) (pe_callB (show CallR _ _ (rSortedSet w) from cr_sortedSet rfl) (by rfl) m_sorted (by decide +kernel) (pa_cons (pe_callTy (show CallR _ _ (rSetL' K w) from cr_setL rfl) (by rfl) m_set (by decide +kernel) (pa_cons (pe_op op_cat (pe_lc (own := [("_law_k", 5)]) (g := gName 5) rfl scChanged.nd (show PI _ _ _ (iTup K _) from pi_tup (pe_ix (show IxR _ (rIxT K) from ix_tup) (pv 0) (pv 1) (fun _ _ => rfl))) (blkOk_by (own := [("_law_k", 5)]) (N := nChanged) (sc := defScope sChanged) (by decide +kernel)) (fun _ _ _ _ _ => pg_name (i := 5) scChanged.nd rfl (Or.inl rfl)) (fun _ _ _ _ _ => pts_one (pt_cmpR op_ne (pv 5) (pv 2) (nomark _))) (fun _ _ _ _ _ => pv 5)) (pe_op op_rep (pe_lst (pa_cons (pv 2) pa_nil)) (pe_callTy call_int1 (by rfl) m_int (by decide +kernel) (pa_cons (pv 3) pa_nil)))) pa_nil)) pa_nil)))
      (pss_one (ps_ret (pe_op (show OpR _ _ (rCatS K) from op_catS) (pe_op (show OpR _ _ (rCatS K) from op_catS) (pe_slice (show SlR _ (rSlS K) from sl_tupS) (pv 0) po_none (po_some (pv 1))) (pe_tup (pa_cons (pe_callTy (show CallR _ _ (rTupG K) from cr_tupG) (by rfl) m_tuple (by decide +kernel) (pa_cons (pv 4) pa_nil)) pa_nil))) (pe_slice (show SlR _ (rSlS K) from sl_tupS) (pv 0) (po_some (pe_op op_add (pv 1) pe_int)) po_none)))), ?_⟩
    obtain ⟨hg, hI, hf1, hf2⟩ := hc
    obtain ⟨o0, o1, u0, u1, ne⟩ := hI
    have few := hg.few
    have hi : one.toNat < pan.length := by omega
    have ok := pan_ok hg
    have hrl := ok.2 _ (rel_mem hi)
    have hup := hg.up _ (rel_mem hi)
    have hrg := hg.rng _ (rel_mem hi)
    have gone : one = ((one.toNat : Nat) : Int) := by omega
    have hlp : (pan.map dInts).length = pan.length := List.length_map _
    have fl60 := List.length_filter_le (fun x => !decide (x = other)) (pan.getD one.toNat [])
    obtain ⟨R, hR⟩ : ∃ R, R = (if fl then srt (pan.getD one.toNat [] ++ [other]) else (pan.getD one.toNat []).filter fun x => !decide (x = other)) := ⟨_, rfl⟩
    have rup : R.Pairwise (· < ·) := by
      rw [hR]
      cases fl with
      | true => exact srt_asc (List.nodup_append.mpr ⟨hup.imp fun h => by omega, by simp, fun x hx y hy => by rw [List.mem_singleton.mp hy]; rintro rfl; exact hf1 rfl hx⟩)
      | false => exact hup.filter _
    have rl : R.length ≤ 61 := by
      rw [hR]
      cases fl with
      | true => rw [if_pos rfl, (srt_perm _).length_eq, List.length_append]; show _ + 1 ≤ _; omega
      | false => rw [if_neg Bool.false_ne_true]; omega
    have rmem : ∀ x, x ∈ R ↔ x ∈ ((pan.getD one.toNat []).filter fun x => !decide (x = other)) ++ (if fl then [other] else []) := fun x => by
      rw [hR, List.mem_append, List.mem_filter]
      cases fl with
      | true =>
        rw [if_pos rfl, if_pos rfl, (srt_perm _).mem_iff, List.mem_append, List.mem_singleton]
        constructor
        · rintro (h | h)
          · by_cases e : x = other
            · exact .inr e
            · exact .inl ⟨h, by simp [e]⟩
          · exact .inr h
        · rintro (⟨h, _⟩ | h)
          · exact .inl h
          · exact .inr h
      | false =>
        rw [if_neg Bool.false_ne_true, if_neg Bool.false_ne_true, List.mem_filter]
        simp
    refine gs_set1 (K := K) (gv_sortSetL (l := ((pan.getD one.toNat []).filter fun x => !decide (x = other)) ++ (if fl then [other] else [])) (ms0 := R) (m := 10) ((gn_cat (gl_lc (δ := PyData.int) (as := pan.getD one.toNat []) (p := fun x => !decide (x = other)) (f := PyData.int) (gvi_tup (gv_pan (gv_var rfl d1) (gv_var rfl d2) o0 o1)) (fun x vx H2 hx s2 dx => ⟨gvt_test (gv_neI (gv_var rfl dx) (gv_var rfl (d3.sm s2))), fun _ => gv_var rfl dx⟩) (fun _ _ => rfl) (by omega)) (gn_repL1 (k := if fl then 1 else 0) (gl_lst (gva_cons (gv_var rfl d3) gva_nil)) ((gv_intB rfl (gv_var rfl d4)).to (by cases fl <;> rfl)) (by split <;> omega)).gl (by rw [List.length_map, List.length_replicate]; split <;> omega)).gv.to ?_) (fun x hx => ?_) (by decide) ?_ rup rmem) fun a H1 s1 da => ?_
    · rw [List.map_append]; cases fl <;> rfl
    · rcases List.mem_append.mp hx with h | h
      · have := hrg x (List.mem_filter.mp h).1; omega
      · cases fl with
        | true => rw [if_pos rfl] at h; rw [List.mem_singleton.mp h]; omega
        | false => rw [if_neg Bool.false_ne_true] at h; cases h
    · rw [List.length_append]; have hk : (if fl = true then [other] else ([] : List Int)).length ≤ 1 := (by cases fl <;> simp); omega
    have e2 : (if fl then liM pan one other else unM pan one other) = pan.take one.toNat ++ ([R] ++ pan.drop (one.toNat + 1)) := by
      have hset : ∀ x, pan.take one.toNat ++ ([x] ++ pan.drop (one.toNat + 1)) = pan.set one.toNat x := fun x => by rw [List.set_eq_take_append_cons_drop, if_pos hi]; rfl
      rw [hset, hR]
      cases fl with
      | true =>
        have hn := hf1 rfl
        rw [if_pos rfl, if_pos rfl]
        unfold liM
        rw [if_neg hn]
      | false =>
        have hn := hf2 rfl
        rw [if_neg Bool.false_ne_true, if_neg Bool.false_ne_true]
        unfold unM
        rw [if_pos hn]
    refine gs_ret (K := K) ((gv_catT (gv_catT (gv_cutToG (k := one.toNat) (gv_var rfl (d1.sm s1)) ((gv_var rfl (d2.sm s1)).to (by rw [← gone])) (by rw [hlp]; omega)) (gv_tup (gva_cons (gv_tupL (gv_var rfl da)) gva_nil)) (by rw [List.length_take, hlp]; show _ + 1 ≤ _; omega)) (gv_cutFromG (k := one.toNat + 1) (gv_var rfl (d1.sm s1)) ((gv_add (gv_var rfl (d2.sm s1)) gv_int).to (by rw [gone]; rfl)) (by rw [hlp]; omega)) (by rw [List.length_append, List.length_take, List.length_drop, hlp]; show _ + 1 + _ ≤ _; omega)).to ?_) fun v H2 s2 dv => q v H2 (s1.trans s2) dv
    rw [e2]
    unfold dPan
    rw [List.map_append, List.map_append, ← List.map_take, ← List.map_drop, List.append_assoc]
    rfl
end
def nAfter : List Str := ["_law_now", "_law_edit_here"]
theorem scAfter : FnScope nAfter ["_law_now", "_law_edit_here"] (defScope sAfter) := ⟨rfl, rfl, rfl, by decide +kernel, rfl, by decide +kernel, by decide +kernel⟩
section
variable {P : Program} {w : World} {K : PySem.W.Frag} {mg : Str → Option Value} {base : Heap}
def spAfter (K : PySem.W.Frag) : Sp := spP K (fun x : List (List Int) × List Int × PyData × List (List Int) × (List Int → List Int) => [dNow x.1 x.2.1, x.2.2.1]) (fun x => Good x.1 ∧ Asc x.1.length x.2.1 ∧ Ed x.1 x.2.2.1 x.2.2.2.1 x.2.2.2.2) (fun x => dNow x.2.2.2.1 (x.2.2.2.2 x.2.1))
theorem gv_After {σ : L2.St} {H : Hp} {t : TA} {E : XK} {pan : List (List Int)} {st : List Int} {d0 : PyData} {pan2 : List (List Int)} {g0 : List Int → List Int} (h : GvA K t σ H [dNow pan st, d0]) (hc : Good pan ∧ Asc pan.length st ∧ Ed pan d0 pan2 g0) : Gv K (tCall (spAfter K) [] E t) σ H (dNow pan2 (g0 st)) := gv_call (K := K) (δ := fun x : List (List Int) × List Int × PyData × List (List Int) × (List Int → List Int) => [dNow x.1 x.2.1, x.2.2.1]) (C := fun x => Good x.1 ∧ Asc x.1.length x.2.1 ∧ Ed x.1 x.2.2.1 x.2.2.2.1 x.2.2.2.2) (f := fun x => dNow x.2.2.2.1 (x.2.2.2.2 x.2.1)) (pan, st, d0, pan2, g0) h hc
theorem ok_After {fPressed : Addr} {fdPressed : FuncData} {fChanged : Addr} {fdChanged : FuncData} {f : Addr} {fd : FuncData} {k : Nat} (F : Fun K "_law_after" "_law_after" sAfter f fd)
    (FPressed : Fun K "_law_pressed" "_law_pressed" sPressed fPressed fdPressed) (bPressed : Binds K fdPressed ["_law_panel_here", "_law_latched_here", "_law_button"] []) (gPressed : mg "_law_pressed" = some (.ref fPressed))
    (FChanged : Fun K "_law_changed" "_law_changed" sChanged fChanged fdChanged) (bChanged : Binds K fdChanged ["_law_panel_here", "_law_one", "_law_other", "_law_is_linked"] []) (gChanged : mg "_law_changed" = some (.ref fChanged))
    (m_int : mg "int" = none) (m_set : mg "set" = none) (m_sorted : mg "sorted" = none) (m_tuple : mg "tuple" = none) : FnOk P w K mg base CX0 (k + 2) f fd ["_law_now", "_law_edit_here"] (spAfter K) := by
  have GPressed : FnOk P w K mg base CX0 (k + 1) fPressed fdPressed ["_law_panel_here", "_law_latched_here", "_law_button"] (spPressed K) := ok_Pressed FPressed m_set m_sorted m_tuple
  have GChanged : FnOk P w K mg base CX0 (k + 1) fChanged fdChanged ["_law_panel_here", "_law_one", "_law_other", "_law_is_linked"] (spChanged K) := ok_Changed FChanged m_int m_set m_sorted m_tuple
  refine F.ok scAfter (fun vs H Q E h => ?_) (fun cdv A outer s H vs Q E hr h => ?_)
  · obtain ⟨_, hd, _⟩ := h
    exact hd.length
  · obtain ⟨⟨pan, st, d0, pan2, g0⟩, hd, hc, q⟩ := h
    obtain ⟨v1, v2, rfl, d1, d2⟩ := dpAll2 hd
    try dsimp only at hc
    try dsimp only at q
    try dsimp only at d1 d2
    refine ⟨_, pss_cons (ps_if (pt_cmpR op_eq (pe_ix (show IxR _ (rIxT K) from ix_tup) (pv 1) pe_int (fun _ _ => rfl)) pe_str (nomark _)) (pss_one (ps_ret (pe_tup (pa_cons (pe_ix (show IxR _ (rIxT K) from ix_tup) (pv 0) pe_int (fun _ _ => rfl)) (pa_cons (pe_call GPressed (hr.mono (by omega)) (by rfl) gPressed FPressed.kp bPressed .nil pass0 (pa_cons (pe_ix (show IxR _ (rIxT K) from ix_tup) (pv 0) pe_int (fun _ _ => rfl)) (pa_cons (pe_ix (show IxR _ (rIxT K) from ix_tup) (pv 0) pe_int (fun _ _ => rfl)) (pa_cons (pe_ix (show IxR _ (rIxT K) from ix_tup) (pv 1) pe_int (fun _ _ => rfl)) pa_nil)))) pa_nil))))) pss_nil)
      (pss_one (ps_ret (pe_tup (pa_cons (pe_call GChanged (hr.mono (by omega)) (by rfl) gChanged FChanged.kp bChanged .nil pass0 (pa_cons (pe_ix (show IxR _ (rIxT K) from ix_tup) (pv 0) pe_int (fun _ _ => rfl)) (pa_cons (pe_ix (show IxR _ (rIxT K) from ix_tup) (pv 1) pe_int (fun _ _ => rfl)) (pa_cons (pe_ix (show IxR _ (rIxT K) from ix_tup) (pv 1) pe_int (fun _ _ => rfl)) (pa_cons (pe_cmpR op_eq (pe_ix (show IxR _ (rIxT K) from ix_tup) (pv 1) pe_int (fun _ _ => rfl)) pe_str (nomark _)) pa_nil))))) (pa_cons (pe_ix (show IxR _ (rIxT K) from ix_tup) (pv 0) pe_int (fun _ _ => rfl)) pa_nil))))), ?_⟩
    obtain ⟨hg, hst, hE⟩ := hc
    rw [dNow_eq] at d1
    cases hE with
    | press h0 h1 =>
      refine gs_if1 (gvt_test (K := K) (gv_eqS (gv_ixT (j := 0) (gv_var rfl d2) gv_int rfl rfl) gv_str)) (fun _ H1 s1 => ?_) (fun z => by simp at z)
      refine gs_ret (K := K) ((gv_tup (gva_cons (gv_ixT (j := 0) (gv_var rfl (d1.sm s1)) gv_int rfl rfl) (gva_cons (gv_Pressed (gva_cons (gv_ixT (j := 0) (gv_var rfl (d1.sm s1)) gv_int rfl rfl) (gva_cons (gv_ixT (j := 1) (gv_var rfl (d1.sm s1)) gv_int rfl rfl) (gva_cons (gv_ixT (j := 1) (d := .int _) (gv_var rfl (d2.sm s1)) gv_int rfl rfl) gva_nil))) ⟨hg, hst, h0, h1⟩) gva_nil))).to (dNow_eq _ _).symm) fun v H2 s2 dv => q v H2 (s1.trans s2) dv
    | link h hn =>
      refine gs_no (gvt_test (K := K) (gv_eqS (gv_ixT (j := 0) (gv_var rfl d2) gv_int rfl rfl) gv_str)) (by decide +kernel) fun H1 s1 => ?_
      refine gs_ret (K := K) ((gv_tup (gva_cons (gv_Changed (K := K) (fl := true) (gva_cons (gv_ixT (j := 0) (gv_var rfl (d1.sm s1)) gv_int rfl rfl) (gva_cons (gv_ixT (j := 1) (gv_var rfl (d2.sm s1)) gv_int rfl rfl) (gva_cons (gv_ixT (j := 2) (gv_var rfl (d2.sm s1)) gv_int rfl rfl) (gva_cons ((gv_eqS (gv_ixT (j := 0) (gv_var rfl (d2.sm s1)) gv_int rfl rfl) gv_str).to (by rw [decide_eq_true rfl])) gva_nil)))) ⟨hg, h, fun _ => hn, (fun z => by cases z)⟩) (gva_cons (gv_ixT (j := 1) (gv_var rfl (d1.sm s1)) gv_int rfl rfl) gva_nil))).to (by rw [dNow_eq]; rfl)) fun v H2 s2 dv => q v H2 (s1.trans s2) dv
    | unlink h hn =>
      refine gs_no (gvt_test (K := K) (gv_eqS (gv_ixT (j := 0) (gv_var rfl d2) gv_int rfl rfl) gv_str)) (by decide +kernel) fun H1 s1 => ?_
      refine gs_ret (K := K) ((gv_tup (gva_cons (gv_Changed (K := K) (fl := false) (gva_cons (gv_ixT (j := 0) (gv_var rfl (d1.sm s1)) gv_int rfl rfl) (gva_cons (gv_ixT (j := 1) (gv_var rfl (d2.sm s1)) gv_int rfl rfl) (gva_cons (gv_ixT (j := 2) (gv_var rfl (d2.sm s1)) gv_int rfl rfl) (gva_cons ((gv_eqS (gv_ixT (j := 0) (gv_var rfl (d2.sm s1)) gv_int rfl rfl) gv_str).to (by rw [decide_eq_false (by decide +kernel)])) gva_nil)))) ⟨hg, h, (fun z => by cases z), fun _ => hn⟩) (gva_cons (gv_ixT (j := 1) (gv_var rfl (d1.sm s1)) gv_int rfl rfl) gva_nil))).to (by rw [dNow_eq]; rfl)) fun v H2 s2 dv => q v H2 (s1.trans s2) dv
end
def nLHeld : List Str := ["_law_panel_here", "_law_latched_here", "_law_left", "_law_count", "_law_button", "_law_other"]
theorem scLHeld : FnScope nLHeld ["_law_panel_here", "_law_latched_here"] (defScope sLHeld) := ⟨rfl, rfl, rfl, by decide +kernel, rfl, by decide +kernel, by decide +kernel⟩
section
variable {P : Program} {w : World} {K : PySem.W.Frag} {mg : Str → Option Value} {base : Heap}
def spLHeld (K : PySem.W.Frag) : Sp := spP K (fun x : List (List Int) × List Int => [dPan x.1, dInts x.2]) (fun x => Good x.1 ∧ Asc x.1.length x.2) (fun x => dInts (itM x.1 x.2.length x.2))
theorem gv_LHeld {σ : L2.St} {H : Hp} {t : TA} {E : XK} {pan : List (List Int)} {st : List Int} (h : GvA K t σ H [dPan pan, dInts st]) (hc : Good pan ∧ Asc pan.length st) : Gv K (tCall (spLHeld K) [] E t) σ H (dInts (itM pan st.length st)) := gv_call (K := K) (δ := fun x : List (List Int) × List Int => [dPan x.1, dInts x.2]) (C := fun x => Good x.1 ∧ Asc x.1.length x.2) (f := fun x => dInts (itM x.1 x.2.length x.2)) (pan, st) h hc
theorem ok_LHeld  {f : Addr} {fd : FuncData} {k : Nat} (F : Fun K "_law_held" "_law_held" sLHeld f fd)
    (m_len : mg "len" = none) (m_list : mg "list" = none) (m_tuple : mg "tuple" = none) : FnOk P w K mg base CX0 (k + 1) f fd ["_law_panel_here", "_law_latched_here"] (spLHeld K) := by
  refine F.ok scLHeld (fun vs H Q E h => ?_) (fun cdv A outer s H vs Q E hr h => ?_)
  · obtain ⟨_, hd, _⟩ := h
    exact hd.length
  · obtain ⟨⟨pan, st⟩, hd, hc, q⟩ := h
    obtain ⟨v1, v2, rfl, d1, d2⟩ := dpAll2 hd
    try dsimp only at hc
    try dsimp only at q
    try dsimp only at d1 d2
    refine ⟨_, pss_cons (ps_asg (pe_tup (pa_cons (pe_callTy (show CallR _ _ (rListG K) from call_listG) (by rfl) m_list (by decide +kernel) (pa_cons (pv 1) pa_nil)) (pa_cons (pe_un un_neg pe_int) pa_nil))) (pg_tup rfl (pgs_cons (pg_name (i := 2) scLHeld.nd rfl (Or.inr rfl)) (pgs_cons (pg_name (i := 3) scLHeld.nd rfl (Or.inl rfl)) pgs_nil))))
      (pss_cons (ps_while PassesOwn.never (pt_cmpR op_ne (pv 3) (pe_callB (show CallR _ _ (rLenG K) from cr_lenG) (by rfl) m_len PySem.boot_len (pa_cons (pv 2) pa_nil)) (nomark _)) (pss_cons (ps_set (i := 3) scLHeld.nd rfl (.inl rfl) (pe_callB (show CallR _ _ (rLenG K) from cr_lenG) (by rfl) m_len PySem.boot_len (pa_cons (pv 2) pa_nil)))
      (pss_one (ps_set (i := 2) scLHeld.nd rfl (.inr rfl) (pe_lc (own := [("_law_button", 4)]) (g := gName 4) rfl scLHeld.nd (show PI _ _ _ (iList K _) from pi_list (pv 2)) (blkOk_by (own := [("_law_button", 4)]) (N := nLHeld) (sc := defScope sLHeld) (by decide +kernel)) (fun _ _ _ _ _ => pg_name (i := 4) scLHeld.nd rfl (Or.inl rfl)) (fun _ _ _ _ _ => pts_one (pt_cmpR (show OpR _ _ (rNeD K) from op_neD hr.units) (pe_lc (own := [("_law_other", 5)]) (g := gName 5) rfl scLHeld.nd (show PI _ _ _ (iTup K _) from pi_tup (pe_ix (show IxR _ (rIxT K) from ix_tup) (pv 0) (pv 4) (fun _ _ => rfl))) (blkOk_by (own := [("_law_other", 5)]) (N := nLHeld) (sc := { kind := .function, names := [(".0", .local), ("_law_button", .local), ("_law_left", .cell), ("_law_panel_here", .cell)], isGenerator := false, isCoroutine := false }) (by decide +kernel)) (fun _ _ _ _ _ => pg_name (i := 5) scLHeld.nd rfl (Or.inl rfl)) (fun _ _ _ _ _ => pts_one (pt_cmpR (show OpR _ _ (rIn K false) from op_in_seq) (pv 5) (pv 2) (by rfl))) (fun _ _ _ _ _ => pv 5)) (pe_lst pa_nil) (nomark _))) (fun _ _ _ _ _ => pv 4))))))
      (pss_one (ps_ret (pe_callTy (show CallR _ _ (rTupG K) from cr_tupG) (by rfl) m_tuple (by decide +kernel) (pa_cons (pv 2) pa_nil))))), ?_⟩
    obtain ⟨hg, hst⟩ := hc
    have few := hg.few
    have sl := hst.len
    have hls : (st.map PyData.int).length = st.length := List.length_map _
    refine gs_two (K := K) (i := 2) (j := 3) (gv_tup (gva_cons (gv_lstT (gv_var rfl d2)) (gva_cons (gv_neg gv_int) gva_nil))) fun vf vn H1 s1 df dn => ?_
    cases dn
    refine ⟨fun mm σ H' => Same H1 H' ∧ ∃ (k : Nat) (c : Int) (vf : V) (x4 x5 : Option V), mm = (itM pan k st).length + (if c = ((itM pan k st).length : Int) then 0 else 1) ∧ (c = ((itM pan k st).length : Int) → stpM pan (itM pan k st) = itM pan k st) ∧ Dp K H' vf (.list ((itM pan k st).map PyData.int)) ∧ σ = [some v1, some v2, some vf, some (.int c), x4, x5],
      ⟨_, Same.refl _, 0, -1, vf, _, _, rfl, (fun z => by have : (-1 : Int) = ((itM pan 0 st).length : Int) := z; omega), df, rfl⟩, ?_⟩
    rintro mm σ H2 ⟨s2, k, c, vf, x4, x5, rfl, hfix, df2, rfl⟩
    have il := it_len (pan := pan) (l := st) k
    have hlk : ((itM pan k st).map PyData.int).length = (itM pan k st).length := List.length_map _
    refine (gvt_test (K := K) (gv_neI (gv_var rfl (.int c)) ((gv_lenL (gv_var rfl df2)).to (by rw [hlk])))).at fun H3 s3 => ?_
    by_cases hc : c = ((itM pan k st).length : Int)
    · rw [decide_eq_true hc]
      refine ite2 (fun e => by cases e) (fun _ => ?_)
      rw [it_heldF hst.up (hfix hc)] at df2
      exact gs_ret (K := K) (gv_tupL (gv_var rfl (df2.sm s3))) fun v H4 s4 dv => q v H4 ((s1.trans s2).trans (s3.trans s4)) dv
    · rw [decide_eq_false hc]
      refine ite2 (fun _ => ?_) (fun e => absurd rfl e)
      have df3 := df2.sm s3
      refine ⟨_, fun σ' H' h => h, ?_⟩
      refine gs_set1 (K := K) ((gv_lenL (gv_var (i := 2) rfl df3)).to (by rw [hlk])) fun vn H4 s4 dn => ?_
      cases dn
      have d14 := (((d1.sm s1).sm s2).sm s3).sm s4
      have df4 := df3.sm s4
      refine gs_set (K := K) (gv_lc (δ := PyData.int) (as := itM pan k st) (p := fun x => !((pan.getD x.toNat []).filter fun y => decide (y ∈ itM pan k st)).isEmpty) (f := PyData.int) (gvi_list (gv_var rfl df4)) (fun x vx H5 hx s5 dx => ?_) (fun _ _ => rfl) (by omega)) fun vg H5 s5 dg => ?_
      · have hxr := hst.rng x ((it_sub k).subset hx)
        refine ⟨(gvt_test (gv_neD (gv_lc (δ := PyData.int) (as := pan.getD x.toNat []) (p := fun y => decide (y ∈ itM pan k st)) (f := PyData.int) (gvi_tup (gv_pan (gv_var rfl (d14.sm s5)) (gv_var rfl dx) hxr.1 hxr.2)) (fun y vy H6 hy s6 dy => ⟨gvt_test ((gv_inL (neg := false) (gv_var rfl dy) (gv_var rfl ((df4.sm s5).sm s6))).to (by rw [if_neg Bool.false_ne_true])), fun _ => gv_var rfl dy⟩) (fun _ _ => rfl) ?_) (gv_lst gva_nil) (shp_intsL _) rfl)).to ?_, fun _ => gv_var rfl dx⟩
        · have := (pan_ok hg).2 _ (rel_mem (pan := pan) (i := x.toNat) (by omega))
          omega
        · exact ne_nilI
      · have sb : List.Sublist (stpM pan (itM pan k st)) (itM pan k st) := List.filter_sublist
        have sbl := sb.length_le
        have e1 : itM pan (k + 1) st = stpM pan (itM pan k st) := rfl
        refine ⟨_, ?_, s2.trans ((s3.trans s4).trans s5), k + 1, _, vg, _, _, rfl, fun z => ?_, dg, rfl⟩
        · rw [e1, if_neg hc]; split <;> omega
        · rw [e1] at z ⊢
          have : stpM pan (itM pan k st) = itM pan k st := sb.eq_of_length (by omega)
          rw [this]; exact this
end
end K64
namespace K64D
open PySem PySem.Spec PyProof.Rows L2 Pr K64
abbrev sInitD : Stmt := inClass (topS 61) 1
abbrev sShow : Stmt := inClass (topS 61) 2
abbrev sFree : Stmt := inClass (topS 61) 3
abbrev sRoom : Stmt := inClass (topS 61) 4
abbrev sLink0 : Stmt := inClass (topS 61) 5
abbrev sAdd : Stmt := inClass (topS 61) 6
abbrev sChg : Stmt := inClass (topS 61) 7
abbrev sPressD : Stmt := inClass (topS 61) 8
abbrev sLink : Stmt := inClass (topS 61) 9
abbrev sUnlink : Stmt := inClass (topS 61) 10
abbrev sLenD : Stmt := inClass (topS 61) 21
def fD1 (pa : Addr) : List (Str × V) := [("past", V.ref pa), ("watched", V.bl false)]
def fldsD (pa p l h : Addr) : List (Str × V) := [("past", V.ref pa), ("watched", V.bl false), ("panel", V.ref p), ("latched", V.ref l), ("held", V.ref h)]
theorem look_past (pa p l h : Addr) : (fldsD pa p l h).lookup ("past" : Str) = some (.ref pa) := by rfl
theorem look_watched (pa p l h : Addr) : (fldsD pa p l h).lookup ("watched" : Str) = some (.bl false) := by rfl
theorem look_panel (pa p l h : Addr) : (fldsD pa p l h).lookup ("panel" : Str) = some (.ref p) := by rfl
theorem look_latched (pa p l h : Addr) : (fldsD pa p l h).lookup ("latched" : Str) = some (.ref l) := by rfl
theorem look_held (pa p l h : Addr) : (fldsD pa p l h).lookup ("held" : Str) = some (.ref h) := by rfl
end K64D
namespace K64D
open PySem PySem.Spec PyProof.Rows L2 Pr K64
theorem put_a (pa p l h : Addr) : putF "held" (.ref h) (putF "latched" (.ref l) (putF "panel" (.ref p) (fD1 pa))) = fldsD pa p l h := by rfl
theorem put_b (pa p0 l0 h0 p l h : Addr) : putF "held" (.ref h) (putF "latched" (.ref l) (putF "panel" (.ref p) (fldsD pa p0 l0 h0))) = fldsD pa p l h := by rfl
theorem put_p (pa pa' p l h : Addr) : putF "past" (.ref pa') (fldsD pa p l h) = fldsD pa' p l h := by rfl
theorem put_0 (pa : Addr) : putF "watched" (.bl false) (putF "past" (.ref pa) []) = fD1 pa := by rfl
structure TxtD (K : PySem.W.Frag) (mg : Str → Option Value) (C : Addr) : Prop where
  cl : Cls K C
  nA : NoAttr K C "past"
  nW : NoAttr K C "watched"
  nP : NoAttr K C "panel"
  nL : NoAttr K C "latched"
  nH : NoAttr K C "held"
  con : ∃ u, Con K C "MOST_EDITS" (.int 60) u
  g : mg "Desk" = some (.ref C)
def dEnt (x : PyData × List (List Int) × List Int) : PyData := .tuple [x.1, dPan x.2.1, dInts x.2.2]
def dPast (past : List (PyData × List (List Int) × List Int)) : PyData := .tuple (past.map dEnt)
/-- a part of the past: the edit, and the panel and the state before it -/
def EntAt (K : PySem.W.Frag) (H : Hp) (x : V) (y : PyData × List (List Int) × List Int) : Prop := ∃ (a p l : Addr) (v : V), x = .ref a ∧ SqT K H a [v, .ref p, .ref l] ∧ Dp K H v y.1 ∧ PanT K H p y.2.1 ∧ H l = some (.tup (y.2.2.map V.int))
def PastAt (K : PySem.W.Frag) (H : Hp) (pa : Addr) (past : List (PyData × List (List Int) × List Int)) : Prop := ∃ xs, SqT K H pa xs ∧ Paired (EntAt K H) xs past
section
variable {K : PySem.W.Frag} {H H' : Hp} {pa : Addr} {past : List (PyData × List (List Int) × List Int)}
theorem EntAt.sm {x : V} {y : PyData × List (List Int) × List Int} (h : EntAt K H x y) (s : Same H H') : EntAt K H' x y := by
  obtain ⟨a, p, l, v, rfl, h1, h2, h3, h4⟩ := h
  exact ⟨a, p, l, v, rfl, same_sqT s h1, h2.sm s, h3.same s, s _ _ h4⟩
theorem EntAt.kp {x : V} {y : PyData × List (List Int) × List Int} (h : EntAt K H x y) (k : Kp H H') (hl : lf y.1 = true) : EntAt K H' x y := by
  obtain ⟨a, p, l, v, rfl, h1, h2, h3, h4⟩ := h
  exact ⟨a, p, l, v, rfl, sqT_kp k h1, h2.kp k hl, h3.kp k, k.1 _ _ h4⟩
theorem EntAt.dp {x : V} {y : PyData × List (List Int) × List Int} (h : EntAt K H x y) : Dp K H x (dEnt y) := by
  obtain ⟨a, p, l, v, rfl, h1, h2, h3, h4⟩ := h
  exact .tup h1 (.cons h2 (.cons h3.dp (.cons (dp_ints (.inl (.inl h4))) .nil)))
theorem ents_sm (s : Same H H') : ∀ {xs : List V} {past : List (PyData × List (List Int) × List Int)}, Paired (EntAt K H) xs past → Paired (EntAt K H') xs past
  | _, _, .nil => .nil
  | _, _, .cons h t => .cons (h.sm s) (ents_sm s t)
theorem ents_kp (k : Kp H H') : ∀ {xs : List V} {past : List (PyData × List (List Int) × List Int)}, (∀ x ∈ past, lf x.1 = true ∧ Good x.2.1 ∧ Asc x.2.1.length x.2.2) → Paired (EntAt K H) xs past → Paired (EntAt K H') xs past
  | _, _, _, .nil => .nil
  | _, _, e, .cons h t => .cons (h.kp k (e _ List.mem_cons_self).1) (ents_kp k (fun x hx => e x (List.mem_cons_of_mem _ hx)) t)
theorem ents_dp : ∀ {xs : List V} {past : List (PyData × List (List Int) × List Int)}, Paired (EntAt K H) xs past → DpAll K H xs (past.map dEnt)
  | _, _, .nil => .nil
  | _, _, .cons h t => .cons h.dp (ents_dp t)
theorem prApp {α β : Type} {R : α → β → Prop} : ∀ {xs : List α} {ys : List β} {us : List α} {vs : List β}, Paired R xs ys → Paired R us vs → Paired R (xs ++ us) (ys ++ vs)
  | _, _, _, _, .nil, h => h
  | _, _, _, _, .cons a b, h => .cons a (prApp b h)
theorem prSplit {α β : Type} {R : α → β → Prop} : ∀ {xs : List α} {ys : List β} {y : β}, Paired R xs (ys ++ [y]) → ∃ us u, xs = us ++ [u] ∧ Paired R us ys ∧ R u y
  | _, [], y, .cons a .nil => ⟨[], _, rfl, .nil, a⟩
  | _, z :: ys, y, .cons a b => by
    obtain ⟨us, u, rfl, h1, h2⟩ := prSplit b
    exact ⟨_ :: us, u, rfl, .cons a h1, h2⟩
theorem PastAt.sm (h : PastAt K H pa past) (s : Same H H') : PastAt K H' pa past := by
  obtain ⟨xs, h1, h2⟩ := h
  exact ⟨xs, same_sqT s h1, ents_sm s h2⟩
theorem PastAt.kp (h : PastAt K H pa past) (k : Kp H H') (e : ∀ x ∈ past, lf x.1 = true ∧ Good x.2.1 ∧ Asc x.2.1.length x.2.2) : PastAt K H' pa past := by
  obtain ⟨xs, h1, h2⟩ := h
  exact ⟨xs, sqT_kp k h1, ents_kp k e h2⟩
theorem PastAt.dp (h : PastAt K H pa past) : Dp K H (.ref pa) (dPast past) := by
  obtain ⟨xs, h1, h2⟩ := h
  exact .tup h1 (ents_dp h2)
end
theorem cut_last (xs : List V) (x : V) : cutV (xs ++ [x]) none (some (-1)) = xs := by
  unfold cutV
  have e : HT.sIx (xs ++ [x]).length (xs ++ [x]).length (some (-1)) = xs.length := by
    show (if (-1 : Int) < 0 then ((-1 : Int) + ((xs ++ [x]).length : Int)).toNat else min (-1 : Int).toNat (xs ++ [x]).length) = _
    rw [if_pos (by decide), List.length_append]
    show ((-1 : Int) + ((xs.length + 1 : Nat) : Int)).toNat = _
    omega
  rw [e, HT.sIx_none, List.drop_zero, Nat.sub_zero, List.take_left]
theorem at_last {l : List V} {v : V} : atI (l ++ [v]) (-1) = some v := by
  have e : ixN (l ++ [v]).length (-1) = some l.length := by
    unfold ixN
    rw [List.length_append]
    show (if (0 : Int) ≤ -1 then _ else _) = _
    rw [if_neg (by decide)]
    simp
    omega
  unfold atI
  rw [e]
  show (l ++ [v])[l.length]? = some v
  simp
/-- a desk stands at t -/
structure DeskAt (K : PySem.W.Frag) (C : Addr) (H : Hp) (t : Addr) (pan : List (List Int)) (st : List Int) (past : List (PyData × List (List Int) × List Int)) : Prop where
  ob : ∃ dx pa p l h hs, H t = some (.ins C dx (fldsD pa p l h)) ∧ PastAt K H pa past ∧ PanT K H p pan ∧ H l = some (.tup (st.map V.int)) ∧ SqT K H h (hs.map V.int) ∧ IsHeld pan st hs
  good : Good pan
  asc : Asc pan.length st
  lfe : ∀ x ∈ past, lf x.1 = true ∧ Good x.2.1 ∧ Asc x.2.1.length x.2.2
section
variable {K : PySem.W.Frag} {C : Addr} {H H' : Hp} {t : Addr} {pan : List (List Int)} {st : List Int} {past : List (PyData × List (List Int) × List Int)}
theorem DeskAt.same (h : DeskAt K C H t pan st past) (s : Same H H') : DeskAt K C H' t pan st past := by
  obtain ⟨⟨dx, pa, p, l, hh, hs, h1, h2, h3, h4, h5, h6⟩, g, a, e⟩ := h
  exact ⟨⟨dx, pa, p, l, hh, hs, s _ _ h1, h2.sm s, h3.same s, s _ _ h4, same_sqT s h5, h6⟩, g, a, e⟩
theorem DeskAt.but {a c : Addr} {m : Nat} (h : DeskAt K C H t pan st past) (D : Deck H a c m) (b : But a c H H') : DeskAt K C H' t pan st past := by
  obtain ⟨⟨dx, pa, p, l, hh, hs, h1, h2, h3, h4, h5, h6⟩, g, as, e⟩ := h
  have k := Kp.but D b
  have q := D.apart h1 (fun _ => by intro z; cases z)
  exact ⟨⟨dx, pa, p, l, hh, hs, b _ _ q.1 q.2 h1, h2.kp k e, h3.kp k, k.1 _ _ h4, sqT_kp k h5, h6⟩, g, as, e⟩
end
def nShow : List Str := ["self", "panel", "latched"]
theorem scShow : FnScope nShow ["self", "panel", "latched"] (defScope sShow) := ⟨rfl, rfl, rfl, by decide +kernel, rfl, by decide +kernel, by decide +kernel⟩
section
variable {P : Program} {w : World} {K : PySem.W.Frag} {mg : Str → Option Value} {base : Heap}
def spShow (K : PySem.W.Frag) (C : Addr) : Sp := fun vs H Q _ => ∃ (t p l dx pa : Addr) (fs : List (Str × V)) (pan : List (List Int)) (st : List Int), vs = [.ref t, .ref p, .ref l] ∧ H t = some (.ins C dx fs) ∧ (fs = fD1 pa ∨ ∃ p0 l0 h0, fs = fldsD pa p0 l0 h0) ∧ PanT K H p pan ∧ Good pan ∧ SqT K H l (st.map V.int) ∧ Asc pan.length st ∧
  ∀ H' h hs, ButO t H H' → H' t = some (.ins C dx (fldsD pa p l h)) → SqT K H' h (hs.map V.int) → IsHeld pan st hs → Q .non H'
theorem ok_Show {fAny : Addr} {fdAny : FuncData} {fHeld : Addr} {fdHeld : FuncData} {C f : Addr} {fd : FuncData} {k : Nat} (F : Fun K "show" "Desk.show" sShow f fd) (T : TxtD K mg C)
    (FAny : Fun K "releases_any" "releases_any" sAny fAny fdAny) (bAny : Binds K fdAny ["panel", "button", "others"] []) (gAny : mg "releases_any" = some (.ref fAny))
    (FHeld : Fun K "held_buttons" "held_buttons" sHeld fHeld fdHeld) (bHeld : Binds K fdHeld ["panel", "state"] []) (gHeld : mg "held_buttons" = some (.ref fHeld))
    (m_any : mg "any" = none) (m_len : mg "len" = none) (m_tuple : mg "tuple" = none) : FnOk P w K mg base CX0 (k + 3) f fd ["self", "panel", "latched"] (spShow K C) := by
  have GHeld : FnOk P w K mg base CX0 (k + 2) fHeld fdHeld ["panel", "state"] (spHeld K) := ok_held FHeld FAny bAny gAny m_len m_tuple m_any
  refine F.ok scShow (fun vs H Q E h => ?_) (fun cdv A outer s H vs Q E hr h => ?_)
  · obtain ⟨t, p, l, dx, pa, fs, pan, st, rfl, _⟩ := h
    rfl
  · obtain ⟨t, p, l, dx, pa, fs, pan, st, rfl, ht, hfs, hp, hg, hl, hst, q⟩ := h
    refine ⟨_, pss_cons (ps_fld (pv 0) (pv 1) rfl)
      (pss_cons (ps_fld (pv 0) (pv 2) rfl)
      (pss_one (ps_fld (pv 0) (pe_call GHeld (hr.mono (by omega)) (by rfl) gHeld FHeld.kp bHeld .nil pass0 (pa_cons (pv 1) (pa_cons (pv 2) pa_nil))) rfl))), ?_⟩
    have fl : fs.length ≤ 5 := by
      rcases hfs with rfl | ⟨p0, l0, h0, rfl⟩
      · show 2 ≤ 5; decide
      · exact Nat.le_refl 5
    have pl : ∀ (f : Str) (v : V) (l : List (Str × V)), (putF f v l).length ≤ l.length + 1 := fun f v l => by
      induction l with
      | nil => exact Nat.le_refl _
      | cons x r ih =>
        show (if x.1 = f then (x.1, v) :: r else x :: putF f v r).length ≤ _
        split
        · exact Nat.le_succ _
        · exact Nat.succ_le_succ ih
    refine ⟨.ref p, rfl, .ref t, rfl, t, C, dx, fs, rfl, ht, T.cl, T.nP, by omega, ?_⟩
    have k1 := ButO.upd (g := t) (H := H) (o := .ins C dx (putF "panel" (.ref p) fs))
    refine ⟨.ref l, rfl, .ref t, rfl, t, C, dx, _, rfl, upd_same, T.cl, T.nL, by have := pl "panel" (.ref p) fs; omega, ?_⟩
    have k2 := ButO.upd (g := t) (H := upd H t (.ins C dx (putF "panel" (.ref p) fs))) (o := .ins C dx (putF "latched" (.ref l) (putF "panel" (.ref p) fs)))
    have k12 := k1.trans k2
    refine ⟨.ref p, rfl, .ref l, rfl, p, l, pan, st, rfl, hp.kp (k12.kp ht), hg, sqT_kp (k12.kp ht) hl, hst, fun H3 h hs s3 hh ish => ?_⟩
    have e3 := s3 _ _ (upd_same (a := t) (o := .ins C dx (putF "latched" (.ref l) (putF "panel" (.ref p) fs))))
    refine ⟨.ref t, rfl, t, C, dx, _, rfl, e3, T.cl, T.nH, by have := pl "panel" (.ref p) fs; have := pl "latched" (.ref l) (putF "panel" (.ref p) fs); omega, ?_⟩
    have k4 := ButO.upd (g := t) (H := H3) (o := .ins C dx (putF "held" (.ref h) (putF "latched" (.ref l) (putF "panel" (.ref p) fs))))
    refine q _ h hs ((k12.trans (ButO.of s3)).trans k4) ?_ (sqT_kp (k4.kp e3) hh) ish
    rcases hfs with rfl | ⟨p0, l0, h0, rfl⟩
    · rw [put_a, upd_same]
    · rw [put_b, upd_same]
end
def nInitD : List Str := ["self", "panel", "state"]
theorem scInitD : FnScope nInitD ["self", "panel", "state"] (defScope sInitD) := ⟨rfl, rfl, rfl, by decide +kernel, rfl, by decide +kernel, by decide +kernel⟩
section
variable {P : Program} {w : World} {K : PySem.W.Frag} {mg : Str → Option Value} {base : Heap}
def spInitD (K : PySem.W.Frag) (C : Addr) : Sp := fun vs H Q _ => ∃ (t p l dx : Addr) (pan : List (List Int)) (st : List Int), vs = [.ref t, .ref p, .ref l] ∧ H t = some (.ins C dx []) ∧ PanT K H p pan ∧ Good pan ∧ H l = some (.tup (st.map V.int)) ∧ Asc pan.length st ∧
  ∀ H', ButO t H H' → DeskAt K C H' t pan st [] → Q .non H'
theorem ok_InitD {fBtn : Addr} {fdBtn : FuncData} {fBtnT : Addr} {fdBtnT : FuncData} {fPErr : Addr} {fdPErr : FuncData} {fAny : Addr} {fdAny : FuncData} {fHeld : Addr} {fdHeld : FuncData} {fChkP : Addr} {fdChkP : FuncData} {fChkS : Addr} {fdChkS : FuncData} {C f : Addr} {fd : FuncData} {k : Nat} {tk : Tok} (F : Fun K "__init__" "Desk.__init__" sInitD f fd) (T : TxtD K mg C)
    (FBtn : Fun K "is_button" "is_button" sBtn fBtn fdBtn) (bBtn : Binds K fdBtn ["value", "many"] []) (gBtn : mg "is_button" = some (.ref fBtn))
    (FBtnT : Fun K "is_button_tuple" "is_button_tuple" sBtnT fBtnT fdBtnT) (bBtnT : Binds K fdBtnT ["value", "many"] []) (gBtnT : mg "is_button_tuple" = some (.ref fBtnT))
    (FPErr : Fun K "panel_error" "panel_error" sPErr fPErr fdPErr) (bPErr : Binds K fdPErr ["value"] []) (gPErr : mg "panel_error" = some (.ref fPErr))
    (FAny : Fun K "releases_any" "releases_any" sAny fAny fdAny) (bAny : Binds K fdAny ["panel", "button", "others"] []) (gAny : mg "releases_any" = some (.ref fAny))
    (FHeld : Fun K "held_buttons" "held_buttons" sHeld fHeld fdHeld) (bHeld : Binds K fdHeld ["panel", "state"] []) (gHeld : mg "held_buttons" = some (.ref fHeld))
    (FChkP : Fun K "check_panel" "check_panel" sChkP fChkP fdChkP) (bChkP : Binds K fdChkP ["value"] []) (gChkP : mg "check_panel" = some (.ref fChkP))
    (FChkS : Fun K "check_state" "check_state" sChkS fChkS fdChkS) (bChkS : Binds K fdChkS ["panel", "value"] []) (gChkS : mg "check_state" = some (.ref fChkS))
    {fShow : Addr} {fdShow : FuncData} (FShow : Fun K "show" "Desk.show" sShow fShow fdShow) (bShow : Binds K fdShow ["self", "panel", "latched"] []) (hShow : Meth K C "show" fShow)
    (m_any : mg "any" = none) (m_bool : mg "bool" = none) (m_enumerate : mg "enumerate" = none) (m_int : mg "int" = none) (m_isinstance : mg "isinstance" = none) (m_len : mg "len" = none) (m_tuple : mg "tuple" = none) (y_MAX : mg "MAX_BUTTONS" = some (.int 10 tk)) : FnOk P w K mg base CX0 (k + 5) f fd ["self", "panel", "state"] (spInitD K C) := by
  have GChkP : FnOk P w K mg base CX0 (k + 4) fChkP fdChkP ["value"] (spChkP K) := ok_ChkP FChkP FBtn bBtn gBtn FBtnT bBtnT gBtnT FPErr bPErr gPErr m_bool m_enumerate m_int m_isinstance m_len m_tuple y_MAX
  have GChkS : FnOk P w K mg base CX0 (k + 3) fChkS fdChkS ["panel", "value"] (spChkS K) := ok_ChkS FChkS FBtn bBtn gBtn FBtnT bBtnT gBtnT m_bool m_int m_isinstance m_len m_tuple
  have GShow : FnOk P w K mg base CX0 (k + 3) fShow fdShow ["self", "panel", "latched"] (spShow K C) := ok_Show FShow T FAny bAny gAny FHeld bHeld gHeld  m_any m_len m_tuple
  refine F.ok scInitD (fun vs H Q E h => ?_) (fun cdv A outer s H vs Q E hr h => ?_)
  · obtain ⟨t, p, l, dx, pan, st, rfl, _⟩ := h
    rfl
  · obtain ⟨t, p, l, dx, pan, st, rfl, ht, hp, hg, hl, hst, q⟩ := h
    refine ⟨_, pss_cons (ps_expr (pe_call GChkP (hr.mono (by omega)) (by rfl) gChkP FChkP.kp bChkP .nil pass0 (pa_cons (pv 1) pa_nil)))
      (pss_cons (ps_expr (pe_call GChkS (hr.mono (by omega)) (by rfl) gChkS FChkS.kp bChkS .nil pass0 (pa_cons (pv 1) (pa_cons (pv 2) pa_nil))))
      (pss_cons (ps_fld (pv 0) (pe_tup pa_nil) rfl)
      (pss_cons (ps_fld (pv 0) pe_bl rfl)
      (pss_one (ps_expr (pe_meth (pv 0) T.cl hShow GShow (hr.mono (by omega)) bShow .nil pass0 (pa_cons (pv 1) (pa_cons (pv 2) pa_nil)))))))), ?_⟩
    refine ⟨.ref p, rfl, p, pan, rfl, hp, hg, fun H1 s1 => ?_⟩
    refine ⟨.ref p, rfl, .ref l, rfl, p, l, pan, st, rfl, hp.same s1, .inl (.inl (s1 _ _ hl)), hst, fun H2 s2 => ?_⟩
    have s12 := s1.trans s2
    have e2 := s12 _ _ ht
    refine ⟨Nat.zero_le _, fun pa npa => ?_⟩
    have sp := same_new (o := .tup []) npa
    refine ⟨.ref t, rfl, t, C, dx, _, rfl, sp _ _ e2, T.cl, T.nA, by show 0 < 1000; decide, ?_⟩
    have k3 := ButO.upd (g := t) (H := upd H2 pa (.tup [])) (o := .ins C dx (putF "past" (.ref pa) []))
    refine ⟨.ref t, rfl, t, C, dx, _, rfl, upd_same, T.cl, T.nW, by show 1 < 1000; decide, ?_⟩
    rw [put_0]
    have k4 := ButO.upd (g := t) (H := upd (upd H2 pa (.tup [])) t (.ins C dx (putF "past" (.ref pa) []))) (o := .ins C dx (fD1 pa))
    have kk := (k3.trans k4).kp (sp _ _ e2)
    have sH := s12.trans sp
    have pt : pa ≠ t := fun z => by rw [z, e2] at npa; cases npa
    refine ⟨.ref t, rfl, t, dx, _, rfl, upd_same, by rfl, .ref p, rfl, .ref l, rfl, t, p, l, dx, pa, fD1 pa, pan, st, rfl, upd_same, .inl rfl, (hp.same sH).kp kk, hg, .inl (.inl (kk.1 _ _ (sH _ _ hl))), hst, fun H5 h hs k5 e5 hh ish => ?_⟩
    have kAll := ((ButO.of sH).trans (k3.trans k4)).trans k5
    have kp5 := kk.trans (k5.kp upd_same)
    refine q H5 kAll ⟨⟨dx, pa, p, l, h, hs, e5, ⟨[], .inl (.inl (kp5.1 _ _ upd_same)), .nil⟩, (hp.same sH).kp kp5, kp5.1 _ _ (sH _ _ hl), hh, ish⟩, hg, hst, fun x hx => by cases hx⟩
end
end K64D
namespace K64D
open PySem PySem.Spec PyProof.Rows L2 Pr K64
section
variable {K : PySem.W.Frag} {C : Addr} {H H' : Hp} {t : Addr} {pan : List (List Int)} {st : List Int} {past : List (PyData × List (List Int) × List Int)} {σ : L2.St} {mg : Str → Option Value} {i : Nat}
theorem gv_past (T : TxtD K mg C) (hi : σ[i]? = some (some (.ref t))) (h : DeskAt K C H t pan st past) : Gv K (tFld K (tVar i) "past") σ H (dPast past) := fun H1 s Q q => by
  obtain ⟨⟨dx, pa, p, l, hh, hs, h1, h2, _⟩, _⟩ := h.same s
  exact ⟨.ref t, hi, t, C, dx, _, .ref pa, rfl, h1, T.cl, T.nA, look_past _ _ _ _, q _ H1 (Same.refl _) h2.dp⟩
theorem gv_panel (T : TxtD K mg C) (hi : σ[i]? = some (some (.ref t))) (h : DeskAt K C H t pan st past) : Gv K (tFld K (tVar i) "panel") σ H (dPan pan) := fun H1 s Q q => by
  obtain ⟨⟨dx, pa, p, l, hh, hs, h1, h2, h3, _⟩, _⟩ := h.same s
  exact ⟨.ref t, hi, t, C, dx, _, .ref p, rfl, h1, T.cl, T.nP, look_panel _ _ _ _, q _ H1 (Same.refl _) h3.dp⟩
theorem gv_latched (T : TxtD K mg C) (hi : σ[i]? = some (some (.ref t))) (h : DeskAt K C H t pan st past) : Gv K (tFld K (tVar i) "latched") σ H (dInts st) := fun H1 s Q q => by
  obtain ⟨⟨dx, pa, p, l, hh, hs, h1, h2, h3, h4, _⟩, _⟩ := h.same s
  exact ⟨.ref t, hi, t, C, dx, _, .ref l, rfl, h1, T.cl, T.nL, look_latched _ _ _ _, q _ H1 (Same.refl _) (dp_ints (.inl (.inl h4)))⟩
theorem gv_most (T : TxtD K mg C) (hi : σ[i]? = some (some (.ref t))) (h : DeskAt K C H t pan st past) : Gv K (tCon K (tVar i) "MOST_EDITS") σ H (.int 60) := fun H1 s Q q => by
  obtain ⟨⟨dx, pa, p, l, hh, hs, h1, _⟩, _⟩ := h.same s
  obtain ⟨u, hu⟩ := T.con
  exact ⟨.ref t, hi, t, C, dx, _, .int 60, u, rfl, h1, T.cl, hu, by rfl, q _ H1 (Same.refl _) (.int _)⟩
end
def InP2 (pan : List (List Int)) (one other : Int) : Prop := 0 ≤ one ∧ one < (pan.length : Int) ∧ 0 ≤ other ∧ other < (pan.length : Int) ∧ one ≠ other
def nFree : List Str := ["self"]
theorem scFree : FnScope nFree ["self"] (defScope sFree) := ⟨rfl, rfl, rfl, by decide +kernel, rfl, by decide +kernel, by decide +kernel⟩
section
variable {P : Program} {w : World} {K : PySem.W.Frag} {mg : Str → Option Value} {base : Heap}
def spFree (K : PySem.W.Frag) (C : Addr) : Sp := fun vs H Q _ => ∃ (t : Addr) (pan : List (List Int)) (st : List Int) (past : List (PyData × List (List Int) × List Int)), vs = [.ref t] ∧ DeskAt K C H t pan st past ∧ ∀ H', Same H H' → Q .non H'
theorem ok_Free  {C f : Addr} {fd : FuncData} {k : Nat} (F : Fun K "check_free" "Desk.check_free" sFree f fd) (T : TxtD K mg C)
     : FnOk P w K mg base CX0 (k + 1) f fd ["self"] (spFree K C) := by
  refine F.ok scFree (fun vs H Q E h => ?_) (fun cdv A outer s H vs Q E hr h => ?_)
  · obtain ⟨t, pan, st, past, rfl, _⟩ := h
    rfl
  · obtain ⟨t, pan, st, past, rfl, hD, q⟩ := h
    have hD' := hD
    obtain ⟨⟨dx, pa, p, l, hh, hs, h1, h2, h3, h4, h5, h6⟩, hg, hst, lfe⟩ := hD'
    refine ⟨_, pss_one (ps_if (pt_val (pe_fld (pv 0) rfl)) (pss_one ps_never) pss_nil), ?_⟩
    exact ⟨.ref t, rfl, t, C, dx, _, .bl false, rfl, h1, T.cl, T.nW, look_watched _ _ _ _, false, rfl, iteF (q H (Same.refl _))⟩
end
def nRoom : List Str := ["self"]
theorem scRoom : FnScope nRoom ["self"] (defScope sRoom) := ⟨rfl, rfl, rfl, by decide +kernel, rfl, by decide +kernel, by decide +kernel⟩
section
variable {P : Program} {w : World} {K : PySem.W.Frag} {mg : Str → Option Value} {base : Heap}
def spRoom (K : PySem.W.Frag) (C : Addr) : Sp := fun vs H Q _ => ∃ (t : Addr) (pan : List (List Int)) (st : List Int) (past : List (PyData × List (List Int) × List Int)), vs = [.ref t] ∧ DeskAt K C H t pan st past ∧ past.length < 60 ∧ ∀ H', Same H H' → Q .non H'
theorem ok_Room  {C f : Addr} {fd : FuncData} {k : Nat} (F : Fun K "check_room" "Desk.check_room" sRoom f fd) (T : TxtD K mg C)
    {fFree : Addr} {fdFree : FuncData} (FFree : Fun K "check_free" "Desk.check_free" sFree fFree fdFree) (bFree : Binds K fdFree ["self"] []) (hFree : Meth K C "check_free" fFree)
    (m_len : mg "len" = none) : FnOk P w K mg base CX0 (k + 2) f fd ["self"] (spRoom K C) := by
  have GFree : FnOk P w K mg base CX0 (k + 1) fFree fdFree ["self"] (spFree K C) := ok_Free FFree T   
  refine F.ok scRoom (fun vs H Q E h => ?_) (fun cdv A outer s H vs Q E hr h => ?_)
  · obtain ⟨t, pan, st, past, rfl, _⟩ := h
    rfl
  · obtain ⟨t, pan, st, past, rfl, hD, few, q⟩ := h
    have hD' := hD
    obtain ⟨⟨dx, pa, p, l, hh, hs, h1, h2, h3, h4, h5, h6⟩, hg, hst, lfe⟩ := hD'
    refine ⟨_, pss_cons (ps_expr (pe_meth0 (pv 0) T.cl hFree GFree (hr.mono (by omega)) bFree .nil pass0))
      (pss_one (ps_if (pt_cmpR op_ge (pe_callB (show CallR _ _ (rLenG K) from cr_lenG) (by rfl) m_len PySem.boot_len (pa_cons (pe_fld (pv 0) rfl) pa_nil)) (pe_con (pv 0) rfl) (nomark _)) (pss_one ps_never) pss_nil)), ?_⟩
    refine ⟨.ref t, rfl, t, dx, _, rfl, h1, by rfl, t, pan, st, past, rfl, hD, fun H1 s1 => ?_⟩
    refine gs_noN (b := decide ((60 : Int) ≤ ((past.map dEnt).length : Int))) (gvt_test (K := K) (gv_I0 (gv_lenT (gv_past T rfl (hD.same s1))) (gv_most T rfl (hD.same s1)) fun _ => .bl _)) (by rw [List.length_map]; exact decide_eq_false (by omega)) fun H2 s2 => q H2 (s1.trans s2)
end
def nLink0 : List Str := ["self", "one", "other"]
theorem scLink0 : FnScope nLink0 ["self", "one", "other"] (defScope sLink0) := ⟨rfl, rfl, rfl, by decide +kernel, rfl, by decide +kernel, by decide +kernel⟩
section
variable {P : Program} {w : World} {K : PySem.W.Frag} {mg : Str → Option Value} {base : Heap}
def spLink0 (K : PySem.W.Frag) (C : Addr) : Sp := fun vs H Q _ => ∃ (t : Addr) (pan : List (List Int)) (st : List Int) (past : List (PyData × List (List Int) × List Int)) (one other : Int), vs = [.ref t, .int one, .int other] ∧ DeskAt K C H t pan st past ∧ past.length < 60 ∧ InP2 pan one other ∧ ∀ H', Same H H' → Q .non H'
theorem ok_Link0 {fBtn : Addr} {fdBtn : FuncData} {fChkB : Addr} {fdChkB : FuncData} {C f : Addr} {fd : FuncData} {k : Nat} (F : Fun K "check_link" "Desk.check_link" sLink0 f fd) (T : TxtD K mg C)
    (FBtn : Fun K "is_button" "is_button" sBtn fBtn fdBtn) (bBtn : Binds K fdBtn ["value", "many"] []) (gBtn : mg "is_button" = some (.ref fBtn))
    (FChkB : Fun K "check_button" "check_button" sChkB fChkB fdChkB) (bChkB : Binds K fdChkB ["panel", "value"] []) (gChkB : mg "check_button" = some (.ref fChkB))
    {fFree : Addr} {fdFree : FuncData} (FFree : Fun K "check_free" "Desk.check_free" sFree fFree fdFree) (bFree : Binds K fdFree ["self"] []) (hFree : Meth K C "check_free" fFree)
    {fRoom : Addr} {fdRoom : FuncData} (FRoom : Fun K "check_room" "Desk.check_room" sRoom fRoom fdRoom) (bRoom : Binds K fdRoom ["self"] []) (hRoom : Meth K C "check_room" fRoom)
    (m_bool : mg "bool" = none) (m_int : mg "int" = none) (m_isinstance : mg "isinstance" = none) (m_len : mg "len" = none) : FnOk P w K mg base CX0 (k + 3) f fd ["self", "one", "other"] (spLink0 K C) := by
  have GChkB : FnOk P w K mg base CX0 (k + 2) fChkB fdChkB ["panel", "value"] (spChkB K) := ok_ChkB FChkB FBtn bBtn gBtn m_bool m_int m_isinstance m_len
  have GRoom : FnOk P w K mg base CX0 (k + 2) fRoom fdRoom ["self"] (spRoom K C) := ok_Room FRoom T  FFree bFree hFree m_len
  refine F.ok scLink0 (fun vs H Q E h => ?_) (fun cdv A outer s H vs Q E hr h => ?_)
  · obtain ⟨t, pan, st, past, one, other, rfl, _⟩ := h
    rfl
  · obtain ⟨t, pan, st, past, one, other, rfl, hD, few, ⟨o0, o1, u0, u1, ne⟩, q⟩ := h
    have hD' := hD
    obtain ⟨⟨dx, pa, p, l, hh, hs, h1, h2, h3, h4, h5, h6⟩, hg, hst, lfe⟩ := hD'
    refine ⟨_, pss_cons (ps_expr (pe_meth0 (pv 0) T.cl hRoom GRoom (hr.mono (by omega)) bRoom .nil pass0))
      (pss_cons (ps_expr (pe_call GChkB (hr.mono (by omega)) (by rfl) gChkB FChkB.kp bChkB .nil pass0 (pa_cons (pe_fld (pv 0) rfl) (pa_cons (pv 1) pa_nil))))
      (pss_cons (ps_expr (pe_call GChkB (hr.mono (by omega)) (by rfl) gChkB FChkB.kp bChkB .nil pass0 (pa_cons (pe_fld (pv 0) rfl) (pa_cons (pv 2) pa_nil))))
      (pss_one (ps_if (pt_cmpR op_eq (pv 1) (pv 2) (nomark _)) (pss_one ps_never) pss_nil)))), ?_⟩
    refine ⟨.ref t, rfl, t, dx, _, rfl, h1, by rfl, t, pan, st, past, rfl, hD, few, fun H1 s1 => ?_⟩
    refine ⟨.ref t, rfl, t, C, dx, _, .ref p, rfl, s1 _ _ h1, T.cl, T.nP, look_panel _ _ _ _, .int one, rfl, p, pan, one, rfl, h3.same s1, o0, o1, fun H2 s2 => ?_⟩
    have s12 := s1.trans s2
    refine ⟨.ref t, rfl, t, C, dx, _, .ref p, rfl, s12 _ _ h1, T.cl, T.nP, look_panel _ _ _ _, .int other, rfl, p, pan, other, rfl, h3.same s12, u0, u1, fun H3 s3 => ?_⟩
    refine gs_noN (gvt_test (K := K) (gv_eqI (gv_var rfl (.int one)) (gv_var rfl (.int other)))) (decide_eq_false ne) fun H4 s4 => q H4 (s12.trans (s3.trans s4))
end
def nAdd : List Str := ["self", "edit", "panel", "latched"]
theorem scAdd : FnScope nAdd ["self", "edit", "panel", "latched"] (defScope sAdd) := ⟨rfl, rfl, rfl, by decide +kernel, rfl, by decide +kernel, by decide +kernel⟩
section
variable {P : Program} {w : World} {K : PySem.W.Frag} {mg : Str → Option Value} {base : Heap}
def spAdd (K : PySem.W.Frag) (C : Addr) : Sp := fun vs H Q _ => ∃ (t : Addr) (pan : List (List Int)) (st : List Int) (past : List (PyData × List (List Int) × List Int)) (ve : V) (de : PyData) (p' l' : Addr) (pan' : List (List Int)) (st' : List Int), vs = [.ref t, ve, .ref p', .ref l'] ∧ DeskAt K C H t pan st past ∧ past.length ≤ 60 ∧ Dp K H ve de ∧ lf de = true ∧ PanT K H p' pan' ∧ Good pan' ∧ H l' = some (.tup (st'.map V.int)) ∧ Asc pan'.length st' ∧
  ∀ H', ButO t H H' → DeskAt K C H' t pan' st' (past ++ [(de, pan, st)]) → Q (.int ((past.length + 1 : Nat) : Int)) H'
theorem ok_Add {fAny : Addr} {fdAny : FuncData} {fHeld : Addr} {fdHeld : FuncData} {C f : Addr} {fd : FuncData} {k : Nat} (F : Fun K "add_edit" "Desk.add_edit" sAdd f fd) (T : TxtD K mg C)
    (FAny : Fun K "releases_any" "releases_any" sAny fAny fdAny) (bAny : Binds K fdAny ["panel", "button", "others"] []) (gAny : mg "releases_any" = some (.ref fAny))
    (FHeld : Fun K "held_buttons" "held_buttons" sHeld fHeld fdHeld) (bHeld : Binds K fdHeld ["panel", "state"] []) (gHeld : mg "held_buttons" = some (.ref fHeld))
    {fShow : Addr} {fdShow : FuncData} (FShow : Fun K "show" "Desk.show" sShow fShow fdShow) (bShow : Binds K fdShow ["self", "panel", "latched"] []) (hShow : Meth K C "show" fShow)
    (m_any : mg "any" = none) (m_len : mg "len" = none) (m_tuple : mg "tuple" = none) : FnOk P w K mg base CX0 (k + 4) f fd ["self", "edit", "panel", "latched"] (spAdd K C) := by
  have GShow : FnOk P w K mg base CX0 (k + 3) fShow fdShow ["self", "panel", "latched"] (spShow K C) := ok_Show FShow T FAny bAny gAny FHeld bHeld gHeld  m_any m_len m_tuple
  refine F.ok scAdd (fun vs H Q E h => ?_) (fun cdv A outer s H vs Q E hr h => ?_)
  · obtain ⟨t, pan, st, past, ve, de, p', l', pan', st', rfl, _⟩ := h
    rfl
  · obtain ⟨t, pan, st, past, ve, de, p', l', pan', st', rfl, hD, few, dve, lde, hp', hg', hl', hst', q⟩ := h
    have hD' := hD
    obtain ⟨⟨dx, pa, p, l, hh, hs, h1, h2, h3, h4, h5, h6⟩, hg, hst, lfe⟩ := hD'
    refine ⟨_, pss_cons (ps_fld (pv 0) (pe_tup (StX.pa_star (pe_fld (pv 0) rfl) (pa_cons (pe_tup (pa_cons (pv 1) (pa_cons (pe_fld (pv 0) rfl) (pa_cons (pe_fld (pv 0) rfl) pa_nil)))) pa_nil))) rfl)
      (pss_cons (ps_expr (pe_meth (pv 0) T.cl hShow GShow (hr.mono (by omega)) bShow .nil pass0 (pa_cons (pv 2) (pa_cons (pv 3) pa_nil))))
      (pss_one (ps_ret (pe_callB (show CallR _ _ (rLenG K) from cr_lenG) (by rfl) m_len PySem.boot_len (pa_cons (pe_fld (pv 0) rfl) pa_nil))))), ?_⟩
    obtain ⟨xs, hpa, hxs⟩ := h2
    have xl : xs.length ≤ 60 := by rw [hxs.length]; exact few
    refine ⟨.ref t, rfl, t, C, dx, _, .ref pa, rfl, h1, T.cl, T.nA, look_past _ _ _ _, pa, xs, rfl, .inl hpa, ve, rfl, .ref t, rfl, t, C, dx, _, .ref p, rfl, h1, T.cl, T.nP, look_panel _ _ _ _, .ref t, rfl, t, C, dx, _, .ref l, rfl, h1, T.cl, T.nL, look_latched _ _ _ _, by show 3 ≤ sizeLine; decide, fun Te nTe => ⟨?_, fun pa' npa => ?_⟩⟩
    · rw [List.length_append]; exact Nat.le_of_lt (small5 (by show _ + 1 ≤ _; omega))
    have sTe := same_new (o := .tup [ve, .ref p, .ref l]) nTe
    have spa := same_new (o := .tup (xs ++ [.ref Te])) npa
    have s1 := sTe.trans spa
    have eTe := spa _ _ (upd_same (a := Te) (H := H) (o := .tup [ve, .ref p, .ref l]))
    have epa : (upd (upd H Te (.tup [ve, .ref p, .ref l])) pa' (.tup (xs ++ [.ref Te]))) pa' = some (.tup (xs ++ [.ref Te])) := upd_same
    generalize upd (upd H Te (.tup [ve, .ref p, .ref l])) pa' (.tup (xs ++ [.ref Te])) = H1 at s1 eTe epa ⊢
    have e1 := s1 _ _ h1
    refine ⟨.ref t, rfl, t, C, dx, _, rfl, e1, T.cl, T.nA, by show 5 < 1000; decide, ?_⟩
    rw [put_p]
    have k2 := ButO.upd (g := t) (H := H1) (o := .ins C dx (fldsD pa' p l hh))
    have kp2 := k2.kp e1
    have hP1 : PastAt K H1 pa' (past ++ [(de, pan, st)]) := ⟨_, .inl (.inl epa), prApp (ents_sm s1 hxs) (.cons ⟨Te, p, l, ve, rfl, .inl (.inl eTe), dve.sm s1, h3.same s1, s1 _ _ h4⟩ .nil)⟩
    refine ⟨.ref t, rfl, t, dx, _, rfl, upd_same, by rfl, .ref p', rfl, .ref l', rfl, t, p', l', dx, pa', fldsD pa' p l hh, pan', st', rfl, upd_same, .inr ⟨_, _, _, rfl⟩, (hp'.same s1).kp kp2, hg', .inl (.inl (kp2.1 _ _ (s1 _ _ hl'))), hst', fun H3 h hs' k3 e3 hh' ish => ?_⟩
    have kp3 := kp2.trans (k3.kp upd_same)
    have lfe' : ∀ x ∈ past ++ [(de, pan, st)], lf x.1 = true ∧ Good x.2.1 ∧ Asc x.2.1.length x.2.2 := fun x hx => by
      rcases List.mem_append.mp hx with h | h
      · exact lfe x h
      · rw [List.mem_singleton.mp h]; exact ⟨lde, hg, hst⟩
    have hN : DeskAt K C H3 t pan' st' (past ++ [(de, pan, st)]) := ⟨⟨dx, pa', p', l', h, hs', e3, hP1.kp kp3 lfe', (hp'.same s1).kp kp3, kp3.1 _ _ (s1 _ _ hl'), hh', ish⟩, hg', hst', lfe'⟩
    refine gs_ret (K := K) (gv_lenT (gv_past T rfl hN)) fun v H4 s4 dv4 => ?_
    cases dv4
    rw [List.length_map, List.length_append]
    exact q H4 (((ButO.of s1).trans k2).trans (k3.trans (ButO.of s4))) (hN.same s4)
end
def nChg : List Str := ["self", "edit", "panel"]
theorem scChg : FnScope nChg ["self", "edit", "panel"] (defScope sChg) := ⟨rfl, rfl, rfl, by decide +kernel, rfl, by decide +kernel, by decide +kernel⟩
section
variable {P : Program} {w : World} {K : PySem.W.Frag} {mg : Str → Option Value} {base : Heap}
def spChg (K : PySem.W.Frag) (C : Addr) : Sp := fun vs H Q _ => ∃ (t : Addr) (pan : List (List Int)) (st : List Int) (past : List (PyData × List (List Int) × List Int)) (ve : V) (de : PyData) (p' : Addr) (pan' : List (List Int)), vs = [.ref t, ve, .ref p'] ∧ DeskAt K C H t pan st past ∧ past.length ≤ 60 ∧ Dp K H ve de ∧ lf de = true ∧ PanT K H p' pan' ∧ Good pan' ∧ pan'.length = pan.length ∧ pan' ≠ pan ∧
  ∀ H', ButO t H H' → DeskAt K C H' t pan' st (past ++ [(de, pan, st)]) → Q (.int ((past.length + 1 : Nat) : Int)) H'
theorem ok_Chg {fAny : Addr} {fdAny : FuncData} {fHeld : Addr} {fdHeld : FuncData} {C f : Addr} {fd : FuncData} {k : Nat} (F : Fun K "change_panel" "Desk.change_panel" sChg f fd) (T : TxtD K mg C)
    (FAny : Fun K "releases_any" "releases_any" sAny fAny fdAny) (bAny : Binds K fdAny ["panel", "button", "others"] []) (gAny : mg "releases_any" = some (.ref fAny))
    (FHeld : Fun K "held_buttons" "held_buttons" sHeld fHeld fdHeld) (bHeld : Binds K fdHeld ["panel", "state"] []) (gHeld : mg "held_buttons" = some (.ref fHeld))
    {fShow : Addr} {fdShow : FuncData} (FShow : Fun K "show" "Desk.show" sShow fShow fdShow) (bShow : Binds K fdShow ["self", "panel", "latched"] []) (hShow : Meth K C "show" fShow)
    {fAdd : Addr} {fdAdd : FuncData} (FAdd : Fun K "add_edit" "Desk.add_edit" sAdd fAdd fdAdd) (bAdd : Binds K fdAdd ["self", "edit", "panel", "latched"] []) (hAdd : Meth K C "add_edit" fAdd)
    (m_any : mg "any" = none) (m_len : mg "len" = none) (m_tuple : mg "tuple" = none) : FnOk P w K mg base CX0 (k + 5) f fd ["self", "edit", "panel"] (spChg K C) := by
  have GAdd : FnOk P w K mg base CX0 (k + 4) fAdd fdAdd ["self", "edit", "panel", "latched"] (spAdd K C) := ok_Add FAdd T FAny bAny gAny FHeld bHeld gHeld FShow bShow hShow m_any m_len m_tuple
  refine F.ok scChg (fun vs H Q E h => ?_) (fun cdv A outer s H vs Q E hr h => ?_)
  · obtain ⟨t, pan, st, past, ve, de, p', pan', rfl, _⟩ := h
    rfl
  · obtain ⟨t, pan, st, past, ve, de, p', pan', rfl, hD, few, dve, lde, hp', hg', hpl, hne, q⟩ := h
    have hD' := hD
    obtain ⟨⟨dx, pa, p, l, hh, hs, h1, h2, h3, h4, h5, h6⟩, hg, hst, lfe⟩ := hD'
    refine ⟨_, pss_cons (ps_if (pt_cmpR (show OpR _ _ (rEqD K) from op_eqD hr.units) (pv 2) (pe_fld (pv 0) rfl) (nomark _)) (pss_one ps_never) pss_nil)
      (pss_one (ps_ret (pe_meth (pv 0) T.cl hAdd GAdd (hr.mono (by omega)) bAdd .nil pass0 (pa_cons (pv 1) (pa_cons (pv 2) (pa_cons (pe_fld (pv 0) rfl) pa_nil)))))), ?_⟩
    refine gs_no (gvt_test (K := K) (gv_eqD (gv_var rfl hp'.dp) (gv_panel T rfl hD) (shp_rowsT _) (shp_rowsT _))) ((eqv_rowsT _ _).trans (decide_eq_false hne)) fun H1 s1 => ?_
    refine ⟨.ref t, rfl, t, dx, _, rfl, s1 _ _ h1, by rfl, ve, rfl, .ref p', rfl, .ref t, rfl, t, C, dx, _, .ref l, rfl, s1 _ _ h1, T.cl, T.nL, look_latched _ _ _ _, t, pan, st, past, ve, de, p', l, pan', st, rfl, hD.same s1, few, dve.sm s1, lde, hp'.same s1, hg', s1 _ _ h4, by rw [hpl]; exact hst, fun H2 k2 hN => q H2 ((ButO.of s1).trans k2) hN⟩
end
def nPressD : List Str := ["self", "button", "latched"]
theorem scPressD : FnScope nPressD ["self", "button"] (defScope sPressD) := ⟨rfl, rfl, rfl, by decide +kernel, rfl, by decide +kernel, by decide +kernel⟩
section
variable {P : Program} {w : World} {K : PySem.W.Frag} {mg : Str → Option Value} {base : Heap}
def spPressD (K : PySem.W.Frag) (C : Addr) : Sp := fun vs H Q _ => ∃ (t : Addr) (pan : List (List Int)) (st : List Int) (past : List (PyData × List (List Int) × List Int)) (b : Int), vs = [.ref t, .int b] ∧ DeskAt K C H t pan st past ∧ past.length < 60 ∧ 0 ≤ b ∧ b < (pan.length : Int) ∧
  ∀ H', ButO t H H' → DeskAt K C H' t pan (pressM pan st b) (past ++ [(.tuple [.str "press", .int b], pan, st)]) → Q (.int ((past.length + 1 : Nat) : Int)) H'
theorem ok_PressD {fBtn : Addr} {fdBtn : FuncData} {fPress : Addr} {fdPress : FuncData} {fAny : Addr} {fdAny : FuncData} {fHeld : Addr} {fdHeld : FuncData} {fChkB : Addr} {fdChkB : FuncData} {C f : Addr} {fd : FuncData} {k : Nat} (F : Fun K "press" "Desk.press" sPressD f fd) (T : TxtD K mg C)
    (FBtn : Fun K "is_button" "is_button" sBtn fBtn fdBtn) (bBtn : Binds K fdBtn ["value", "many"] []) (gBtn : mg "is_button" = some (.ref fBtn))
    (FPress : Fun K "press_button" "press_button" sPress fPress fdPress) (bPress : Binds K fdPress ["panel", "state", "button"] []) (gPress : mg "press_button" = some (.ref fPress))
    (FAny : Fun K "releases_any" "releases_any" sAny fAny fdAny) (bAny : Binds K fdAny ["panel", "button", "others"] []) (gAny : mg "releases_any" = some (.ref fAny))
    (FHeld : Fun K "held_buttons" "held_buttons" sHeld fHeld fdHeld) (bHeld : Binds K fdHeld ["panel", "state"] []) (gHeld : mg "held_buttons" = some (.ref fHeld))
    (FChkB : Fun K "check_button" "check_button" sChkB fChkB fdChkB) (bChkB : Binds K fdChkB ["panel", "value"] []) (gChkB : mg "check_button" = some (.ref fChkB))
    {fFree : Addr} {fdFree : FuncData} (FFree : Fun K "check_free" "Desk.check_free" sFree fFree fdFree) (bFree : Binds K fdFree ["self"] []) (hFree : Meth K C "check_free" fFree)
    {fRoom : Addr} {fdRoom : FuncData} (FRoom : Fun K "check_room" "Desk.check_room" sRoom fRoom fdRoom) (bRoom : Binds K fdRoom ["self"] []) (hRoom : Meth K C "check_room" fRoom)
    {fShow : Addr} {fdShow : FuncData} (FShow : Fun K "show" "Desk.show" sShow fShow fdShow) (bShow : Binds K fdShow ["self", "panel", "latched"] []) (hShow : Meth K C "show" fShow)
    {fAdd : Addr} {fdAdd : FuncData} (FAdd : Fun K "add_edit" "Desk.add_edit" sAdd fAdd fdAdd) (bAdd : Binds K fdAdd ["self", "edit", "panel", "latched"] []) (hAdd : Meth K C "add_edit" fAdd)
    (m_any : mg "any" = none) (m_bool : mg "bool" = none) (m_int : mg "int" = none) (m_isinstance : mg "isinstance" = none) (m_len : mg "len" = none) (m_sorted : mg "sorted" = none) (m_tuple : mg "tuple" = none) : FnOk P w K mg base CX0 (k + 5) f fd ["self", "button"] (spPressD K C) := by
  have GChkB : FnOk P w K mg base CX0 (k + 2) fChkB fdChkB ["panel", "value"] (spChkB K) := ok_ChkB FChkB FBtn bBtn gBtn m_bool m_int m_isinstance m_len
  have GPress : FnOk P w K mg base CX0 (k + 1) fPress fdPress ["panel", "state", "button"] (spPress K) := ok_Press FPress m_sorted m_tuple
  have GRoom : FnOk P w K mg base CX0 (k + 2) fRoom fdRoom ["self"] (spRoom K C) := ok_Room FRoom T  FFree bFree hFree m_len
  have GAdd : FnOk P w K mg base CX0 (k + 4) fAdd fdAdd ["self", "edit", "panel", "latched"] (spAdd K C) := ok_Add FAdd T FAny bAny gAny FHeld bHeld gHeld FShow bShow hShow m_any m_len m_tuple
  refine F.ok scPressD (fun vs H Q E h => ?_) (fun cdv A outer s H vs Q E hr h => ?_)
  · obtain ⟨t, pan, st, past, b, rfl, _⟩ := h
    rfl
  · obtain ⟨t, pan, st, past, b, rfl, hD, few, b0, b1, q⟩ := h
    have hD' := hD
    obtain ⟨⟨dx, pa, p, l, hh, hs, h1, h2, h3, h4, h5, h6⟩, hg, hst, lfe⟩ := hD'
    refine ⟨_, pss_cons (ps_expr (pe_meth0 (pv 0) T.cl hRoom GRoom (hr.mono (by omega)) bRoom .nil pass0))
      (pss_cons (ps_expr (pe_call GChkB (hr.mono (by omega)) (by rfl) gChkB FChkB.kp bChkB .nil pass0 (pa_cons (pe_fld (pv 0) rfl) (pa_cons (pv 1) pa_nil))))
      (pss_cons (ps_set (i := 2) scPressD.nd rfl (.inl rfl) (pe_call GPress (hr.mono (by omega)) (by rfl) gPress FPress.kp bPress .nil pass0 (pa_cons (pe_fld (pv 0) rfl) (pa_cons (pe_fld (pv 0) rfl) (pa_cons (pv 1) pa_nil)))))
      (pss_one (ps_ret (pe_meth (pv 0) T.cl hAdd GAdd (hr.mono (by omega)) bAdd .nil pass0 (pa_cons (pe_tup (pa_cons pe_str (pa_cons (pv 1) pa_nil))) (pa_cons (pe_fld (pv 0) rfl) (pa_cons (pv 2) pa_nil)))))))), ?_⟩
    refine ⟨.ref t, rfl, t, dx, _, rfl, h1, by rfl, t, pan, st, past, rfl, hD, few, fun H1 s1 => ?_⟩
    refine ⟨.ref t, rfl, t, C, dx, _, .ref p, rfl, s1 _ _ h1, T.cl, T.nP, look_panel _ _ _ _, .int b, rfl, p, pan, b, rfl, h3.same s1, b0, b1, fun H2 s2 => ?_⟩
    have s12 := s1.trans s2
    have e2 := s12 _ _ h1
    refine ⟨.ref t, rfl, t, C, dx, _, .ref p, rfl, e2, T.cl, T.nP, look_panel _ _ _ _, .ref t, rfl, t, C, dx, _, .ref l, rfl, e2, T.cl, T.nL, look_latched _ _ _ _, .int b, rfl, pan, st, b, .cons (h3.same s12).dp (.cons (dp_ints (.inl (.inl (s12 _ _ h4)))) (.cons (.int _) .nil)), hst, hg.few, b0, b1, fun H3 l' s3 el => ?_⟩
    have s13 := s12.trans s3
    have e3 := s13 _ _ h1
    refine ⟨.ref t, rfl, t, dx, _, rfl, e3, by rfl, .int b, rfl, by show 2 ≤ sizeLine; decide, fun Te nTe => ?_⟩
    have sTe := same_new (o := .tup [.str "press", .int b]) nTe
    have s14 := s13.trans sTe
    refine ⟨.ref t, rfl, t, C, dx, _, .ref p, rfl, s14 _ _ h1, T.cl, T.nP, look_panel _ _ _ _, .ref l', rfl, t, pan, st, past, .ref Te, _, p, l', pan, pressM pan st b, rfl, hD.same s14, by omega, .tup (.inl (.inl upd_same)) (.cons (.str _) (.cons (.int _) .nil)), rfl, h3.same s14, hg, sTe _ _ el, pressM_asc _ _ _, fun H5 k5 hN => q H5 ((ButO.of s14).trans k5) hN⟩
end
end K64D
namespace K64D
open PySem PySem.Spec PyProof.Rows L2 Pr K64
theorem set_mem {pan : List (List Int)} {i : Nat} {x l : List Int} (h : l ∈ pan.set i x) : l = x ∨ l ∈ pan := by
  rcases List.mem_or_eq_of_mem_set h with h | h
  · exact .inr h
  · exact .inl h
theorem good_set {pan : List (List Int)} (g : Good pan) {i : Nat} {x : List Int} (hi : i < pan.length) (up : x.Pairwise (· < ·)) (rng : ∀ y ∈ x, 0 ≤ y ∧ y < (pan.length : Int)) (own : (i : Int) ∉ x) : Good (pan.set i x) := by
  have hl : (pan.set i x).length = pan.length := List.length_set
  refine ⟨by rw [hl]; exact g.pos, by rw [hl]; exact g.few, fun l h => ?_, fun l h => ?_, fun j l h => ?_⟩
  · rcases set_mem h with rfl | h
    · exact up
    · exact g.up l h
  · rw [hl]
    rcases set_mem h with rfl | h
    · exact rng
    · exact g.rng l h
  · rw [List.getElem?_set] at h
    by_cases e : i = j
    · rw [if_pos e, if_pos hi] at h
      cases h
      rw [← e]; exact own
    · rw [if_neg e] at h
      exact g.own j l h
theorem rel_mem {pan : List (List Int)} {i : Nat} (hi : i < pan.length) : pan.getD i [] ∈ pan := by
  rw [List.getD_eq_getElem?_getD, List.getElem?_eq_getElem hi]; exact List.getElem_mem hi
theorem good_li {pan : List (List Int)} (g : Good pan) {one other : Int} (h : InP2 pan one other) (hn : other ∉ pan.getD one.toNat []) : Good (liM pan one other) ∧ (liM pan one other).length = pan.length ∧ liM pan one other ≠ pan := by
  obtain ⟨o0, o1, u0, u1, ne⟩ := h
  have hi : one.toNat < pan.length := by omega
  have e : liM pan one other = pan.set one.toNat (srt (pan.getD one.toNat [] ++ [other])) := by unfold liM; rw [if_neg hn]
  have hm := rel_mem hi
  have up := g.up _ hm
  rw [e]
  have nd : (pan.getD one.toNat [] ++ [other]).Nodup := by
    rw [List.nodup_append]
    refine ⟨up.imp fun {a b} h => by omega, by simp, fun x hx y hy z => ?_⟩
    rw [List.mem_singleton.mp hy] at z
    exact hn (z ▸ hx)
  have mem : ∀ x, x ∈ srt (pan.getD one.toNat [] ++ [other]) ↔ x ∈ pan.getD one.toNat [] ∨ x = other := fun x => by rw [srt_mem, List.mem_append, List.mem_singleton]
  refine ⟨good_set g hi (srt_asc nd) (fun y hy => ?_) (fun h => ?_), List.length_set, fun z => ?_⟩
  · rcases (mem y).mp hy with h | rfl
    · exact g.rng _ hm y h
    · exact ⟨u0, u1⟩
  · rcases (mem _).mp h with h | h
    · exact g.own' (b := one) o0 o1 (by rwa [show ((one.toNat : Nat) : Int) = one by omega] at h)
    · omega
  · have : (pan.set one.toNat (srt (pan.getD one.toNat [] ++ [other]))).getD one.toNat [] = pan.getD one.toNat [] := by rw [z]
    rw [List.getD_eq_getElem?_getD, List.getElem?_set, if_pos rfl, if_pos hi] at this
    replace this : srt (pan.getD one.toNat [] ++ [other]) = pan.getD one.toNat [] := this
    exact hn (by rw [← this]; exact (mem other).mpr (.inr rfl))
theorem good_un {pan : List (List Int)} (g : Good pan) {one other : Int} (h : InP2 pan one other) (hn : other ∈ pan.getD one.toNat []) : Good (unM pan one other) ∧ (unM pan one other).length = pan.length ∧ unM pan one other ≠ pan := by
  obtain ⟨o0, o1, u0, u1, ne⟩ := h
  have hi : one.toNat < pan.length := by omega
  have e : unM pan one other = pan.set one.toNat ((pan.getD one.toNat []).filter fun x => !decide (x = other)) := by unfold unM; rw [if_pos hn]
  have hm := rel_mem hi
  rw [e]
  refine ⟨good_set g hi ((g.up _ hm).filter _) (fun y hy => g.rng _ hm y (List.mem_filter.mp hy).1) (fun h => ?_), List.length_set, fun z => ?_⟩
  · exact g.own' (b := one) o0 o1 (by have := (List.mem_filter.mp h).1; rwa [show ((one.toNat : Nat) : Int) = one by omega] at this)
  · have : (pan.set one.toNat ((pan.getD one.toNat []).filter fun x => !decide (x = other))).getD one.toNat [] = pan.getD one.toNat [] := by rw [z]
    rw [List.getD_eq_getElem?_getD, List.getElem?_set, if_pos rfl, if_pos hi] at this
    replace this : (pan.getD one.toNat []).filter (fun x => !decide (x = other)) = pan.getD one.toNat [] := this
    rw [← this] at hn
    simpa using (List.mem_filter.mp hn).2
theorem pan_ok {pan : List (List Int)} (g : Good pan) : pan.length ≤ 100 ∧ ∀ l ∈ pan, l.length ≤ 60 := ⟨by have := g.few; omega, fun l hl => by
  have := pw_length (n := 10) (lo := 0) (g.up l hl) fun x hx => by have := g.rng l hl x hx; have := g.few; omega
  omega⟩
def dLk (w : Str) (one other : Int) : PyData := .tuple [.str w, .int one, .int other]
def nLink : List Str := ["self", "one", "other"]
theorem scLink : FnScope nLink ["self", "one", "other"] (defScope sLink) := ⟨rfl, rfl, rfl, by decide +kernel, rfl, by decide +kernel, by decide +kernel⟩
section
variable {P : Program} {w : World} {K : PySem.W.Frag} {mg : Str → Option Value} {base : Heap}
def spLink (K : PySem.W.Frag) (C : Addr) : Sp := fun vs H Q _ => ∃ (t : Addr) (pan : List (List Int)) (st : List Int) (past : List (PyData × List (List Int) × List Int)) (one other : Int), vs = [.ref t, .int one, .int other] ∧ DeskAt K C H t pan st past ∧ past.length < 60 ∧ InP2 pan one other ∧ other ∉ pan.getD one.toNat [] ∧
  ∀ H', ButO t H H' → DeskAt K C H' t (liM pan one other) st (past ++ [(dLk "link" one other, pan, st)]) → Q (.int ((past.length + 1 : Nat) : Int)) H'
theorem ok_Link {fWl : Addr} {fdWl : FuncData} {fLi : Addr} {fdLi : FuncData} {fBtn : Addr} {fdBtn : FuncData} {fAny : Addr} {fdAny : FuncData} {fHeld : Addr} {fdHeld : FuncData} {fChkB : Addr} {fdChkB : FuncData} {C f : Addr} {fd : FuncData} {k : Nat} (F : Fun K "link" "Desk.link" sLink f fd) (T : TxtD K mg C)
    (FWl : Fun K "with_list" "with_list" sWl fWl fdWl) (bWl : Binds K fdWl ["panel", "button", "released"] []) (gWl : mg "with_list" = some (.ref fWl))
    (FLi : Fun K "linked" "linked" sLi fLi fdLi) (bLi : Binds K fdLi ["panel", "one", "other"] []) (gLi : mg "linked" = some (.ref fLi))
    (FBtn : Fun K "is_button" "is_button" sBtn fBtn fdBtn) (bBtn : Binds K fdBtn ["value", "many"] []) (gBtn : mg "is_button" = some (.ref fBtn))
    (FAny : Fun K "releases_any" "releases_any" sAny fAny fdAny) (bAny : Binds K fdAny ["panel", "button", "others"] []) (gAny : mg "releases_any" = some (.ref fAny))
    (FHeld : Fun K "held_buttons" "held_buttons" sHeld fHeld fdHeld) (bHeld : Binds K fdHeld ["panel", "state"] []) (gHeld : mg "held_buttons" = some (.ref fHeld))
    (FChkB : Fun K "check_button" "check_button" sChkB fChkB fdChkB) (bChkB : Binds K fdChkB ["panel", "value"] []) (gChkB : mg "check_button" = some (.ref fChkB))
    {fFree : Addr} {fdFree : FuncData} (FFree : Fun K "check_free" "Desk.check_free" sFree fFree fdFree) (bFree : Binds K fdFree ["self"] []) (hFree : Meth K C "check_free" fFree)
    {fRoom : Addr} {fdRoom : FuncData} (FRoom : Fun K "check_room" "Desk.check_room" sRoom fRoom fdRoom) (bRoom : Binds K fdRoom ["self"] []) (hRoom : Meth K C "check_room" fRoom)
    {fLink0 : Addr} {fdLink0 : FuncData} (FLink0 : Fun K "check_link" "Desk.check_link" sLink0 fLink0 fdLink0) (bLink0 : Binds K fdLink0 ["self", "one", "other"] []) (hLink0 : Meth K C "check_link" fLink0)
    {fShow : Addr} {fdShow : FuncData} (FShow : Fun K "show" "Desk.show" sShow fShow fdShow) (bShow : Binds K fdShow ["self", "panel", "latched"] []) (hShow : Meth K C "show" fShow)
    {fAdd : Addr} {fdAdd : FuncData} (FAdd : Fun K "add_edit" "Desk.add_edit" sAdd fAdd fdAdd) (bAdd : Binds K fdAdd ["self", "edit", "panel", "latched"] []) (hAdd : Meth K C "add_edit" fAdd)
    {fChg : Addr} {fdChg : FuncData} (FChg : Fun K "change_panel" "Desk.change_panel" sChg fChg fdChg) (bChg : Binds K fdChg ["self", "edit", "panel"] []) (hChg : Meth K C "change_panel" fChg)
    (m_any : mg "any" = none) (m_bool : mg "bool" = none) (m_enumerate : mg "enumerate" = none) (m_int : mg "int" = none) (m_isinstance : mg "isinstance" = none) (m_len : mg "len" = none) (m_sorted : mg "sorted" = none) (m_tuple : mg "tuple" = none) : FnOk P w K mg base CX0 (k + 6) f fd ["self", "one", "other"] (spLink K C) := by
  have GLi : FnOk P w K mg base CX0 (k + 2) fLi fdLi ["panel", "one", "other"] (spLi K) := ok_Li FLi FWl bWl gWl m_enumerate m_sorted m_tuple
  have GLink0 : FnOk P w K mg base CX0 (k + 3) fLink0 fdLink0 ["self", "one", "other"] (spLink0 K C) := ok_Link0 FLink0 T FBtn bBtn gBtn FChkB bChkB gChkB FFree bFree hFree FRoom bRoom hRoom m_bool m_int m_isinstance m_len
  have GChg : FnOk P w K mg base CX0 (k + 5) fChg fdChg ["self", "edit", "panel"] (spChg K C) := ok_Chg FChg T FAny bAny gAny FHeld bHeld gHeld FShow bShow hShow FAdd bAdd hAdd m_any m_len m_tuple
  refine F.ok scLink (fun vs H Q E h => ?_) (fun cdv A outer s H vs Q E hr h => ?_)
  · obtain ⟨t, pan, st, past, one, other, rfl, _⟩ := h
    rfl
  · obtain ⟨t, pan, st, past, one, other, rfl, hD, few, hI, hn, q⟩ := h
    have hD' := hD
    obtain ⟨⟨dx, pa, p, l, hh, hs, h1, h2, h3, h4, h5, h6⟩, hg, hst, lfe⟩ := hD'
    refine ⟨_, pss_cons (ps_expr (pe_meth (pv 0) T.cl hLink0 GLink0 (hr.mono (by omega)) bLink0 .nil pass0 (pa_cons (pv 1) (pa_cons (pv 2) pa_nil))))
      (pss_one (ps_ret (pe_meth (pv 0) T.cl hChg GChg (hr.mono (by omega)) bChg .nil pass0 (pa_cons (pe_tup (pa_cons pe_str (pa_cons (pv 1) (pa_cons (pv 2) pa_nil)))) (pa_cons (pe_call GLi (hr.mono (by omega)) (by rfl) gLi FLi.kp bLi .nil pass0 (pa_cons (pe_fld (pv 0) rfl) (pa_cons (pv 1) (pa_cons (pv 2) pa_nil)))) pa_nil))))), ?_⟩
    refine ⟨.ref t, rfl, t, dx, _, rfl, h1, by rfl, .int one, rfl, .int other, rfl, t, pan, st, past, one, other, rfl, hD, few, hI, fun H1 s1 => ?_⟩
    obtain ⟨g', l', n'⟩ := good_li hg hI hn
    have e1 := s1 _ _ h1
    refine ⟨.ref t, rfl, t, dx, _, rfl, e1, by rfl, .int one, rfl, .int other, rfl, by show 3 ≤ sizeLine; decide, fun Te nTe => ?_⟩
    have sTe := same_new (o := .tup [.str "link", .int one, .int other]) nTe
    have hD2 := (hD.same s1).same sTe
    refine (gv_Li (K := K) (gva_cons (gv_panel (i := 0) T rfl hD2) (gva_cons (gv_var (i := 1) rfl (.int one)) (gva_cons (gv_var (i := 2) rfl (.int other)) gva_nil))) ⟨(pan_ok hg).1, (pan_ok hg).2, hI.1, hI.2.1⟩).at fun v H3 s3 dv => ?_
    obtain ⟨p', rfl, hp'⟩ := panT_dp dv
    have s13 := (s1.trans sTe).trans s3
    exact ⟨t, pan, st, past, .ref Te, dLk "link" one other, p', _, rfl, hD.same s13, by omega, .tup (.inl (.inl (s3 _ _ upd_same))) (.cons (.str _) (.cons (.int _) (.cons (.int _) .nil))), rfl, hp', g', l', n', fun H4 k4 hN => q H4 ((ButO.of s13).trans k4) hN⟩
end
def nUnlink : List Str := ["self", "one", "other"]
theorem scUnlink : FnScope nUnlink ["self", "one", "other"] (defScope sUnlink) := ⟨rfl, rfl, rfl, by decide +kernel, rfl, by decide +kernel, by decide +kernel⟩
section
variable {P : Program} {w : World} {K : PySem.W.Frag} {mg : Str → Option Value} {base : Heap}
def spUnlink (K : PySem.W.Frag) (C : Addr) : Sp := fun vs H Q _ => ∃ (t : Addr) (pan : List (List Int)) (st : List Int) (past : List (PyData × List (List Int) × List Int)) (one other : Int), vs = [.ref t, .int one, .int other] ∧ DeskAt K C H t pan st past ∧ past.length < 60 ∧ InP2 pan one other ∧ other ∈ pan.getD one.toNat [] ∧
  ∀ H', ButO t H H' → DeskAt K C H' t (unM pan one other) st (past ++ [(dLk "unlink" one other, pan, st)]) → Q (.int ((past.length + 1 : Nat) : Int)) H'
theorem ok_Unlink {fWl : Addr} {fdWl : FuncData} {fUn : Addr} {fdUn : FuncData} {fBtn : Addr} {fdBtn : FuncData} {fAny : Addr} {fdAny : FuncData} {fHeld : Addr} {fdHeld : FuncData} {fChkB : Addr} {fdChkB : FuncData} {C f : Addr} {fd : FuncData} {k : Nat} (F : Fun K "unlink" "Desk.unlink" sUnlink f fd) (T : TxtD K mg C)
    (FWl : Fun K "with_list" "with_list" sWl fWl fdWl) (bWl : Binds K fdWl ["panel", "button", "released"] []) (gWl : mg "with_list" = some (.ref fWl))
    (FUn : Fun K "unlinked" "unlinked" sUn fUn fdUn) (bUn : Binds K fdUn ["panel", "one", "other"] []) (gUn : mg "unlinked" = some (.ref fUn))
    (FBtn : Fun K "is_button" "is_button" sBtn fBtn fdBtn) (bBtn : Binds K fdBtn ["value", "many"] []) (gBtn : mg "is_button" = some (.ref fBtn))
    (FAny : Fun K "releases_any" "releases_any" sAny fAny fdAny) (bAny : Binds K fdAny ["panel", "button", "others"] []) (gAny : mg "releases_any" = some (.ref fAny))
    (FHeld : Fun K "held_buttons" "held_buttons" sHeld fHeld fdHeld) (bHeld : Binds K fdHeld ["panel", "state"] []) (gHeld : mg "held_buttons" = some (.ref fHeld))
    (FChkB : Fun K "check_button" "check_button" sChkB fChkB fdChkB) (bChkB : Binds K fdChkB ["panel", "value"] []) (gChkB : mg "check_button" = some (.ref fChkB))
    {fFree : Addr} {fdFree : FuncData} (FFree : Fun K "check_free" "Desk.check_free" sFree fFree fdFree) (bFree : Binds K fdFree ["self"] []) (hFree : Meth K C "check_free" fFree)
    {fRoom : Addr} {fdRoom : FuncData} (FRoom : Fun K "check_room" "Desk.check_room" sRoom fRoom fdRoom) (bRoom : Binds K fdRoom ["self"] []) (hRoom : Meth K C "check_room" fRoom)
    {fLink0 : Addr} {fdLink0 : FuncData} (FLink0 : Fun K "check_link" "Desk.check_link" sLink0 fLink0 fdLink0) (bLink0 : Binds K fdLink0 ["self", "one", "other"] []) (hLink0 : Meth K C "check_link" fLink0)
    {fShow : Addr} {fdShow : FuncData} (FShow : Fun K "show" "Desk.show" sShow fShow fdShow) (bShow : Binds K fdShow ["self", "panel", "latched"] []) (hShow : Meth K C "show" fShow)
    {fAdd : Addr} {fdAdd : FuncData} (FAdd : Fun K "add_edit" "Desk.add_edit" sAdd fAdd fdAdd) (bAdd : Binds K fdAdd ["self", "edit", "panel", "latched"] []) (hAdd : Meth K C "add_edit" fAdd)
    {fChg : Addr} {fdChg : FuncData} (FChg : Fun K "change_panel" "Desk.change_panel" sChg fChg fdChg) (bChg : Binds K fdChg ["self", "edit", "panel"] []) (hChg : Meth K C "change_panel" fChg)
    (m_any : mg "any" = none) (m_bool : mg "bool" = none) (m_enumerate : mg "enumerate" = none) (m_int : mg "int" = none) (m_isinstance : mg "isinstance" = none) (m_len : mg "len" = none) (m_tuple : mg "tuple" = none) : FnOk P w K mg base CX0 (k + 6) f fd ["self", "one", "other"] (spUnlink K C) := by
  have GUn : FnOk P w K mg base CX0 (k + 2) fUn fdUn ["panel", "one", "other"] (spUn K) := ok_Un FUn FWl bWl gWl m_enumerate m_tuple
  have GLink0 : FnOk P w K mg base CX0 (k + 3) fLink0 fdLink0 ["self", "one", "other"] (spLink0 K C) := ok_Link0 FLink0 T FBtn bBtn gBtn FChkB bChkB gChkB FFree bFree hFree FRoom bRoom hRoom m_bool m_int m_isinstance m_len
  have GChg : FnOk P w K mg base CX0 (k + 5) fChg fdChg ["self", "edit", "panel"] (spChg K C) := ok_Chg FChg T FAny bAny gAny FHeld bHeld gHeld FShow bShow hShow FAdd bAdd hAdd m_any m_len m_tuple
  refine F.ok scUnlink (fun vs H Q E h => ?_) (fun cdv A outer s H vs Q E hr h => ?_)
  · obtain ⟨t, pan, st, past, one, other, rfl, _⟩ := h
    rfl
  · obtain ⟨t, pan, st, past, one, other, rfl, hD, few, hI, hn, q⟩ := h
    have hD' := hD
    obtain ⟨⟨dx, pa, p, l, hh, hs, h1, h2, h3, h4, h5, h6⟩, hg, hst, lfe⟩ := hD'
    refine ⟨_, pss_cons (ps_expr (pe_meth (pv 0) T.cl hLink0 GLink0 (hr.mono (by omega)) bLink0 .nil pass0 (pa_cons (pv 1) (pa_cons (pv 2) pa_nil))))
      (pss_one (ps_ret (pe_meth (pv 0) T.cl hChg GChg (hr.mono (by omega)) bChg .nil pass0 (pa_cons (pe_tup (pa_cons pe_str (pa_cons (pv 1) (pa_cons (pv 2) pa_nil)))) (pa_cons (pe_call GUn (hr.mono (by omega)) (by rfl) gUn FUn.kp bUn .nil pass0 (pa_cons (pe_fld (pv 0) rfl) (pa_cons (pv 1) (pa_cons (pv 2) pa_nil)))) pa_nil))))), ?_⟩
    refine ⟨.ref t, rfl, t, dx, _, rfl, h1, by rfl, .int one, rfl, .int other, rfl, t, pan, st, past, one, other, rfl, hD, few, hI, fun H1 s1 => ?_⟩
    obtain ⟨g', l', n'⟩ := good_un hg hI hn
    have e1 := s1 _ _ h1
    refine ⟨.ref t, rfl, t, dx, _, rfl, e1, by rfl, .int one, rfl, .int other, rfl, by show 3 ≤ sizeLine; decide, fun Te nTe => ?_⟩
    have sTe := same_new (o := .tup [.str "unlink", .int one, .int other]) nTe
    have hD2 := (hD.same s1).same sTe
    refine (gv_Un (K := K) (gva_cons (gv_panel (i := 0) T rfl hD2) (gva_cons (gv_var (i := 1) rfl (.int one)) (gva_cons (gv_var (i := 2) rfl (.int other)) gva_nil))) ⟨(pan_ok hg).1, (pan_ok hg).2, hI.1, hI.2.1⟩).at fun v H3 s3 dv => ?_
    obtain ⟨p', rfl, hp'⟩ := panT_dp dv
    have s13 := (s1.trans sTe).trans s3
    exact ⟨t, pan, st, past, .ref Te, dLk "unlink" one other, p', _, rfl, hD.same s13, by omega, .tup (.inl (.inl (s3 _ _ upd_same))) (.cons (.str _) (.cons (.int _) (.cons (.int _) .nil))), rfl, hp', g', l', n', fun H4 k4 hN => q H4 ((ButO.of s13).trans k4) hN⟩
end
def nLenD : List Str := ["self"]
theorem scLenD : FnScope nLenD ["self"] (defScope sLenD) := ⟨rfl, rfl, rfl, by decide +kernel, rfl, by decide +kernel, by decide +kernel⟩
section
variable {P : Program} {w : World} {K : PySem.W.Frag} {mg : Str → Option Value} {base : Heap}
def spLenD (K : PySem.W.Frag) (C : Addr) : Sp := fun vs H Q _ => ∃ (t : Addr) (pan : List (List Int)) (st : List Int) (past : List (PyData × List (List Int) × List Int)), vs = [.ref t] ∧ DeskAt K C H t pan st past ∧ ∀ H', Same H H' → Q (.int (past.length : Nat)) H'
theorem ok_LenD  {C f : Addr} {fd : FuncData} {k : Nat} (F : Fun K "__len__" "Desk.__len__" sLenD f fd) (T : TxtD K mg C)
    (m_len : mg "len" = none) : FnOk P w K mg base CX0 (k + 1) f fd ["self"] (spLenD K C) := by
  refine F.ok scLenD (fun vs H Q E h => ?_) (fun cdv A outer s H vs Q E hr h => ?_)
  · obtain ⟨t, pan, st, past, rfl, _⟩ := h
    rfl
  · obtain ⟨t, pan, st, past, rfl, hD, q⟩ := h
    have hD' := hD
    obtain ⟨⟨dx, pa, p, l, hh, hs, h1, h2, h3, h4, h5, h6⟩, hg, hst, lfe⟩ := hD'
    refine ⟨_, pss_one (ps_ret (pe_callB (show CallR _ _ (rLenG K) from cr_lenG) (by rfl) m_len PySem.boot_len (pa_cons (pe_fld (pv 0) rfl) pa_nil))), ?_⟩
    refine gs_ret (K := K) (gv_lenT (gv_past T rfl hD)) fun v H1 s1 dv => ?_
    cases dv
    rw [List.length_map]
    exact q H1 s1
end
theorem len_num (n : Nat) (h : n ≤ 1000) : ((toString (n : Int) : Str)).length ≤ 10 := by
  have : ∀ n < 1001, ((toString ((n : Nat) : Int) : Str)).length ≤ 10 := by decide +kernel
  exact this n (by omega)
theorem log_num (n : Nat) (h : n ≤ 1000) : ((n : Int)).natAbs.log2 < 1920 := by
  have : ∀ n < 1001, (((n : Nat) : Int)).natAbs.log2 < 1920 := by decide +kernel
  exact this n (by omega)
end K64D
namespace Pr
open PySem PySem.Spec PyProof.Rows L2
section
variable {X : Cx} {C f : Addr} {fd : FuncData} {k : Nat} {sp : Sp}
theorem run_in {A' : Around} {pins : List (Addr × Obj)} {σ : L2.St} {H : Hp} {s : Shared} {Q : VK} {a : Addr} {E : XK} (fr : A'.frames = X.A.frames) (F : FnOk X.prog X.w X.K X.mg X.base CX0 k f fd ["self"] sp) (hr : Room k A') (hb : Binds X.K fd ["self"] []) (J : Inv X pins σ H s) (h : sp [.ref a] H Q E) :
    wpAny (model X.prog X.w) A' (call (.ref f) [.ref a]) (EP X pins σ Q) X.xe s := by
  have e := J.env0
  have e0 : Env0 X.prog X.w X.K X.mg X.base A' X.stack s H := ⟨by rw [fr]; exact e.frames, e.mod, e.bs, e.bsz, e.funs, e.frf, e.hok, e.bare⟩
  have bd := hb s [.ref a] J.kIn rfl
  refine wpAny_call (codeAny_mono (F.run A' X.stack s H ⟨[.ref a], []⟩ [.ref a] [.ref a] Q E hr e0 (by simpa using bd) (.cons rfl .nil) h) fun r s' hq => ?_)
  cases r with
  | error er => exact hq.elim
  | ok fl =>
    cases fl with
    | ret u => exact J.after hq
    | next => exact hq.elim
    | brk => exact hq.elim
    | cont => exact hq.elim
def rLenO (C : Addr) (sp : Sp) : List V → Hp → VK → Prop := fun xs H Q => ∃ a dx fs, xs = [.ref a] ∧ H a = some (.ins C dx fs) ∧ sp [.ref a] H (fun v H' => ∃ n : Int, v = .int n ∧ 0 ≤ n ∧ n < 2 ^ 63 ∧ Q (.int n) H') (fun _ _ _ => False)
theorem cr_lenO (F : FnOk X.prog X.w X.K X.mg X.base CX0 k f fd ["self"] sp) (hr : Room (k + 1) X.A) (hb : Binds X.K fd ["self"] []) (hs : PySem.W.findIn X.K (.ref C) "__len__" = some (some (.ref f))) (hf : PySem.W.isFn X.K (.ref f) = true) : CallR X (.builtin "len") (rLenO C sp) := by
  intro pins s σ H xs us Q J r h
  obtain ⟨a, dx, fs, rfl, ha, h⟩ := h
  rw [Vals.ref1 r]
  obtain ⟨mA, O, _⟩ := ins_get J.hok ha
  obtain ⟨od, O, _⟩ := O.look
  obtain ⟨m, hF⟩ := J.fr
  refine PySem.W.len_K hF J.ok.mod.kin O hs hf (wpAny_mono (run_in rfl F (Room.in1 hr) hb J h) (fun v s' z => ?_) fun _ _ z => z)
  obtain ⟨x, H', J', rx, n, rfl, n0, n1, q⟩ := z
  obtain ⟨t, rfl⟩ := rx
  exact ⟨⟨n0, n1⟩, .int n, H', J'.tok _, ⟨_, rfl⟩, q⟩
end
end Pr
namespace Pr
open PySem PySem.Spec PyProof.Rows L2
end Pr
namespace Pr
open PySem PySem.Spec PyProof.Rows L2
end Pr
namespace Pr
open PySem PySem.Spec PyProof.Rows L2
end Pr
namespace Pr
open PySem PySem.Spec PyProof.Rows L2 PySem.Builtin PySem.Builtin.ObjectAttr
end Pr
namespace K64D
open PySem PySem.Spec PyProof.Rows L2 Pr K64
theorem DeskAt.kpAt {K : PySem.W.Frag} {C : Addr} {H H' : Hp} {t : Addr} {pan : List (List Int)} {st : List Int} {past : List (PyData × List (List Int) × List Int)} (h : DeskAt K C H t pan st past) (k : Kp H H') (e : H' t = H t) : DeskAt K C H' t pan st past := by
  obtain ⟨⟨dx, pa, p, l, hh, hs, h1, h2, h3, h4, h5, h6⟩, g, as, e'⟩ := h
  exact ⟨⟨dx, pa, p, l, hh, hs, e.trans h1, h2.kp k e', h3.kp k, k.1 _ _ h4, sqT_kp k h5, h6⟩, g, as, e'⟩
abbrev sUndo : Stmt := inClass (topS 61) 11
def nUndo : List Str := ["self", "edit", "panel", "latched"]
theorem scUndo : FnScope nUndo ["self"] (defScope sUndo) := ⟨rfl, rfl, rfl, by decide +kernel, rfl, by decide +kernel, by decide +kernel⟩
section
variable {P : Program} {w : World} {K : PySem.W.Frag} {mg : Str → Option Value} {base : Heap}
def spUndo (K : PySem.W.Frag) (C CU : Addr) : Sp := fun vs H Q E => ∃ (t : Addr) (pan : List (List Int)) (st : List Int) (past : List (PyData × List (List Int) × List Int)), vs = [.ref t] ∧ DeskAt K C H t pan st past ∧
  (∀ past' y, past = past' ++ [y] → ∀ H', ButO t H H' → DeskAt K C H' t y.2.1 y.2.2 past' → Q (.int (past'.length : Nat)) H') ∧ (past = [] → ∀ H', Same H H' → E (.ref CU) none H')
theorem ok_Undo {fAny : Addr} {fdAny : FuncData} {fHeld : Addr} {fdHeld : FuncData} {C CU f : Addr} {fd : FuncData} {k : Nat} (F : Fun K "undo" "Desk.undo" sUndo f fd) (T : TxtD K mg C) (T_NothingToUndo : Ex0 K mg "NothingToUndo" CU)
    (FAny : Fun K "releases_any" "releases_any" sAny fAny fdAny) (bAny : Binds K fdAny ["panel", "button", "others"] []) (gAny : mg "releases_any" = some (.ref fAny))
    (FHeld : Fun K "held_buttons" "held_buttons" sHeld fHeld fdHeld) (bHeld : Binds K fdHeld ["panel", "state"] []) (gHeld : mg "held_buttons" = some (.ref fHeld))
    {fFree : Addr} {fdFree : FuncData} (FFree : Fun K "check_free" "Desk.check_free" sFree fFree fdFree) (bFree : Binds K fdFree ["self"] []) (hFree : Meth K C "check_free" fFree)
    {fShow : Addr} {fdShow : FuncData} (FShow : Fun K "show" "Desk.show" sShow fShow fdShow) (bShow : Binds K fdShow ["self", "panel", "latched"] []) (hShow : Meth K C "show" fShow)
    (m_any : mg "any" = none) (m_len : mg "len" = none) (m_tuple : mg "tuple" = none) : FnOk P w K mg base (L2.CX P w) (k + 4) f fd ["self"] (spUndo K C CU) := by
  have GFree : FnOk P w K mg base CX0 (k + 1) fFree fdFree ["self"] (spFree K C) := ok_Free FFree T   
  have GShow : FnOk P w K mg base CX0 (k + 3) fShow fdShow ["self", "panel", "latched"] (spShow K C) := ok_Show FShow T FAny bAny gAny FHeld bHeld gHeld  m_any m_len m_tuple
  refine F.okX scUndo (fun vs H Q E h => ?_) (fun cdv A outer s H vs Q E hr h => ?_)
  · obtain ⟨t, pan, st, past, rfl, _⟩ := h
    rfl
  · obtain ⟨t, pan, st, past, rfl, hD, q1, q2⟩ := h
    refine ⟨_, pss_cons (ps_expr (pe_meth0 (pv 0) T.cl hFree GFree (hr.mono (by omega)) bFree .nil pass0))
      (pss_cons (ps_if (pt_not (pt_truth (pe_fld (pv 0) rfl) (fun _ => rfl))) (pss_one (ps_raise rfl (takes_of rfl rfl rfl rfl) (T_NothingToUndo.made (by rfl)))) pss_nil)
      (pss_cons (ps_asg (pe_ix (show IxR _ (rIxT K) from ix_tup) (pe_fld (pv 0) rfl) (pe_un un_neg pe_int) (fun _ _ => rfl)) (pg_tup rfl (pgs_cons (pg_name (i := 1) scUndo.nd rfl (Or.inl rfl)) (pgs_cons (pg_name (i := 2) scUndo.nd rfl (Or.inl rfl)) (pgs_cons (pg_name (i := 3) scUndo.nd rfl (Or.inl rfl)) pgs_nil)))))
      (pss_cons (ps_fld (pv 0) (pe_slice (show SlR _ (rSlS K) from sl_tupS) (pe_fld (pv 0) rfl) po_none (po_some (pe_un un_neg pe_int))) rfl)
      (pss_cons (ps_expr (pe_meth (pv 0) T.cl hShow GShow (hr.mono (by omega)) bShow .nil pass0 (pa_cons (pv 2) (pa_cons (pv 3) pa_nil))))
      (pss_one (ps_ret (pe_callB (show CallR _ _ (rLenG K) from cr_lenG) (by rfl) m_len PySem.boot_len (pa_cons (pe_fld (pv 0) rfl) pa_nil)))))))), ?_⟩
    have hD' := hD
    obtain ⟨⟨dx, pa, p, l, hh, hs, h1, h2, h3, h4, h5, h6⟩, hg, hst, lfe⟩ := hD'
    refine ⟨.ref t, rfl, t, dx, _, rfl, h1, by rfl, t, pan, st, past, rfl, hD, fun H1 s1 => ?_⟩
    have e1 := s1 _ _ h1
    obtain ⟨xs, hpa, hxs⟩ := h2.sm s1
    refine ⟨.ref t, rfl, t, C, dx, _, .ref pa, rfl, e1, T.cl, T.nA, look_past _ _ _ _, _, .inr (.inl ⟨xs, hpa, rfl⟩), ?_⟩
    rcases List.eq_nil_or_concat past with rfl | ⟨past', y, rfl⟩
    · cases hxs
      exact iteT (q2 rfl H1 s1)
    · rw [List.concat_eq_append] at *
      obtain ⟨us, u, rfl, hus, ⟨au, pu, lu, vu, rfl, hau, dvu, hpu, elu⟩⟩ := prSplit hxs
      have nz : (!(!(us ++ [V.ref au]).isEmpty)) = false := by cases us <;> rfl
      rw [nz]
      refine iteF ?_
      refine ⟨.ref t, rfl, t, C, dx, _, .ref pa, rfl, e1, T.cl, T.nA, look_past _ _ _ _, 1, rfl, pa, _, _, .ref au, rfl, rfl, hpa, at_last, ?_⟩
      refine ⟨au, _, rfl, hau, rfl, vu, [.ref pu, .ref lu], rfl, .ref pu, [.ref lu], rfl, .ref lu, [], rfl, rfl, ?_⟩
      refine ⟨.ref t, rfl, t, C, dx, _, .ref pa, rfl, e1, T.cl, T.nA, look_past _ _ _ _, 1, rfl, -1, rfl, pa, _, rfl, hpa, fun pb H2 s2 hpb => ?_⟩
      rw [cut_last] at hpb
      have e2 := s2 _ _ e1
      refine ⟨.ref t, rfl, t, C, dx, _, rfl, e2, T.cl, T.nA, by show 5 < 1000; decide, ?_⟩
      rw [put_p]
      have k3 := ButO.upd (g := t) (H := H2) (o := .ins C dx (fldsD pb p l hh))
      have kp3 := k3.kp e2
      have hy := lfe y (List.mem_append_right _ List.mem_cons_self)
      refine ⟨.ref t, rfl, t, dx, _, rfl, upd_same, by rfl, .ref pu, rfl, .ref lu, rfl, t, pu, lu, dx, pb, fldsD pb p l hh, y.2.1, y.2.2, rfl, upd_same, .inr ⟨_, _, _, rfl⟩, (hpu.same s2).kp kp3, hy.2.1, .inl (.inl (kp3.1 _ _ (s2 _ _ elu))), hy.2.2, fun H4 h' hs' k4 e4 hh' ish => ?_⟩
      have kp4 := kp3.trans (k4.kp upd_same)
      have lfe' : ∀ x ∈ past', lf x.1 = true ∧ Good x.2.1 ∧ Asc x.2.1.length x.2.2 := fun x hx => lfe x (List.mem_append_left _ hx)
      have hN : DeskAt K C H4 t y.2.1 y.2.2 past' := ⟨⟨dx, pb, pu, lu, h', hs', e4, PastAt.kp ⟨us, hpb, ents_sm s2 hus⟩ kp4 lfe', (hpu.same s2).kp kp4, kp4.1 _ _ (s2 _ _ elu), hh', ish⟩, hy.2.1, hy.2.2, lfe'⟩
      refine gs_ret (K := K) (gv_lenT (gv_past T rfl hN)) fun v H5 s5 dv5 => ?_
      cases dv5
      rw [List.length_map]
      exact q1 past' y rfl H5 (((ButO.of (s1.trans s2)).trans k3).trans (k4.trans (ButO.of s5))) (hN.same s5)
end
end K64D
namespace K64D
open PySem PySem.Spec PyProof.Rows L2 Pr K64
section
variable {K : PySem.W.Frag} {C : Addr} {H H' : Hp} {t : Addr} {pan : List (List Int)} {st : List Int} {past : List (PyData × List (List Int) × List Int)} {σ : L2.St} {i : Nat} {E : XK} {te : TE}
theorem DeskAt.at {P : Prop} (h : DeskAt K C H t pan st past) (q : ∀ dx fs, H t = some (.ins C dx fs) → (∀ m : Str, m ∉ (["past", "watched", "panel", "latched", "held"] : List Str) → fs.lookup m = none) → P) : P := by
  obtain ⟨⟨dx, pa, p, l, hh, hs, h1, h2, h3, h4, _⟩, _⟩ := h
  refine q dx _ h1 fun m hm => ?_
  simp only [List.mem_cons, List.mem_nil_iff, or_false, not_or] at hm
  obtain ⟨n1, n2, n3, n4, n5⟩ := hm
  unfold fldsD
  simp only [List.lookup_cons, List.lookup_nil]
  have : ∀ {a b : Str}, a ≠ b → (a == b) = false := fun h => by simpa using h
  rw [this n1, this n2, this n3, this n4, this n5]
theorem gv_lenD (hi : σ[i]? = some (some (.ref t))) (h : DeskAt K C H t pan st past) (few : past.length ≤ 1000) : Gv K (tCB (rLenO C (spLenD K C)) (tCons (tVar i) tNil)) σ H (.int (past.length : Nat)) := fun H1 s Q q => by
  have hD := h.same s
  exact hD.at fun dx fs e l => ⟨.ref t, hi, t, dx, fs, rfl, e, t, pan, st, past, rfl, hD, fun H2 s2 => ⟨_, rfl, by omega, by omega, q _ H2 s2 (.int _)⟩⟩
theorem gv_held {mg : Str → Option Value} {hs : List Int} (T : TxtD K mg C) (hi : σ[i]? = some (some (.ref t))) (h : DeskAt K C H t pan st past) (ih : IsHeld pan st hs) : Gv K (tFld K (tVar i) "held") σ H (dInts hs) := fun H1 s Q q => by
  obtain ⟨⟨dx, pa, p, l, hh, hs', h1, h2, h3, h4, h5, h6⟩, _⟩ := h.same s
  obtain rfl := ih.uniq h6
  exact ⟨.ref t, hi, t, C, dx, _, .ref hh, rfl, h1, T.cl, T.nH, look_held _ _ _ _, q _ H1 (Same.refl _) (dp_ints h5)⟩
theorem gm_PressD {b : Int} {ta : TA} {Q : VK} (hi : σ[i]? = some (some (.ref t))) (h : DeskAt K C H t pan st past) (few : past.length < 60) (ga : GvA K ta σ H [.int b]) (b0 : 0 ≤ b) (b1 : b < (pan.length : Int)) (q : ∀ H', ButO t H H' → DeskAt K C H' t pan (pressM pan st b) (past ++ [((.tuple [.str "press", .int b]), pan, st)]) → Q (.int ((past.length + 1 : Nat) : Int)) H') : tMeth C "press" (spPressD K C) [] E (tVar i) ta σ H Q :=
  h.at fun dx fs e l => ⟨.ref t, hi, t, dx, fs, rfl, e, l _ (by decide +kernel), ga H (Same.refl _) _ fun ws H2 s2 dw => by
    obtain ⟨w1, rfl, dw1⟩ := dpAll1 dw
    cases dw1
    exact ⟨t, pan, st, past, _, rfl, h.same s2, few, b0, b1, fun H3 k3 hN => q H3 ((ButO.of s2).trans k3) hN⟩⟩
theorem gm_Link {one other : Int} {ta : TA} {Q : VK} (hi : σ[i]? = some (some (.ref t))) (h : DeskAt K C H t pan st past) (few : past.length < 60) (ga : GvA K ta σ H [.int one, .int other]) (hI : K64.InP2 pan one other) (hn : other ∉ pan.getD one.toNat []) (q : ∀ H', ButO t H H' → DeskAt K C H' t (K64.liM pan one other) st (past ++ [((K64.dLk "link" one other), pan, st)]) → Q (.int ((past.length + 1 : Nat) : Int)) H') : tMeth C "link" (spLink K C) [] E (tVar i) ta σ H Q :=
  h.at fun dx fs e l => ⟨.ref t, hi, t, dx, fs, rfl, e, l _ (by decide +kernel), ga H (Same.refl _) _ fun ws H2 s2 dw => by
    obtain ⟨w1, w2, rfl, dw1, dw2⟩ := dpAll2 dw
    cases dw1
    cases dw2
    exact ⟨t, pan, st, past, _, _, rfl, h.same s2, few, hI, hn, fun H3 k3 hN => q H3 ((ButO.of s2).trans k3) hN⟩⟩
theorem gm_Unlink {one other : Int} {ta : TA} {Q : VK} (hi : σ[i]? = some (some (.ref t))) (h : DeskAt K C H t pan st past) (few : past.length < 60) (ga : GvA K ta σ H [.int one, .int other]) (hI : K64.InP2 pan one other) (hn : other ∈ pan.getD one.toNat []) (q : ∀ H', ButO t H H' → DeskAt K C H' t (K64.unM pan one other) st (past ++ [((K64.dLk "unlink" one other), pan, st)]) → Q (.int ((past.length + 1 : Nat) : Int)) H') : tMeth C "unlink" (spUnlink K C) [] E (tVar i) ta σ H Q :=
  h.at fun dx fs e l => ⟨.ref t, hi, t, dx, fs, rfl, e, l _ (by decide +kernel), ga H (Same.refl _) _ fun ws H2 s2 dw => by
    obtain ⟨w1, w2, rfl, dw1, dw2⟩ := dpAll2 dw
    cases dw1
    cases dw2
    exact ⟨t, pan, st, past, _, _, rfl, h.same s2, few, hI, hn, fun H3 k3 hN => q H3 ((ButO.of s2).trans k3) hN⟩⟩
theorem gm_Undo {CU : Addr} {Q : VK} {past' : List (PyData × List (List Int) × List Int)} {y : PyData × List (List Int) × List Int} (hi : σ[i]? = some (some (.ref t))) (h : DeskAt K C H t pan st (past' ++ [y])) (q : ∀ H', ButO t H H' → DeskAt K C H' t y.2.1 y.2.2 past' → Q (.int (past'.length : Nat)) H') : tMeth C "undo" (spUndo K C CU) [] E (tVar i) tNil σ H Q :=
  h.at fun dx fs e l => ⟨.ref t, hi, t, dx, fs, rfl, e, l _ (by decide +kernel), t, pan, st, _, rfl, h, fun past'' y' ey H' b hd => by
    obtain ⟨rfl, ez⟩ := List.append_inj' ey rfl
    cases ez
    exact q H' b hd, fun z => by simp at z⟩
theorem DeskAt.ins2 (h : DeskAt K C H t pan st past) : ∃ dx fs, H t = some (.ins C dx fs) ∧ 5 ≤ fs.length := by
  obtain ⟨⟨dx, pa, p, l, hh, hs, h1, _⟩, _⟩ := h
  exact ⟨dx, _, h1, by show 5 ≤ 5; decide⟩
end
structure DM (P : Program) (w : World) (K : PySem.W.Frag) (mg : Str → Option Value) (base : Heap) (C CU : Addr) where
  fInitD : Addr
  fdInitD : FuncData
  bInitD : Binds K fdInitD ["self", "panel", "state"] []
  MkD : Mk K C fInitD
  GInitD : FnOk P w K mg base CX0 5 fInitD fdInitD ["self", "panel", "state"] (spInitD K C)
  fPressD : Addr
  fdPressD : FuncData
  bPressD : Binds K fdPressD ["self", "button"] []
  hPressD : Meth K C "press" fPressD
  GPressD : FnOk P w K mg base CX0 5 fPressD fdPressD ["self", "button"] (spPressD K C)
  fLink : Addr
  fdLink : FuncData
  bLink : Binds K fdLink ["self", "one", "other"] []
  hLink : Meth K C "link" fLink
  GLink : FnOk P w K mg base CX0 6 fLink fdLink ["self", "one", "other"] (spLink K C)
  fUnlink : Addr
  fdUnlink : FuncData
  bUnlink : Binds K fdUnlink ["self", "one", "other"] []
  hUnlink : Meth K C "unlink" fUnlink
  GUnlink : FnOk P w K mg base CX0 6 fUnlink fdUnlink ["self", "one", "other"] (spUnlink K C)
  fUndo : Addr
  fdUndo : FuncData
  bUndo : Binds K fdUndo ["self"] []
  hUndo : Meth K C "undo" fUndo
  GUndo : FnOk P w K mg base (L2.CX P w) 4 fUndo fdUndo ["self"] (spUndo K C CU)
  fLenD : Addr
  fdLenD : FuncData
  bLenD : Binds K fdLenD ["self"] []
  xLenD : PySem.W.findIn K (.ref C) "__len__" = some (some (.ref fLenD))
  yLenD : PySem.W.isFn K (.ref fLenD) = true
  GLenD : FnOk P w K mg base CX0 1 fLenD fdLenD ["self"] (spLenD K C)
end K64D
namespace K64G
open PySem PySem.Spec PyProof.Rows L2 Pr K64
abbrev sInitD : Stmt := inClass (topS 61) 1
abbrev sShow : Stmt := inClass (topS 61) 2
abbrev sFree : Stmt := inClass (topS 61) 3
abbrev sRoom : Stmt := inClass (topS 61) 4
abbrev sLink0 : Stmt := inClass (topS 61) 5
abbrev sAdd : Stmt := inClass (topS 61) 6
abbrev sChg : Stmt := inClass (topS 61) 7
abbrev sPressD : Stmt := inClass (topS 61) 8
abbrev sLink : Stmt := inClass (topS 61) 9
abbrev sUnlink : Stmt := inClass (topS 61) 10
abbrev sLenD : Stmt := inClass (topS 61) 21
def fD1 (pa : Addr) : List (Str × V) := [("past", V.ref pa), ("watched", V.bl false)]
def fldsD (pa p l h kn : Addr) : List (Str × V) := [("past", V.ref pa), ("watched", V.bl false), ("panel", V.ref p), ("latched", V.ref l), ("held", V.ref h), ("known", V.ref kn)]
theorem look_past (pa p l h kn : Addr) : (fldsD pa p l h kn).lookup ("past" : Str) = some (.ref pa) := by rfl
theorem look_watched (pa p l h kn : Addr) : (fldsD pa p l h kn).lookup ("watched" : Str) = some (.bl false) := by rfl
theorem look_panel (pa p l h kn : Addr) : (fldsD pa p l h kn).lookup ("panel" : Str) = some (.ref p) := by rfl
theorem look_latched (pa p l h kn : Addr) : (fldsD pa p l h kn).lookup ("latched" : Str) = some (.ref l) := by rfl
theorem look_held (pa p l h kn : Addr) : (fldsD pa p l h kn).lookup ("held" : Str) = some (.ref h) := by rfl
end K64G
namespace K64G
open PySem PySem.Spec PyProof.Rows L2 Pr K64
theorem put_p (pa pa' p l h kn : Addr) : putF "past" (.ref pa') (fldsD pa p l h kn) = fldsD pa' p l h kn := by rfl
theorem put_0 (pa : Addr) : putF "watched" (.bl false) (putF "past" (.ref pa) []) = fD1 pa := by rfl
structure TxtD (K : PySem.W.Frag) (mg : Str → Option Value) (C : Addr) : Prop where
  cl : Cls K C
  nA : NoAttr K C "past"
  nW : NoAttr K C "watched"
  nP : NoAttr K C "panel"
  nL : NoAttr K C "latched"
  nH : NoAttr K C "held"
  nK : NoAttr K C "known"
  con : ∃ u, Con K C "MOST_EDITS" (.int 60) u
  g : mg "GuessDesk" = some (.ref C)
def dEnt (x : PyData × List (List Int) × List Int) : PyData := .tuple [x.1, dPan x.2.1, dInts x.2.2]
def dPast (past : List (PyData × List (List Int) × List Int)) : PyData := .tuple (past.map dEnt)
/-- a part of the past: the edit, and the panel and the state before it -/
def EntAt (K : PySem.W.Frag) (H : Hp) (x : V) (y : PyData × List (List Int) × List Int) : Prop := ∃ (a p l : Addr) (v : V), x = .ref a ∧ SqT K H a [v, .ref p, .ref l] ∧ Dp K H v y.1 ∧ PanT K H p y.2.1 ∧ H l = some (.tup (y.2.2.map V.int))
def PastAt (K : PySem.W.Frag) (H : Hp) (pa : Addr) (past : List (PyData × List (List Int) × List Int)) : Prop := ∃ xs, SqT K H pa xs ∧ Paired (EntAt K H) xs past
section
variable {K : PySem.W.Frag} {H H' : Hp} {pa : Addr} {past : List (PyData × List (List Int) × List Int)}
theorem EntAt.sm {x : V} {y : PyData × List (List Int) × List Int} (h : EntAt K H x y) (s : Same H H') : EntAt K H' x y := by
  obtain ⟨a, p, l, v, rfl, h1, h2, h3, h4⟩ := h
  exact ⟨a, p, l, v, rfl, same_sqT s h1, h2.sm s, h3.same s, s _ _ h4⟩
theorem EntAt.kp {x : V} {y : PyData × List (List Int) × List Int} (h : EntAt K H x y) (k : Kp H H') (hl : lf y.1 = true) : EntAt K H' x y := by
  obtain ⟨a, p, l, v, rfl, h1, h2, h3, h4⟩ := h
  exact ⟨a, p, l, v, rfl, sqT_kp k h1, h2.kp k hl, h3.kp k, k.1 _ _ h4⟩
theorem EntAt.dp {x : V} {y : PyData × List (List Int) × List Int} (h : EntAt K H x y) : Dp K H x (dEnt y) := by
  obtain ⟨a, p, l, v, rfl, h1, h2, h3, h4⟩ := h
  exact .tup h1 (.cons h2 (.cons h3.dp (.cons (dp_ints (.inl (.inl h4))) .nil)))
theorem ents_sm (s : Same H H') : ∀ {xs : List V} {past : List (PyData × List (List Int) × List Int)}, Paired (EntAt K H) xs past → Paired (EntAt K H') xs past
  | _, _, .nil => .nil
  | _, _, .cons h t => .cons (h.sm s) (ents_sm s t)
theorem ents_kp (k : Kp H H') : ∀ {xs : List V} {past : List (PyData × List (List Int) × List Int)}, (∀ x ∈ past, lf x.1 = true ∧ Good x.2.1 ∧ Asc x.2.1.length x.2.2) → Paired (EntAt K H) xs past → Paired (EntAt K H') xs past
  | _, _, _, .nil => .nil
  | _, _, e, .cons h t => .cons (h.kp k (e _ List.mem_cons_self).1) (ents_kp k (fun x hx => e x (List.mem_cons_of_mem _ hx)) t)
theorem ents_dp : ∀ {xs : List V} {past : List (PyData × List (List Int) × List Int)}, Paired (EntAt K H) xs past → DpAll K H xs (past.map dEnt)
  | _, _, .nil => .nil
  | _, _, .cons h t => .cons h.dp (ents_dp t)
theorem prApp {α β : Type} {R : α → β → Prop} : ∀ {xs : List α} {ys : List β} {us : List α} {vs : List β}, Paired R xs ys → Paired R us vs → Paired R (xs ++ us) (ys ++ vs)
  | _, _, _, _, .nil, h => h
  | _, _, _, _, .cons a b, h => .cons a (prApp b h)
theorem prGet {α β : Type} {R : α → β → Prop} : ∀ {xs : List α} {ys : List β} {i : Nat} {y : β}, Paired R xs ys → ys[i]? = some y → ∃ x, xs[i]? = some x ∧ R x y
  | _, _, i, y, .nil, e => by simp at e
  | x :: xs, z :: ys, 0, y, .cons a b, e => by cases e; exact ⟨x, rfl, a⟩
  | x :: xs, z :: ys, i + 1, y, .cons a b, e => prGet (i := i) b e
theorem prSplit {α β : Type} {R : α → β → Prop} : ∀ {xs : List α} {ys : List β} {y : β}, Paired R xs (ys ++ [y]) → ∃ us u, xs = us ++ [u] ∧ Paired R us ys ∧ R u y
  | _, [], y, .cons a .nil => ⟨[], _, rfl, .nil, a⟩
  | _, z :: ys, y, .cons a b => by
    obtain ⟨us, u, rfl, h1, h2⟩ := prSplit b
    exact ⟨_ :: us, u, rfl, .cons a h1, h2⟩
theorem PastAt.sm (h : PastAt K H pa past) (s : Same H H') : PastAt K H' pa past := by
  obtain ⟨xs, h1, h2⟩ := h
  exact ⟨xs, same_sqT s h1, ents_sm s h2⟩
theorem PastAt.kp (h : PastAt K H pa past) (k : Kp H H') (e : ∀ x ∈ past, lf x.1 = true ∧ Good x.2.1 ∧ Asc x.2.1.length x.2.2) : PastAt K H' pa past := by
  obtain ⟨xs, h1, h2⟩ := h
  exact ⟨xs, sqT_kp k h1, ents_kp k e h2⟩
theorem PastAt.dp (h : PastAt K H pa past) : Dp K H (.ref pa) (dPast past) := by
  obtain ⟨xs, h1, h2⟩ := h
  exact .tup h1 (ents_dp h2)
end
theorem cut_last (xs : List V) (x : V) : cutV (xs ++ [x]) none (some (-1)) = xs := by
  unfold cutV
  have e : HT.sIx (xs ++ [x]).length (xs ++ [x]).length (some (-1)) = xs.length := by
    show (if (-1 : Int) < 0 then ((-1 : Int) + ((xs ++ [x]).length : Int)).toNat else min (-1 : Int).toNat (xs ++ [x]).length) = _
    rw [if_pos (by decide), List.length_append]
    show ((-1 : Int) + ((xs.length + 1 : Nat) : Int)).toNat = _
    omega
  rw [e, HT.sIx_none, List.drop_zero, Nat.sub_zero, List.take_left]
theorem at_last {l : List V} {v : V} : atI (l ++ [v]) (-1) = some v := by
  have e : ixN (l ++ [v]).length (-1) = some l.length := by
    unfold ixN
    rw [List.length_append]
    show (if (0 : Int) ≤ -1 then _ else _) = _
    rw [if_neg (by decide)]
    simp
    omega
  unfold atI
  rw [e]
  show (l ++ [v])[l.length]? = some v
  simp
def isPress (y : PyData) : Option Int := match y with
  | .tuple [.str x, .int b] => if x = ("press" : Str) then some b else none
  | _ => none
/-- what the edits that stand have told -/
def knM (n : Nat) (past : List (PyData × List (List Int) × List Int)) : List Str := past.foldl (fun k x => match isPress x.1 with | some b => joinM k (pressW x.2.1 b) | none => k) (List.replicate n wSame)
/-- an edit of the past: a press, or a change of a list -/
def PEd (n : Nat) (x : PyData × List (List Int) × List Int) : Prop := x.2.1.length = n ∧ ((∃ b : Int, x.1 = .tuple [.str "press", .int b] ∧ 0 ≤ b ∧ b < (n : Int)) ∨ ∃ (y : Str) (one other : Int), y ≠ "press" ∧ x.1 = .tuple [.str y, .int one, .int other])
theorem knM_len {n : Nat} {past : List (PyData × List (List Int) × List Int)} (h : ∀ x ∈ past, PEd n x) : (knM n past).length = n := by
  unfold knM
  have key : ∀ (l : List (PyData × List (List Int) × List Int)) (k : List Str), (∀ x ∈ l, PEd n x) → k.length = n → (l.foldl (fun k x => match isPress x.1 with | some b => joinM k (pressW x.2.1 b) | none => k) k).length = n := by
    intro l
    induction l with
    | nil => intro k _ hk; exact hk
    | cons x r ih =>
      intro k hx hk
      rw [List.foldl_cons]
      refine ih _ (fun y hy => hx y (List.mem_cons_of_mem _ hy)) ?_
      have hx0 := (hx x List.mem_cons_self).1
      cases isPress x.1 with
      | none => exact hk
      | some b => 
        have e1 : k.length = (pressW x.2.1 b).length := by rw [pressW_len]; omega
        show (joinM k (pressW x.2.1 b)).length = n
        rw [joinM_len e1, pressW_len]; exact hx0
  exact key past _ h (List.length_replicate ..)
/-- a desk stands at t -/
structure DeskAt (K : PySem.W.Frag) (C : Addr) (H : Hp) (t : Addr) (pan : List (List Int)) (st : List Int) (past : List (PyData × List (List Int) × List Int)) : Prop where
  ob : ∃ dx pa p l h hs kn, H t = some (.ins C dx (fldsD pa p l h kn)) ∧ PastAt K H pa past ∧ PanT K H p pan ∧ H l = some (.tup (st.map V.int)) ∧ SqT K H h (hs.map V.int) ∧ IsHeld pan st hs ∧ FT H kn ((knM pan.length past).map V.str)
  good : Good pan
  asc : Asc pan.length st
  lfe : ∀ x ∈ past, lf x.1 = true ∧ Good x.2.1 ∧ Asc x.2.1.length x.2.2 ∧ PEd pan.length x
section
variable {K : PySem.W.Frag} {C : Addr} {H H' : Hp} {t : Addr} {pan : List (List Int)} {st : List Int} {past : List (PyData × List (List Int) × List Int)}
theorem DeskAt.same (h : DeskAt K C H t pan st past) (s : Same H H') : DeskAt K C H' t pan st past := by
  obtain ⟨⟨dx, pa, p, l, hh, hs, kn, h1, h2, h3, h4, h5, h6, h7⟩, g, a, e⟩ := h
  exact ⟨⟨dx, pa, p, l, hh, hs, kn, s _ _ h1, h2.sm s, h3.same s, s _ _ h4, same_sqT s h5, h6, h7.same s⟩, g, a, e⟩
theorem DeskAt.but {a c : Addr} {m : Nat} (h : DeskAt K C H t pan st past) (D : Deck H a c m) (b : But a c H H') : DeskAt K C H' t pan st past := by
  obtain ⟨⟨dx, pa, p, l, hh, hs, kn, h1, h2, h3, h4, h5, h6, h7⟩, g, as, e⟩ := h
  have k := Kp.but D b
  have q := D.apart h1 (fun _ => by intro z; cases z)
  exact ⟨⟨dx, pa, p, l, hh, hs, kn, b _ _ q.1 q.2 h1, h2.kp k (fun x hx => ⟨(e x hx).1, (e x hx).2.1, (e x hx).2.2.1⟩), h3.kp k, k.1 _ _ h4, sqT_kp k h5, h6, h7.kp k⟩, g, as, e⟩
end
def spShow (K : PySem.W.Frag) (C : Addr) : Sp := fun vs H Q _ => ∃ (t p l dx pa : Addr) (fs : List (Str × V)) (pan : List (List Int)) (st : List Int) (past : List (PyData × List (List Int) × List Int)), vs = [.ref t, .ref p, .ref l] ∧ H t = some (.ins C dx fs) ∧ (fs = fD1 pa ∨ ∃ p0 l0 h0 k0, fs = fldsD pa p0 l0 h0 k0) ∧ PanT K H p pan ∧ Good pan ∧ SqT K H l (st.map V.int) ∧ Asc pan.length st ∧ PastAt K H pa past ∧ (∀ x ∈ past, lf x.1 = true ∧ Good x.2.1 ∧ Asc x.2.1.length x.2.2 ∧ PEd pan.length x) ∧
  ∀ H' h hs kn, ButO t H H' → H' t = some (.ins C dx (fldsD pa p l h kn)) → SqT K H' h (hs.map V.int) → IsHeld pan st hs → FT H' kn ((knM pan.length past).map V.str) → Q .non H'
def nInitD : List Str := ["self", "panel", "state"]
theorem scInitD : FnScope nInitD ["self", "panel", "state"] (defScope sInitD) := ⟨rfl, rfl, rfl, by decide +kernel, rfl, by decide +kernel, by decide +kernel⟩
section
variable {P : Program} {w : World} {K : PySem.W.Frag} {mg : Str → Option Value} {base : Heap}
def spInitD (K : PySem.W.Frag) (C : Addr) : Sp := fun vs H Q _ => ∃ (t p l dx : Addr) (pan : List (List Int)) (st : List Int), vs = [.ref t, .ref p, .ref l] ∧ H t = some (.ins C dx []) ∧ PanT K H p pan ∧ Good pan ∧ H l = some (.tup (st.map V.int)) ∧ Asc pan.length st ∧
  ∀ H', ButO t H H' → DeskAt K C H' t pan st [] → Q .non H'
theorem ok_InitD {fBtn : Addr} {fdBtn : FuncData} {fBtnT : Addr} {fdBtnT : FuncData} {fPErr : Addr} {fdPErr : FuncData} {fChkP : Addr} {fdChkP : FuncData} {fChkS : Addr} {fdChkS : FuncData} {C f : Addr} {fd : FuncData} {k : Nat} {tk : Tok} (F : Fun K "__init__" "Desk.__init__" sInitD f fd) (T : TxtD K mg C)
    (FBtn : Fun K "is_button" "is_button" sBtn fBtn fdBtn) (bBtn : Binds K fdBtn ["value", "many"] []) (gBtn : mg "is_button" = some (.ref fBtn))
    (FBtnT : Fun K "is_button_tuple" "is_button_tuple" sBtnT fBtnT fdBtnT) (bBtnT : Binds K fdBtnT ["value", "many"] []) (gBtnT : mg "is_button_tuple" = some (.ref fBtnT))
    (FPErr : Fun K "panel_error" "panel_error" sPErr fPErr fdPErr) (bPErr : Binds K fdPErr ["value"] []) (gPErr : mg "panel_error" = some (.ref fPErr))
    (FChkP : Fun K "check_panel" "check_panel" sChkP fChkP fdChkP) (bChkP : Binds K fdChkP ["value"] []) (gChkP : mg "check_panel" = some (.ref fChkP))
    (FChkS : Fun K "check_state" "check_state" sChkS fChkS fdChkS) (bChkS : Binds K fdChkS ["panel", "value"] []) (gChkS : mg "check_state" = some (.ref fChkS))
    {fShow : Addr} {fdShow : FuncData} (GShow0 : ∀ k0 : Nat, FnOk P w K mg base CX0 (k0 + 6) fShow fdShow ["self", "panel", "latched"] (spShow K C)) (bShow : Binds K fdShow ["self", "panel", "latched"] []) (hShow : Meth K C "show" fShow)
    (m_bool : mg "bool" = none) (m_enumerate : mg "enumerate" = none) (m_int : mg "int" = none) (m_isinstance : mg "isinstance" = none) (m_len : mg "len" = none) (m_tuple : mg "tuple" = none) (y_MAX : mg "MAX_BUTTONS" = some (.int 10 tk)) : FnOk P w K mg base CX0 (k + 7) f fd ["self", "panel", "state"] (spInitD K C) := by
  have GChkP : FnOk P w K mg base CX0 (k + 4) fChkP fdChkP ["value"] (spChkP K) := ok_ChkP FChkP FBtn bBtn gBtn FBtnT bBtnT gBtnT FPErr bPErr gPErr m_bool m_enumerate m_int m_isinstance m_len m_tuple y_MAX
  have GChkS : FnOk P w K mg base CX0 (k + 3) fChkS fdChkS ["panel", "value"] (spChkS K) := ok_ChkS FChkS FBtn bBtn gBtn FBtnT bBtnT gBtnT m_bool m_int m_isinstance m_len m_tuple
  have GShow : FnOk P w K mg base CX0 (k + 6) fShow fdShow ["self", "panel", "latched"] (spShow K C) := GShow0 k
  refine F.ok scInitD (fun vs H Q E h => ?_) (fun cdv A outer s H vs Q E hr h => ?_)
  · obtain ⟨t, p, l, dx, pan, st, rfl, _⟩ := h
    rfl
  · obtain ⟨t, p, l, dx, pan, st, rfl, ht, hp, hg, hl, hst, q⟩ := h
    refine ⟨_, pss_cons (ps_expr (pe_call GChkP (hr.mono (by omega)) (by rfl) gChkP FChkP.kp bChkP .nil pass0 (pa_cons (pv 1) pa_nil)))
      (pss_cons (ps_expr (pe_call GChkS (hr.mono (by omega)) (by rfl) gChkS FChkS.kp bChkS .nil pass0 (pa_cons (pv 1) (pa_cons (pv 2) pa_nil))))
      (pss_cons (ps_fld (pv 0) (pe_tup pa_nil) rfl)
      (pss_cons (ps_fld (pv 0) pe_bl rfl)
      (pss_one (ps_expr (pe_meth (pv 0) T.cl hShow GShow (hr.mono (by omega)) bShow .nil pass0 (pa_cons (pv 1) (pa_cons (pv 2) pa_nil)))))))), ?_⟩
    refine ⟨.ref p, rfl, p, pan, rfl, hp, hg, fun H1 s1 => ?_⟩
    refine ⟨.ref p, rfl, .ref l, rfl, p, l, pan, st, rfl, hp.same s1, .inl (.inl (s1 _ _ hl)), hst, fun H2 s2 => ?_⟩
    have s12 := s1.trans s2
    have e2 := s12 _ _ ht
    refine ⟨Nat.zero_le _, fun pa npa => ?_⟩
    have sp := same_new (o := .tup []) npa
    refine ⟨.ref t, rfl, t, C, dx, _, rfl, sp _ _ e2, T.cl, T.nA, by show 0 < 1000; decide, ?_⟩
    have k3 := ButO.upd (g := t) (H := upd H2 pa (.tup [])) (o := .ins C dx (putF "past" (.ref pa) []))
    refine ⟨.ref t, rfl, t, C, dx, _, rfl, upd_same, T.cl, T.nW, by show 1 < 1000; decide, ?_⟩
    rw [put_0]
    have k4 := ButO.upd (g := t) (H := upd (upd H2 pa (.tup [])) t (.ins C dx (putF "past" (.ref pa) []))) (o := .ins C dx (fD1 pa))
    have kk := (k3.trans k4).kp (sp _ _ e2)
    have sH := s12.trans sp
    have pt : pa ≠ t := fun z => by rw [z, e2] at npa; cases npa
    refine ⟨.ref t, rfl, t, dx, _, rfl, upd_same, by rfl, .ref p, rfl, .ref l, rfl, t, p, l, dx, pa, fD1 pa, pan, st, [], rfl, upd_same, .inl rfl, (hp.same sH).kp kk, hg, .inl (.inl (kk.1 _ _ (sH _ _ hl))), hst, ⟨[], .inl (.inl (k4.kp upd_same |>.1 _ _ (by rw [upd_ne pt]; exact upd_same))), .nil⟩, (fun x hx => by cases hx), fun H5 h hs kn k5 e5 hh ish hkn => ?_⟩
    have kAll := ((ButO.of sH).trans (k3.trans k4)).trans k5
    have kp5 := kk.trans (k5.kp upd_same)
    refine q H5 kAll ⟨⟨dx, pa, p, l, h, hs, kn, e5, ⟨[], .inl (.inl (kp5.1 _ _ upd_same)), .nil⟩, (hp.same sH).kp kp5, kp5.1 _ _ (sH _ _ hl), hh, ish, hkn⟩, hg, hst, fun x hx => by cases hx⟩
end
end K64G
namespace K64G
open PySem PySem.Spec PyProof.Rows L2 Pr K64
section
variable {K : PySem.W.Frag} {C : Addr} {H H' : Hp} {t : Addr} {pan : List (List Int)} {st : List Int} {past : List (PyData × List (List Int) × List Int)} {σ : L2.St} {mg : Str → Option Value} {i : Nat}
theorem gv_past (T : TxtD K mg C) (hi : σ[i]? = some (some (.ref t))) (h : DeskAt K C H t pan st past) : Gv K (tFld K (tVar i) "past") σ H (dPast past) := fun H1 s Q q => by
  obtain ⟨⟨dx, pa, p, l, hh, hs, kn, h1, h2, _⟩, _⟩ := h.same s
  exact ⟨.ref t, hi, t, C, dx, _, .ref pa, rfl, h1, T.cl, T.nA, look_past _ _ _ _ _, q _ H1 (Same.refl _) h2.dp⟩
theorem gv_panel (T : TxtD K mg C) (hi : σ[i]? = some (some (.ref t))) (h : DeskAt K C H t pan st past) : Gv K (tFld K (tVar i) "panel") σ H (dPan pan) := fun H1 s Q q => by
  obtain ⟨⟨dx, pa, p, l, hh, hs, kn, h1, h2, h3, _⟩, _⟩ := h.same s
  exact ⟨.ref t, hi, t, C, dx, _, .ref p, rfl, h1, T.cl, T.nP, look_panel _ _ _ _ _, q _ H1 (Same.refl _) h3.dp⟩
theorem gv_latched (T : TxtD K mg C) (hi : σ[i]? = some (some (.ref t))) (h : DeskAt K C H t pan st past) : Gv K (tFld K (tVar i) "latched") σ H (dInts st) := fun H1 s Q q => by
  obtain ⟨⟨dx, pa, p, l, hh, hs, kn, h1, h2, h3, h4, _⟩, _⟩ := h.same s
  exact ⟨.ref t, hi, t, C, dx, _, .ref l, rfl, h1, T.cl, T.nL, look_latched _ _ _ _ _, q _ H1 (Same.refl _) (dp_ints (.inl (.inl h4)))⟩
theorem gv_most (T : TxtD K mg C) (hi : σ[i]? = some (some (.ref t))) (h : DeskAt K C H t pan st past) : Gv K (tCon K (tVar i) "MOST_EDITS") σ H (.int 60) := fun H1 s Q q => by
  obtain ⟨⟨dx, pa, p, l, hh, hs, kn, h1, _⟩, _⟩ := h.same s
  obtain ⟨u, hu⟩ := T.con
  exact ⟨.ref t, hi, t, C, dx, _, .int 60, u, rfl, h1, T.cl, hu, by rfl, q _ H1 (Same.refl _) (.int _)⟩
end
def InP2 (pan : List (List Int)) (one other : Int) : Prop := 0 ≤ one ∧ one < (pan.length : Int) ∧ 0 ≤ other ∧ other < (pan.length : Int) ∧ one ≠ other
def nFree : List Str := ["self"]
theorem scFree : FnScope nFree ["self"] (defScope sFree) := ⟨rfl, rfl, rfl, by decide +kernel, rfl, by decide +kernel, by decide +kernel⟩
section
variable {P : Program} {w : World} {K : PySem.W.Frag} {mg : Str → Option Value} {base : Heap}
def spFree (K : PySem.W.Frag) (C : Addr) : Sp := fun vs H Q _ => ∃ (t : Addr) (pan : List (List Int)) (st : List Int) (past : List (PyData × List (List Int) × List Int)), vs = [.ref t] ∧ DeskAt K C H t pan st past ∧ ∀ H', Same H H' → Q .non H'
theorem ok_Free  {C f : Addr} {fd : FuncData} {k : Nat} (F : Fun K "check_free" "Desk.check_free" sFree f fd) (T : TxtD K mg C)
     : FnOk P w K mg base CX0 (k + 1) f fd ["self"] (spFree K C) := by
  refine F.ok scFree (fun vs H Q E h => ?_) (fun cdv A outer s H vs Q E hr h => ?_)
  · obtain ⟨t, pan, st, past, rfl, _⟩ := h
    rfl
  · obtain ⟨t, pan, st, past, rfl, hD, q⟩ := h
    have hD' := hD
    obtain ⟨⟨dx, pa, p, l, hh, hs, kn, h1, h2, h3, h4, h5, h6, h7⟩, hg, hst, lfe⟩ := hD'
    refine ⟨_, pss_one (ps_if (pt_val (pe_fld (pv 0) rfl)) (pss_one ps_never) pss_nil), ?_⟩
    exact ⟨.ref t, rfl, t, C, dx, _, .bl false, rfl, h1, T.cl, T.nW, look_watched _ _ _ _ _, false, rfl, iteF (q H (Same.refl _))⟩
end
def nRoom : List Str := ["self"]
theorem scRoom : FnScope nRoom ["self"] (defScope sRoom) := ⟨rfl, rfl, rfl, by decide +kernel, rfl, by decide +kernel, by decide +kernel⟩
section
variable {P : Program} {w : World} {K : PySem.W.Frag} {mg : Str → Option Value} {base : Heap}
def spRoom (K : PySem.W.Frag) (C : Addr) : Sp := fun vs H Q _ => ∃ (t : Addr) (pan : List (List Int)) (st : List Int) (past : List (PyData × List (List Int) × List Int)), vs = [.ref t] ∧ DeskAt K C H t pan st past ∧ past.length < 60 ∧ ∀ H', Same H H' → Q .non H'
theorem ok_Room  {C f : Addr} {fd : FuncData} {k : Nat} (F : Fun K "check_room" "Desk.check_room" sRoom f fd) (T : TxtD K mg C)
    {fFree : Addr} {fdFree : FuncData} (FFree : Fun K "check_free" "Desk.check_free" sFree fFree fdFree) (bFree : Binds K fdFree ["self"] []) (hFree : Meth K C "check_free" fFree)
    (m_len : mg "len" = none) : FnOk P w K mg base CX0 (k + 2) f fd ["self"] (spRoom K C) := by
  have GFree : FnOk P w K mg base CX0 (k + 1) fFree fdFree ["self"] (spFree K C) := ok_Free FFree T   
  refine F.ok scRoom (fun vs H Q E h => ?_) (fun cdv A outer s H vs Q E hr h => ?_)
  · obtain ⟨t, pan, st, past, rfl, _⟩ := h
    rfl
  · obtain ⟨t, pan, st, past, rfl, hD, few, q⟩ := h
    have hD' := hD
    obtain ⟨⟨dx, pa, p, l, hh, hs, kn, h1, h2, h3, h4, h5, h6, h7⟩, hg, hst, lfe⟩ := hD'
    refine ⟨_, pss_cons (ps_expr (pe_meth0 (pv 0) T.cl hFree GFree (hr.mono (by omega)) bFree .nil pass0))
      (pss_one (ps_if (pt_cmpR op_ge (pe_callB (show CallR _ _ (rLenG K) from cr_lenG) (by rfl) m_len PySem.boot_len (pa_cons (pe_fld (pv 0) rfl) pa_nil)) (pe_con (pv 0) rfl) (nomark _)) (pss_one ps_never) pss_nil)), ?_⟩
    refine ⟨.ref t, rfl, t, dx, _, rfl, h1, by rfl, t, pan, st, past, rfl, hD, fun H1 s1 => ?_⟩
    refine gs_noN (b := decide ((60 : Int) ≤ ((past.map dEnt).length : Int))) (gvt_test (K := K) (gv_I0 (gv_lenT (gv_past T rfl (hD.same s1))) (gv_most T rfl (hD.same s1)) fun _ => .bl _)) (by rw [List.length_map]; exact decide_eq_false (by omega)) fun H2 s2 => q H2 (s1.trans s2)
end
def nLink0 : List Str := ["self", "one", "other"]
theorem scLink0 : FnScope nLink0 ["self", "one", "other"] (defScope sLink0) := ⟨rfl, rfl, rfl, by decide +kernel, rfl, by decide +kernel, by decide +kernel⟩
section
variable {P : Program} {w : World} {K : PySem.W.Frag} {mg : Str → Option Value} {base : Heap}
def spLink0 (K : PySem.W.Frag) (C : Addr) : Sp := fun vs H Q _ => ∃ (t : Addr) (pan : List (List Int)) (st : List Int) (past : List (PyData × List (List Int) × List Int)) (one other : Int), vs = [.ref t, .int one, .int other] ∧ DeskAt K C H t pan st past ∧ past.length < 60 ∧ InP2 pan one other ∧ ∀ H', Same H H' → Q .non H'
theorem ok_Link0 {fBtn : Addr} {fdBtn : FuncData} {fChkB : Addr} {fdChkB : FuncData} {C f : Addr} {fd : FuncData} {k : Nat} (F : Fun K "check_link" "Desk.check_link" sLink0 f fd) (T : TxtD K mg C)
    (FBtn : Fun K "is_button" "is_button" sBtn fBtn fdBtn) (bBtn : Binds K fdBtn ["value", "many"] []) (gBtn : mg "is_button" = some (.ref fBtn))
    (FChkB : Fun K "check_button" "check_button" sChkB fChkB fdChkB) (bChkB : Binds K fdChkB ["panel", "value"] []) (gChkB : mg "check_button" = some (.ref fChkB))
    {fFree : Addr} {fdFree : FuncData} (FFree : Fun K "check_free" "Desk.check_free" sFree fFree fdFree) (bFree : Binds K fdFree ["self"] []) (hFree : Meth K C "check_free" fFree)
    {fRoom : Addr} {fdRoom : FuncData} (FRoom : Fun K "check_room" "Desk.check_room" sRoom fRoom fdRoom) (bRoom : Binds K fdRoom ["self"] []) (hRoom : Meth K C "check_room" fRoom)
    (m_bool : mg "bool" = none) (m_int : mg "int" = none) (m_isinstance : mg "isinstance" = none) (m_len : mg "len" = none) : FnOk P w K mg base CX0 (k + 3) f fd ["self", "one", "other"] (spLink0 K C) := by
  have GChkB : FnOk P w K mg base CX0 (k + 2) fChkB fdChkB ["panel", "value"] (spChkB K) := ok_ChkB FChkB FBtn bBtn gBtn m_bool m_int m_isinstance m_len
  have GRoom : FnOk P w K mg base CX0 (k + 2) fRoom fdRoom ["self"] (spRoom K C) := ok_Room FRoom T  FFree bFree hFree m_len
  refine F.ok scLink0 (fun vs H Q E h => ?_) (fun cdv A outer s H vs Q E hr h => ?_)
  · obtain ⟨t, pan, st, past, one, other, rfl, _⟩ := h
    rfl
  · obtain ⟨t, pan, st, past, one, other, rfl, hD, few, ⟨o0, o1, u0, u1, ne⟩, q⟩ := h
    have hD' := hD
    obtain ⟨⟨dx, pa, p, l, hh, hs, kn, h1, h2, h3, h4, h5, h6, h7⟩, hg, hst, lfe⟩ := hD'
    refine ⟨_, pss_cons (ps_expr (pe_meth0 (pv 0) T.cl hRoom GRoom (hr.mono (by omega)) bRoom .nil pass0))
      (pss_cons (ps_expr (pe_call GChkB (hr.mono (by omega)) (by rfl) gChkB FChkB.kp bChkB .nil pass0 (pa_cons (pe_fld (pv 0) rfl) (pa_cons (pv 1) pa_nil))))
      (pss_cons (ps_expr (pe_call GChkB (hr.mono (by omega)) (by rfl) gChkB FChkB.kp bChkB .nil pass0 (pa_cons (pe_fld (pv 0) rfl) (pa_cons (pv 2) pa_nil))))
      (pss_one (ps_if (pt_cmpR op_eq (pv 1) (pv 2) (nomark _)) (pss_one ps_never) pss_nil)))), ?_⟩
    refine ⟨.ref t, rfl, t, dx, _, rfl, h1, by rfl, t, pan, st, past, rfl, hD, few, fun H1 s1 => ?_⟩
    refine ⟨.ref t, rfl, t, C, dx, _, .ref p, rfl, s1 _ _ h1, T.cl, T.nP, look_panel _ _ _ _ _, .int one, rfl, p, pan, one, rfl, h3.same s1, o0, o1, fun H2 s2 => ?_⟩
    have s12 := s1.trans s2
    refine ⟨.ref t, rfl, t, C, dx, _, .ref p, rfl, s12 _ _ h1, T.cl, T.nP, look_panel _ _ _ _ _, .int other, rfl, p, pan, other, rfl, h3.same s12, u0, u1, fun H3 s3 => ?_⟩
    refine gs_noN (gvt_test (K := K) (gv_eqI (gv_var rfl (.int one)) (gv_var rfl (.int other)))) (decide_eq_false ne) fun H4 s4 => q H4 (s12.trans (s3.trans s4))
end
def nAdd : List Str := ["self", "edit", "panel", "latched"]
theorem scAdd : FnScope nAdd ["self", "edit", "panel", "latched"] (defScope sAdd) := ⟨rfl, rfl, rfl, by decide +kernel, rfl, by decide +kernel, by decide +kernel⟩
section
variable {P : Program} {w : World} {K : PySem.W.Frag} {mg : Str → Option Value} {base : Heap}
def spAdd (K : PySem.W.Frag) (C : Addr) : Sp := fun vs H Q _ => ∃ (t : Addr) (pan : List (List Int)) (st : List Int) (past : List (PyData × List (List Int) × List Int)) (ve : V) (de : PyData) (p' l' : Addr) (pan' : List (List Int)) (st' : List Int), vs = [.ref t, ve, .ref p', .ref l'] ∧ DeskAt K C H t pan st past ∧ past.length ≤ 60 ∧ Dp K H ve de ∧ lf de = true ∧ PEd pan.length (de, pan, st) ∧ pan'.length = pan.length ∧ PanT K H p' pan' ∧ Good pan' ∧ H l' = some (.tup (st'.map V.int)) ∧ Asc pan'.length st' ∧
  ∀ H', ButO t H H' → DeskAt K C H' t pan' st' (past ++ [(de, pan, st)]) → Q (.int ((past.length + 1 : Nat) : Int)) H'
theorem ok_Add  {C f : Addr} {fd : FuncData} {k : Nat} (F : Fun K "add_edit" "Desk.add_edit" sAdd f fd) (T : TxtD K mg C)
    {fShow : Addr} {fdShow : FuncData} (GShow0 : ∀ k0 : Nat, FnOk P w K mg base CX0 (k0 + 6) fShow fdShow ["self", "panel", "latched"] (spShow K C)) (bShow : Binds K fdShow ["self", "panel", "latched"] []) (hShow : Meth K C "show" fShow)
    (m_len : mg "len" = none) : FnOk P w K mg base CX0 (k + 7) f fd ["self", "edit", "panel", "latched"] (spAdd K C) := by
  have GShow : FnOk P w K mg base CX0 (k + 6) fShow fdShow ["self", "panel", "latched"] (spShow K C) := GShow0 k
  refine F.ok scAdd (fun vs H Q E h => ?_) (fun cdv A outer s H vs Q E hr h => ?_)
  · obtain ⟨t, pan, st, past, ve, de, p', l', pan', st', rfl, _⟩ := h
    rfl
  · obtain ⟨t, pan, st, past, ve, de, p', l', pan', st', rfl, hD, few, dve, lde, ped, hpl', hp', hg', hl', hst', q⟩ := h
    have hD' := hD
    obtain ⟨⟨dx, pa, p, l, hh, hs, kn, h1, h2, h3, h4, h5, h6, h7⟩, hg, hst, lfe⟩ := hD'
    refine ⟨_, pss_cons (ps_fld (pv 0) (pe_tup (StX.pa_star (pe_fld (pv 0) rfl) (pa_cons (pe_tup (pa_cons (pv 1) (pa_cons (pe_fld (pv 0) rfl) (pa_cons (pe_fld (pv 0) rfl) pa_nil)))) pa_nil))) rfl)
      (pss_cons (ps_expr (pe_meth (pv 0) T.cl hShow GShow (hr.mono (by omega)) bShow .nil pass0 (pa_cons (pv 2) (pa_cons (pv 3) pa_nil))))
      (pss_one (ps_ret (pe_callB (show CallR _ _ (rLenG K) from cr_lenG) (by rfl) m_len PySem.boot_len (pa_cons (pe_fld (pv 0) rfl) pa_nil))))), ?_⟩
    obtain ⟨xs, hpa, hxs⟩ := h2
    have xl : xs.length ≤ 60 := by rw [hxs.length]; exact few
    refine ⟨.ref t, rfl, t, C, dx, _, .ref pa, rfl, h1, T.cl, T.nA, look_past _ _ _ _ _, pa, xs, rfl, .inl hpa, ve, rfl, .ref t, rfl, t, C, dx, _, .ref p, rfl, h1, T.cl, T.nP, look_panel _ _ _ _ _, .ref t, rfl, t, C, dx, _, .ref l, rfl, h1, T.cl, T.nL, look_latched _ _ _ _ _, by show 3 ≤ sizeLine; decide, fun Te nTe => ⟨?_, fun pa' npa => ?_⟩⟩
    · rw [List.length_append]; exact Nat.le_of_lt (small5 (by show _ + 1 ≤ _; omega))
    have sTe := same_new (o := .tup [ve, .ref p, .ref l]) nTe
    have spa := same_new (o := .tup (xs ++ [.ref Te])) npa
    have s1 := sTe.trans spa
    have eTe := spa _ _ (upd_same (a := Te) (H := H) (o := .tup [ve, .ref p, .ref l]))
    have epa : (upd (upd H Te (.tup [ve, .ref p, .ref l])) pa' (.tup (xs ++ [.ref Te]))) pa' = some (.tup (xs ++ [.ref Te])) := upd_same
    generalize upd (upd H Te (.tup [ve, .ref p, .ref l])) pa' (.tup (xs ++ [.ref Te])) = H1 at s1 eTe epa ⊢
    have e1 := s1 _ _ h1
    refine ⟨.ref t, rfl, t, C, dx, _, rfl, e1, T.cl, T.nA, by show 6 < 1000; decide, ?_⟩
    rw [put_p]
    have k2 := ButO.upd (g := t) (H := H1) (o := .ins C dx (fldsD pa' p l hh kn))
    have kp2 := k2.kp e1
    have hP1 : PastAt K H1 pa' (past ++ [(de, pan, st)]) := ⟨_, .inl (.inl epa), prApp (ents_sm s1 hxs) (.cons ⟨Te, p, l, ve, rfl, .inl (.inl eTe), dve.sm s1, h3.same s1, s1 _ _ h4⟩ .nil)⟩
    have lfe' : ∀ x ∈ past ++ [(de, pan, st)], lf x.1 = true ∧ Good x.2.1 ∧ Asc x.2.1.length x.2.2 ∧ PEd pan'.length x := fun x hx => by
      rcases List.mem_append.mp hx with h | h
      · rw [hpl']; exact lfe x h
      · rw [List.mem_singleton.mp h]; rw [hpl']; exact ⟨lde, hg, hst, ped⟩
    refine ⟨.ref t, rfl, t, dx, _, rfl, upd_same, by rfl, .ref p', rfl, .ref l', rfl, t, p', l', dx, pa', fldsD pa' p l hh kn, pan', st', past ++ [(de, pan, st)], rfl, upd_same, .inr ⟨_, _, _, _, rfl⟩, (hp'.same s1).kp kp2, hg', .inl (.inl (kp2.1 _ _ (s1 _ _ hl'))), hst', hP1.kp kp2 (fun x hx => ⟨(lfe' x hx).1, (lfe' x hx).2.1, (lfe' x hx).2.2.1⟩), lfe', fun H3 h hs' kn' k3 e3 hh' ish hkn => ?_⟩
    have kp3 := kp2.trans (k3.kp upd_same)
    have hN : DeskAt K C H3 t pan' st' (past ++ [(de, pan, st)]) := ⟨⟨dx, pa', p', l', h, hs', kn', e3, hP1.kp kp3 (fun x hx => ⟨(lfe' x hx).1, (lfe' x hx).2.1, (lfe' x hx).2.2.1⟩), (hp'.same s1).kp kp3, kp3.1 _ _ (s1 _ _ hl'), hh', ish, hkn⟩, hg', hst', lfe'⟩
    refine gs_ret (K := K) (gv_lenT (gv_past T rfl hN)) fun v H4 s4 dv4 => ?_
    cases dv4
    rw [List.length_map, List.length_append]
    exact q H4 (((ButO.of s1).trans k2).trans (k3.trans (ButO.of s4))) (hN.same s4)
end
def nChg : List Str := ["self", "edit", "panel"]
theorem scChg : FnScope nChg ["self", "edit", "panel"] (defScope sChg) := ⟨rfl, rfl, rfl, by decide +kernel, rfl, by decide +kernel, by decide +kernel⟩
section
variable {P : Program} {w : World} {K : PySem.W.Frag} {mg : Str → Option Value} {base : Heap}
def spChg (K : PySem.W.Frag) (C : Addr) : Sp := fun vs H Q _ => ∃ (t : Addr) (pan : List (List Int)) (st : List Int) (past : List (PyData × List (List Int) × List Int)) (ve : V) (de : PyData) (p' : Addr) (pan' : List (List Int)), vs = [.ref t, ve, .ref p'] ∧ DeskAt K C H t pan st past ∧ past.length ≤ 60 ∧ Dp K H ve de ∧ lf de = true ∧ PEd pan.length (de, pan, st) ∧ PanT K H p' pan' ∧ Good pan' ∧ pan'.length = pan.length ∧ pan' ≠ pan ∧
  ∀ H', ButO t H H' → DeskAt K C H' t pan' st (past ++ [(de, pan, st)]) → Q (.int ((past.length + 1 : Nat) : Int)) H'
theorem ok_Chg  {C f : Addr} {fd : FuncData} {k : Nat} (F : Fun K "change_panel" "Desk.change_panel" sChg f fd) (T : TxtD K mg C)
    {fShow : Addr} {fdShow : FuncData} (GShow0 : ∀ k0 : Nat, FnOk P w K mg base CX0 (k0 + 6) fShow fdShow ["self", "panel", "latched"] (spShow K C)) (bShow : Binds K fdShow ["self", "panel", "latched"] []) (hShow : Meth K C "show" fShow)
    {fAdd : Addr} {fdAdd : FuncData} (FAdd : Fun K "add_edit" "Desk.add_edit" sAdd fAdd fdAdd) (bAdd : Binds K fdAdd ["self", "edit", "panel", "latched"] []) (hAdd : Meth K C "add_edit" fAdd)
    (m_len : mg "len" = none) : FnOk P w K mg base CX0 (k + 8) f fd ["self", "edit", "panel"] (spChg K C) := by
  have GAdd : FnOk P w K mg base CX0 (k + 7) fAdd fdAdd ["self", "edit", "panel", "latched"] (spAdd K C) := ok_Add FAdd T  GShow0 bShow hShow m_len
  refine F.ok scChg (fun vs H Q E h => ?_) (fun cdv A outer s H vs Q E hr h => ?_)
  · obtain ⟨t, pan, st, past, ve, de, p', pan', rfl, _⟩ := h
    rfl
  · obtain ⟨t, pan, st, past, ve, de, p', pan', rfl, hD, few, dve, lde, ped, hp', hg', hpl, hne, q⟩ := h
    have hD' := hD
    obtain ⟨⟨dx, pa, p, l, hh, hs, kn, h1, h2, h3, h4, h5, h6, h7⟩, hg, hst, lfe⟩ := hD'
    refine ⟨_, pss_cons (ps_if (pt_cmpR (show OpR _ _ (rEqD K) from op_eqD hr.units) (pv 2) (pe_fld (pv 0) rfl) (nomark _)) (pss_one ps_never) pss_nil)
      (pss_one (ps_ret (pe_meth (pv 0) T.cl hAdd GAdd (hr.mono (by omega)) bAdd .nil pass0 (pa_cons (pv 1) (pa_cons (pv 2) (pa_cons (pe_fld (pv 0) rfl) pa_nil)))))), ?_⟩
    refine gs_no (gvt_test (K := K) (gv_eqD (gv_var rfl hp'.dp) (gv_panel T rfl hD) (shp_rowsT _) (shp_rowsT _))) ((eqv_rowsT _ _).trans (decide_eq_false hne)) fun H1 s1 => ?_
    refine ⟨.ref t, rfl, t, dx, _, rfl, s1 _ _ h1, by rfl, ve, rfl, .ref p', rfl, .ref t, rfl, t, C, dx, _, .ref l, rfl, s1 _ _ h1, T.cl, T.nL, look_latched _ _ _ _ _, t, pan, st, past, ve, de, p', l, pan', st, rfl, hD.same s1, few, dve.sm s1, lde, ped, hpl, hp'.same s1, hg', s1 _ _ h4, by rw [hpl]; exact hst, fun H2 k2 hN => q H2 ((ButO.of s1).trans k2) hN⟩
end
def nPressD : List Str := ["self", "button", "latched"]
theorem scPressD : FnScope nPressD ["self", "button"] (defScope sPressD) := ⟨rfl, rfl, rfl, by decide +kernel, rfl, by decide +kernel, by decide +kernel⟩
section
variable {P : Program} {w : World} {K : PySem.W.Frag} {mg : Str → Option Value} {base : Heap}
def spPressD (K : PySem.W.Frag) (C : Addr) : Sp := fun vs H Q _ => ∃ (t : Addr) (pan : List (List Int)) (st : List Int) (past : List (PyData × List (List Int) × List Int)) (b : Int), vs = [.ref t, .int b] ∧ DeskAt K C H t pan st past ∧ past.length < 60 ∧ 0 ≤ b ∧ b < (pan.length : Int) ∧
  ∀ H', ButO t H H' → DeskAt K C H' t pan (pressM pan st b) (past ++ [(.tuple [.str "press", .int b], pan, st)]) → Q (.int ((past.length + 1 : Nat) : Int)) H'
theorem ok_PressD {fBtn : Addr} {fdBtn : FuncData} {fPress : Addr} {fdPress : FuncData} {fChkB : Addr} {fdChkB : FuncData} {C f : Addr} {fd : FuncData} {k : Nat} (F : Fun K "press" "Desk.press" sPressD f fd) (T : TxtD K mg C)
    (FBtn : Fun K "is_button" "is_button" sBtn fBtn fdBtn) (bBtn : Binds K fdBtn ["value", "many"] []) (gBtn : mg "is_button" = some (.ref fBtn))
    (FPress : Fun K "press_button" "press_button" sPress fPress fdPress) (bPress : Binds K fdPress ["panel", "state", "button"] []) (gPress : mg "press_button" = some (.ref fPress))
    (FChkB : Fun K "check_button" "check_button" sChkB fChkB fdChkB) (bChkB : Binds K fdChkB ["panel", "value"] []) (gChkB : mg "check_button" = some (.ref fChkB))
    {fFree : Addr} {fdFree : FuncData} (FFree : Fun K "check_free" "Desk.check_free" sFree fFree fdFree) (bFree : Binds K fdFree ["self"] []) (hFree : Meth K C "check_free" fFree)
    {fRoom : Addr} {fdRoom : FuncData} (FRoom : Fun K "check_room" "Desk.check_room" sRoom fRoom fdRoom) (bRoom : Binds K fdRoom ["self"] []) (hRoom : Meth K C "check_room" fRoom)
    {fShow : Addr} {fdShow : FuncData} (GShow0 : ∀ k0 : Nat, FnOk P w K mg base CX0 (k0 + 6) fShow fdShow ["self", "panel", "latched"] (spShow K C)) (bShow : Binds K fdShow ["self", "panel", "latched"] []) (hShow : Meth K C "show" fShow)
    {fAdd : Addr} {fdAdd : FuncData} (FAdd : Fun K "add_edit" "Desk.add_edit" sAdd fAdd fdAdd) (bAdd : Binds K fdAdd ["self", "edit", "panel", "latched"] []) (hAdd : Meth K C "add_edit" fAdd)
    (m_bool : mg "bool" = none) (m_int : mg "int" = none) (m_isinstance : mg "isinstance" = none) (m_len : mg "len" = none) (m_sorted : mg "sorted" = none) (m_tuple : mg "tuple" = none) : FnOk P w K mg base CX0 (k + 8) f fd ["self", "button"] (spPressD K C) := by
  have GChkB : FnOk P w K mg base CX0 (k + 2) fChkB fdChkB ["panel", "value"] (spChkB K) := ok_ChkB FChkB FBtn bBtn gBtn m_bool m_int m_isinstance m_len
  have GPress : FnOk P w K mg base CX0 (k + 1) fPress fdPress ["panel", "state", "button"] (spPress K) := ok_Press FPress m_sorted m_tuple
  have GRoom : FnOk P w K mg base CX0 (k + 2) fRoom fdRoom ["self"] (spRoom K C) := ok_Room FRoom T  FFree bFree hFree m_len
  have GAdd : FnOk P w K mg base CX0 (k + 7) fAdd fdAdd ["self", "edit", "panel", "latched"] (spAdd K C) := ok_Add FAdd T  GShow0 bShow hShow m_len
  refine F.ok scPressD (fun vs H Q E h => ?_) (fun cdv A outer s H vs Q E hr h => ?_)
  · obtain ⟨t, pan, st, past, b, rfl, _⟩ := h
    rfl
  · obtain ⟨t, pan, st, past, b, rfl, hD, few, b0, b1, q⟩ := h
    have hD' := hD
    obtain ⟨⟨dx, pa, p, l, hh, hs, kn, h1, h2, h3, h4, h5, h6, h7⟩, hg, hst, lfe⟩ := hD'
    refine ⟨_, pss_cons (ps_expr (pe_meth0 (pv 0) T.cl hRoom GRoom (hr.mono (by omega)) bRoom .nil pass0))
      (pss_cons (ps_expr (pe_call GChkB (hr.mono (by omega)) (by rfl) gChkB FChkB.kp bChkB .nil pass0 (pa_cons (pe_fld (pv 0) rfl) (pa_cons (pv 1) pa_nil))))
      (pss_cons (ps_set (i := 2) scPressD.nd rfl (.inl rfl) (pe_call GPress (hr.mono (by omega)) (by rfl) gPress FPress.kp bPress .nil pass0 (pa_cons (pe_fld (pv 0) rfl) (pa_cons (pe_fld (pv 0) rfl) (pa_cons (pv 1) pa_nil)))))
      (pss_one (ps_ret (pe_meth (pv 0) T.cl hAdd GAdd (hr.mono (by omega)) bAdd .nil pass0 (pa_cons (pe_tup (pa_cons pe_str (pa_cons (pv 1) pa_nil))) (pa_cons (pe_fld (pv 0) rfl) (pa_cons (pv 2) pa_nil)))))))), ?_⟩
    refine ⟨.ref t, rfl, t, dx, _, rfl, h1, by rfl, t, pan, st, past, rfl, hD, few, fun H1 s1 => ?_⟩
    refine ⟨.ref t, rfl, t, C, dx, _, .ref p, rfl, s1 _ _ h1, T.cl, T.nP, look_panel _ _ _ _ _, .int b, rfl, p, pan, b, rfl, h3.same s1, b0, b1, fun H2 s2 => ?_⟩
    have s12 := s1.trans s2
    have e2 := s12 _ _ h1
    refine ⟨.ref t, rfl, t, C, dx, _, .ref p, rfl, e2, T.cl, T.nP, look_panel _ _ _ _ _, .ref t, rfl, t, C, dx, _, .ref l, rfl, e2, T.cl, T.nL, look_latched _ _ _ _ _, .int b, rfl, pan, st, b, .cons (h3.same s12).dp (.cons (dp_ints (.inl (.inl (s12 _ _ h4)))) (.cons (.int _) .nil)), hst, hg.few, b0, b1, fun H3 l' s3 el => ?_⟩
    have s13 := s12.trans s3
    have e3 := s13 _ _ h1
    refine ⟨.ref t, rfl, t, dx, _, rfl, e3, by rfl, .int b, rfl, by show 2 ≤ sizeLine; decide, fun Te nTe => ?_⟩
    have sTe := same_new (o := .tup [.str "press", .int b]) nTe
    have s14 := s13.trans sTe
    refine ⟨.ref t, rfl, t, C, dx, _, .ref p, rfl, s14 _ _ h1, T.cl, T.nP, look_panel _ _ _ _ _, .ref l', rfl, t, pan, st, past, .ref Te, _, p, l', pan, pressM pan st b, rfl, hD.same s14, by omega, .tup (.inl (.inl upd_same)) (.cons (.str _) (.cons (.int _) .nil)), rfl, ⟨rfl, .inl ⟨b, rfl, b0, b1⟩⟩, rfl, h3.same s14, hg, sTe _ _ el, pressM_asc _ _ _, fun H5 k5 hN => q H5 ((ButO.of s14).trans k5) hN⟩
end
end K64G
namespace K64G
open PySem PySem.Spec PyProof.Rows L2 Pr K64
theorem set_mem {pan : List (List Int)} {i : Nat} {x l : List Int} (h : l ∈ pan.set i x) : l = x ∨ l ∈ pan := by
  rcases List.mem_or_eq_of_mem_set h with h | h
  · exact .inr h
  · exact .inl h
theorem good_set {pan : List (List Int)} (g : Good pan) {i : Nat} {x : List Int} (hi : i < pan.length) (up : x.Pairwise (· < ·)) (rng : ∀ y ∈ x, 0 ≤ y ∧ y < (pan.length : Int)) (own : (i : Int) ∉ x) : Good (pan.set i x) := by
  have hl : (pan.set i x).length = pan.length := List.length_set
  refine ⟨by rw [hl]; exact g.pos, by rw [hl]; exact g.few, fun l h => ?_, fun l h => ?_, fun j l h => ?_⟩
  · rcases set_mem h with rfl | h
    · exact up
    · exact g.up l h
  · rw [hl]
    rcases set_mem h with rfl | h
    · exact rng
    · exact g.rng l h
  · rw [List.getElem?_set] at h
    by_cases e : i = j
    · rw [if_pos e, if_pos hi] at h
      cases h
      rw [← e]; exact own
    · rw [if_neg e] at h
      exact g.own j l h
theorem rel_mem {pan : List (List Int)} {i : Nat} (hi : i < pan.length) : pan.getD i [] ∈ pan := by
  rw [List.getD_eq_getElem?_getD, List.getElem?_eq_getElem hi]; exact List.getElem_mem hi
theorem good_li {pan : List (List Int)} (g : Good pan) {one other : Int} (h : InP2 pan one other) (hn : other ∉ pan.getD one.toNat []) : Good (liM pan one other) ∧ (liM pan one other).length = pan.length ∧ liM pan one other ≠ pan := by
  obtain ⟨o0, o1, u0, u1, ne⟩ := h
  have hi : one.toNat < pan.length := by omega
  have e : liM pan one other = pan.set one.toNat (srt (pan.getD one.toNat [] ++ [other])) := by unfold liM; rw [if_neg hn]
  have hm := rel_mem hi
  have up := g.up _ hm
  rw [e]
  have nd : (pan.getD one.toNat [] ++ [other]).Nodup := by
    rw [List.nodup_append]
    refine ⟨up.imp fun {a b} h => by omega, by simp, fun x hx y hy z => ?_⟩
    rw [List.mem_singleton.mp hy] at z
    exact hn (z ▸ hx)
  have mem : ∀ x, x ∈ srt (pan.getD one.toNat [] ++ [other]) ↔ x ∈ pan.getD one.toNat [] ∨ x = other := fun x => by rw [srt_mem, List.mem_append, List.mem_singleton]
  refine ⟨good_set g hi (srt_asc nd) (fun y hy => ?_) (fun h => ?_), List.length_set, fun z => ?_⟩
  · rcases (mem y).mp hy with h | rfl
    · exact g.rng _ hm y h
    · exact ⟨u0, u1⟩
  · rcases (mem _).mp h with h | h
    · exact g.own' (b := one) o0 o1 (by rwa [show ((one.toNat : Nat) : Int) = one by omega] at h)
    · omega
  · have : (pan.set one.toNat (srt (pan.getD one.toNat [] ++ [other]))).getD one.toNat [] = pan.getD one.toNat [] := by rw [z]
    rw [List.getD_eq_getElem?_getD, List.getElem?_set, if_pos rfl, if_pos hi] at this
    replace this : srt (pan.getD one.toNat [] ++ [other]) = pan.getD one.toNat [] := this
    exact hn (by rw [← this]; exact (mem other).mpr (.inr rfl))
theorem good_un {pan : List (List Int)} (g : Good pan) {one other : Int} (h : InP2 pan one other) (hn : other ∈ pan.getD one.toNat []) : Good (unM pan one other) ∧ (unM pan one other).length = pan.length ∧ unM pan one other ≠ pan := by
  obtain ⟨o0, o1, u0, u1, ne⟩ := h
  have hi : one.toNat < pan.length := by omega
  have e : unM pan one other = pan.set one.toNat ((pan.getD one.toNat []).filter fun x => !decide (x = other)) := by unfold unM; rw [if_pos hn]
  have hm := rel_mem hi
  rw [e]
  refine ⟨good_set g hi ((g.up _ hm).filter _) (fun y hy => g.rng _ hm y (List.mem_filter.mp hy).1) (fun h => ?_), List.length_set, fun z => ?_⟩
  · exact g.own' (b := one) o0 o1 (by have := (List.mem_filter.mp h).1; rwa [show ((one.toNat : Nat) : Int) = one by omega] at this)
  · have : (pan.set one.toNat ((pan.getD one.toNat []).filter fun x => !decide (x = other))).getD one.toNat [] = pan.getD one.toNat [] := by rw [z]
    rw [List.getD_eq_getElem?_getD, List.getElem?_set, if_pos rfl, if_pos hi] at this
    replace this : (pan.getD one.toNat []).filter (fun x => !decide (x = other)) = pan.getD one.toNat [] := this
    rw [← this] at hn
    simpa using (List.mem_filter.mp hn).2
theorem pan_ok {pan : List (List Int)} (g : Good pan) : pan.length ≤ 100 ∧ ∀ l ∈ pan, l.length ≤ 60 := ⟨by have := g.few; omega, fun l hl => by
  have := pw_length (n := 10) (lo := 0) (g.up l hl) fun x hx => by have := g.rng l hl x hx; have := g.few; omega
  omega⟩
def dLk (w : Str) (one other : Int) : PyData := .tuple [.str w, .int one, .int other]
def nLink : List Str := ["self", "one", "other"]
theorem scLink : FnScope nLink ["self", "one", "other"] (defScope sLink) := ⟨rfl, rfl, rfl, by decide +kernel, rfl, by decide +kernel, by decide +kernel⟩
section
variable {P : Program} {w : World} {K : PySem.W.Frag} {mg : Str → Option Value} {base : Heap}
def spLink (K : PySem.W.Frag) (C : Addr) : Sp := fun vs H Q _ => ∃ (t : Addr) (pan : List (List Int)) (st : List Int) (past : List (PyData × List (List Int) × List Int)) (one other : Int), vs = [.ref t, .int one, .int other] ∧ DeskAt K C H t pan st past ∧ past.length < 60 ∧ InP2 pan one other ∧ other ∉ pan.getD one.toNat [] ∧
  ∀ H', ButO t H H' → DeskAt K C H' t (liM pan one other) st (past ++ [(dLk "link" one other, pan, st)]) → Q (.int ((past.length + 1 : Nat) : Int)) H'
theorem ok_Link {fWl : Addr} {fdWl : FuncData} {fLi : Addr} {fdLi : FuncData} {fBtn : Addr} {fdBtn : FuncData} {fChkB : Addr} {fdChkB : FuncData} {C f : Addr} {fd : FuncData} {k : Nat} (F : Fun K "link" "Desk.link" sLink f fd) (T : TxtD K mg C)
    (FWl : Fun K "with_list" "with_list" sWl fWl fdWl) (bWl : Binds K fdWl ["panel", "button", "released"] []) (gWl : mg "with_list" = some (.ref fWl))
    (FLi : Fun K "linked" "linked" sLi fLi fdLi) (bLi : Binds K fdLi ["panel", "one", "other"] []) (gLi : mg "linked" = some (.ref fLi))
    (FBtn : Fun K "is_button" "is_button" sBtn fBtn fdBtn) (bBtn : Binds K fdBtn ["value", "many"] []) (gBtn : mg "is_button" = some (.ref fBtn))
    (FChkB : Fun K "check_button" "check_button" sChkB fChkB fdChkB) (bChkB : Binds K fdChkB ["panel", "value"] []) (gChkB : mg "check_button" = some (.ref fChkB))
    {fFree : Addr} {fdFree : FuncData} (FFree : Fun K "check_free" "Desk.check_free" sFree fFree fdFree) (bFree : Binds K fdFree ["self"] []) (hFree : Meth K C "check_free" fFree)
    {fRoom : Addr} {fdRoom : FuncData} (FRoom : Fun K "check_room" "Desk.check_room" sRoom fRoom fdRoom) (bRoom : Binds K fdRoom ["self"] []) (hRoom : Meth K C "check_room" fRoom)
    {fLink0 : Addr} {fdLink0 : FuncData} (FLink0 : Fun K "check_link" "Desk.check_link" sLink0 fLink0 fdLink0) (bLink0 : Binds K fdLink0 ["self", "one", "other"] []) (hLink0 : Meth K C "check_link" fLink0)
    {fShow : Addr} {fdShow : FuncData} (GShow0 : ∀ k0 : Nat, FnOk P w K mg base CX0 (k0 + 6) fShow fdShow ["self", "panel", "latched"] (spShow K C)) (bShow : Binds K fdShow ["self", "panel", "latched"] []) (hShow : Meth K C "show" fShow)
    {fAdd : Addr} {fdAdd : FuncData} (FAdd : Fun K "add_edit" "Desk.add_edit" sAdd fAdd fdAdd) (bAdd : Binds K fdAdd ["self", "edit", "panel", "latched"] []) (hAdd : Meth K C "add_edit" fAdd)
    {fChg : Addr} {fdChg : FuncData} (FChg : Fun K "change_panel" "Desk.change_panel" sChg fChg fdChg) (bChg : Binds K fdChg ["self", "edit", "panel"] []) (hChg : Meth K C "change_panel" fChg)
    (m_bool : mg "bool" = none) (m_enumerate : mg "enumerate" = none) (m_int : mg "int" = none) (m_isinstance : mg "isinstance" = none) (m_len : mg "len" = none) (m_sorted : mg "sorted" = none) (m_tuple : mg "tuple" = none) : FnOk P w K mg base CX0 (k + 9) f fd ["self", "one", "other"] (spLink K C) := by
  have GLi : FnOk P w K mg base CX0 (k + 2) fLi fdLi ["panel", "one", "other"] (spLi K) := ok_Li FLi FWl bWl gWl m_enumerate m_sorted m_tuple
  have GLink0 : FnOk P w K mg base CX0 (k + 3) fLink0 fdLink0 ["self", "one", "other"] (spLink0 K C) := ok_Link0 FLink0 T FBtn bBtn gBtn FChkB bChkB gChkB FFree bFree hFree FRoom bRoom hRoom m_bool m_int m_isinstance m_len
  have GChg : FnOk P w K mg base CX0 (k + 8) fChg fdChg ["self", "edit", "panel"] (spChg K C) := ok_Chg FChg T  GShow0 bShow hShow FAdd bAdd hAdd m_len
  refine F.ok scLink (fun vs H Q E h => ?_) (fun cdv A outer s H vs Q E hr h => ?_)
  · obtain ⟨t, pan, st, past, one, other, rfl, _⟩ := h
    rfl
  · obtain ⟨t, pan, st, past, one, other, rfl, hD, few, hI, hn, q⟩ := h
    have hD' := hD
    obtain ⟨⟨dx, pa, p, l, hh, hs, kn, h1, h2, h3, h4, h5, h6, h7⟩, hg, hst, lfe⟩ := hD'
    refine ⟨_, pss_cons (ps_expr (pe_meth (pv 0) T.cl hLink0 GLink0 (hr.mono (by omega)) bLink0 .nil pass0 (pa_cons (pv 1) (pa_cons (pv 2) pa_nil))))
      (pss_one (ps_ret (pe_meth (pv 0) T.cl hChg GChg (hr.mono (by omega)) bChg .nil pass0 (pa_cons (pe_tup (pa_cons pe_str (pa_cons (pv 1) (pa_cons (pv 2) pa_nil)))) (pa_cons (pe_call GLi (hr.mono (by omega)) (by rfl) gLi FLi.kp bLi .nil pass0 (pa_cons (pe_fld (pv 0) rfl) (pa_cons (pv 1) (pa_cons (pv 2) pa_nil)))) pa_nil))))), ?_⟩
    refine ⟨.ref t, rfl, t, dx, _, rfl, h1, by rfl, .int one, rfl, .int other, rfl, t, pan, st, past, one, other, rfl, hD, few, hI, fun H1 s1 => ?_⟩
    obtain ⟨g', l', n'⟩ := good_li hg hI hn
    have e1 := s1 _ _ h1
    refine ⟨.ref t, rfl, t, dx, _, rfl, e1, by rfl, .int one, rfl, .int other, rfl, by show 3 ≤ sizeLine; decide, fun Te nTe => ?_⟩
    have sTe := same_new (o := .tup [.str "link", .int one, .int other]) nTe
    have hD2 := (hD.same s1).same sTe
    refine (gv_Li (K := K) (gva_cons (gv_panel (i := 0) T rfl hD2) (gva_cons (gv_var (i := 1) rfl (.int one)) (gva_cons (gv_var (i := 2) rfl (.int other)) gva_nil))) ⟨(pan_ok hg).1, (pan_ok hg).2, hI.1, hI.2.1⟩).at fun v H3 s3 dv => ?_
    obtain ⟨p', rfl, hp'⟩ := panT_dp dv
    have s13 := (s1.trans sTe).trans s3
    exact ⟨t, pan, st, past, .ref Te, dLk "link" one other, p', _, rfl, hD.same s13, by omega, .tup (.inl (.inl (s3 _ _ upd_same))) (.cons (.str _) (.cons (.int _) (.cons (.int _) .nil))), rfl, ⟨rfl, .inr ⟨_, one, other, by decide +kernel, rfl⟩⟩, hp', g', l', n', fun H4 k4 hN => q H4 ((ButO.of s13).trans k4) hN⟩
end
def nUnlink : List Str := ["self", "one", "other"]
theorem scUnlink : FnScope nUnlink ["self", "one", "other"] (defScope sUnlink) := ⟨rfl, rfl, rfl, by decide +kernel, rfl, by decide +kernel, by decide +kernel⟩
section
variable {P : Program} {w : World} {K : PySem.W.Frag} {mg : Str → Option Value} {base : Heap}
def spUnlink (K : PySem.W.Frag) (C : Addr) : Sp := fun vs H Q _ => ∃ (t : Addr) (pan : List (List Int)) (st : List Int) (past : List (PyData × List (List Int) × List Int)) (one other : Int), vs = [.ref t, .int one, .int other] ∧ DeskAt K C H t pan st past ∧ past.length < 60 ∧ InP2 pan one other ∧ other ∈ pan.getD one.toNat [] ∧
  ∀ H', ButO t H H' → DeskAt K C H' t (unM pan one other) st (past ++ [(dLk "unlink" one other, pan, st)]) → Q (.int ((past.length + 1 : Nat) : Int)) H'
theorem ok_Unlink {fWl : Addr} {fdWl : FuncData} {fUn : Addr} {fdUn : FuncData} {fBtn : Addr} {fdBtn : FuncData} {fChkB : Addr} {fdChkB : FuncData} {C f : Addr} {fd : FuncData} {k : Nat} (F : Fun K "unlink" "Desk.unlink" sUnlink f fd) (T : TxtD K mg C)
    (FWl : Fun K "with_list" "with_list" sWl fWl fdWl) (bWl : Binds K fdWl ["panel", "button", "released"] []) (gWl : mg "with_list" = some (.ref fWl))
    (FUn : Fun K "unlinked" "unlinked" sUn fUn fdUn) (bUn : Binds K fdUn ["panel", "one", "other"] []) (gUn : mg "unlinked" = some (.ref fUn))
    (FBtn : Fun K "is_button" "is_button" sBtn fBtn fdBtn) (bBtn : Binds K fdBtn ["value", "many"] []) (gBtn : mg "is_button" = some (.ref fBtn))
    (FChkB : Fun K "check_button" "check_button" sChkB fChkB fdChkB) (bChkB : Binds K fdChkB ["panel", "value"] []) (gChkB : mg "check_button" = some (.ref fChkB))
    {fFree : Addr} {fdFree : FuncData} (FFree : Fun K "check_free" "Desk.check_free" sFree fFree fdFree) (bFree : Binds K fdFree ["self"] []) (hFree : Meth K C "check_free" fFree)
    {fRoom : Addr} {fdRoom : FuncData} (FRoom : Fun K "check_room" "Desk.check_room" sRoom fRoom fdRoom) (bRoom : Binds K fdRoom ["self"] []) (hRoom : Meth K C "check_room" fRoom)
    {fLink0 : Addr} {fdLink0 : FuncData} (FLink0 : Fun K "check_link" "Desk.check_link" sLink0 fLink0 fdLink0) (bLink0 : Binds K fdLink0 ["self", "one", "other"] []) (hLink0 : Meth K C "check_link" fLink0)
    {fShow : Addr} {fdShow : FuncData} (GShow0 : ∀ k0 : Nat, FnOk P w K mg base CX0 (k0 + 6) fShow fdShow ["self", "panel", "latched"] (spShow K C)) (bShow : Binds K fdShow ["self", "panel", "latched"] []) (hShow : Meth K C "show" fShow)
    {fAdd : Addr} {fdAdd : FuncData} (FAdd : Fun K "add_edit" "Desk.add_edit" sAdd fAdd fdAdd) (bAdd : Binds K fdAdd ["self", "edit", "panel", "latched"] []) (hAdd : Meth K C "add_edit" fAdd)
    {fChg : Addr} {fdChg : FuncData} (FChg : Fun K "change_panel" "Desk.change_panel" sChg fChg fdChg) (bChg : Binds K fdChg ["self", "edit", "panel"] []) (hChg : Meth K C "change_panel" fChg)
    (m_bool : mg "bool" = none) (m_enumerate : mg "enumerate" = none) (m_int : mg "int" = none) (m_isinstance : mg "isinstance" = none) (m_len : mg "len" = none) (m_tuple : mg "tuple" = none) : FnOk P w K mg base CX0 (k + 9) f fd ["self", "one", "other"] (spUnlink K C) := by
  have GUn : FnOk P w K mg base CX0 (k + 2) fUn fdUn ["panel", "one", "other"] (spUn K) := ok_Un FUn FWl bWl gWl m_enumerate m_tuple
  have GLink0 : FnOk P w K mg base CX0 (k + 3) fLink0 fdLink0 ["self", "one", "other"] (spLink0 K C) := ok_Link0 FLink0 T FBtn bBtn gBtn FChkB bChkB gChkB FFree bFree hFree FRoom bRoom hRoom m_bool m_int m_isinstance m_len
  have GChg : FnOk P w K mg base CX0 (k + 8) fChg fdChg ["self", "edit", "panel"] (spChg K C) := ok_Chg FChg T  GShow0 bShow hShow FAdd bAdd hAdd m_len
  refine F.ok scUnlink (fun vs H Q E h => ?_) (fun cdv A outer s H vs Q E hr h => ?_)
  · obtain ⟨t, pan, st, past, one, other, rfl, _⟩ := h
    rfl
  · obtain ⟨t, pan, st, past, one, other, rfl, hD, few, hI, hn, q⟩ := h
    have hD' := hD
    obtain ⟨⟨dx, pa, p, l, hh, hs, kn, h1, h2, h3, h4, h5, h6, h7⟩, hg, hst, lfe⟩ := hD'
    refine ⟨_, pss_cons (ps_expr (pe_meth (pv 0) T.cl hLink0 GLink0 (hr.mono (by omega)) bLink0 .nil pass0 (pa_cons (pv 1) (pa_cons (pv 2) pa_nil))))
      (pss_one (ps_ret (pe_meth (pv 0) T.cl hChg GChg (hr.mono (by omega)) bChg .nil pass0 (pa_cons (pe_tup (pa_cons pe_str (pa_cons (pv 1) (pa_cons (pv 2) pa_nil)))) (pa_cons (pe_call GUn (hr.mono (by omega)) (by rfl) gUn FUn.kp bUn .nil pass0 (pa_cons (pe_fld (pv 0) rfl) (pa_cons (pv 1) (pa_cons (pv 2) pa_nil)))) pa_nil))))), ?_⟩
    refine ⟨.ref t, rfl, t, dx, _, rfl, h1, by rfl, .int one, rfl, .int other, rfl, t, pan, st, past, one, other, rfl, hD, few, hI, fun H1 s1 => ?_⟩
    obtain ⟨g', l', n'⟩ := good_un hg hI hn
    have e1 := s1 _ _ h1
    refine ⟨.ref t, rfl, t, dx, _, rfl, e1, by rfl, .int one, rfl, .int other, rfl, by show 3 ≤ sizeLine; decide, fun Te nTe => ?_⟩
    have sTe := same_new (o := .tup [.str "unlink", .int one, .int other]) nTe
    have hD2 := (hD.same s1).same sTe
    refine (gv_Un (K := K) (gva_cons (gv_panel (i := 0) T rfl hD2) (gva_cons (gv_var (i := 1) rfl (.int one)) (gva_cons (gv_var (i := 2) rfl (.int other)) gva_nil))) ⟨(pan_ok hg).1, (pan_ok hg).2, hI.1, hI.2.1⟩).at fun v H3 s3 dv => ?_
    obtain ⟨p', rfl, hp'⟩ := panT_dp dv
    have s13 := (s1.trans sTe).trans s3
    exact ⟨t, pan, st, past, .ref Te, dLk "unlink" one other, p', _, rfl, hD.same s13, by omega, .tup (.inl (.inl (s3 _ _ upd_same))) (.cons (.str _) (.cons (.int _) (.cons (.int _) .nil))), rfl, ⟨rfl, .inr ⟨_, one, other, by decide +kernel, rfl⟩⟩, hp', g', l', n', fun H4 k4 hN => q H4 ((ButO.of s13).trans k4) hN⟩
end
def nLenD : List Str := ["self"]
theorem scLenD : FnScope nLenD ["self"] (defScope sLenD) := ⟨rfl, rfl, rfl, by decide +kernel, rfl, by decide +kernel, by decide +kernel⟩
section
variable {P : Program} {w : World} {K : PySem.W.Frag} {mg : Str → Option Value} {base : Heap}
def spLenD (K : PySem.W.Frag) (C : Addr) : Sp := fun vs H Q _ => ∃ (t : Addr) (pan : List (List Int)) (st : List Int) (past : List (PyData × List (List Int) × List Int)), vs = [.ref t] ∧ DeskAt K C H t pan st past ∧ ∀ H', Same H H' → Q (.int (past.length : Nat)) H'
theorem ok_LenD  {C f : Addr} {fd : FuncData} {k : Nat} (F : Fun K "__len__" "Desk.__len__" sLenD f fd) (T : TxtD K mg C)
    (m_len : mg "len" = none) : FnOk P w K mg base CX0 (k + 1) f fd ["self"] (spLenD K C) := by
  refine F.ok scLenD (fun vs H Q E h => ?_) (fun cdv A outer s H vs Q E hr h => ?_)
  · obtain ⟨t, pan, st, past, rfl, _⟩ := h
    rfl
  · obtain ⟨t, pan, st, past, rfl, hD, q⟩ := h
    have hD' := hD
    obtain ⟨⟨dx, pa, p, l, hh, hs, kn, h1, h2, h3, h4, h5, h6, h7⟩, hg, hst, lfe⟩ := hD'
    refine ⟨_, pss_one (ps_ret (pe_callB (show CallR _ _ (rLenG K) from cr_lenG) (by rfl) m_len PySem.boot_len (pa_cons (pe_fld (pv 0) rfl) pa_nil))), ?_⟩
    refine gs_ret (K := K) (gv_lenT (gv_past T rfl hD)) fun v H1 s1 dv => ?_
    cases dv
    rw [List.length_map]
    exact q H1 s1
end
end K64G
namespace K64G
open PySem PySem.Spec PyProof.Rows L2 Pr K64
theorem DeskAt.kpAt {K : PySem.W.Frag} {C : Addr} {H H' : Hp} {t : Addr} {pan : List (List Int)} {st : List Int} {past : List (PyData × List (List Int) × List Int)} (h : DeskAt K C H t pan st past) (k : Kp H H') (e : H' t = H t) : DeskAt K C H' t pan st past := by
  obtain ⟨⟨dx, pa, p, l, hh, hs, kn, h1, h2, h3, h4, h5, h6, h7⟩, g, as, e'⟩ := h
  exact ⟨⟨dx, pa, p, l, hh, hs, kn, e.trans h1, h2.kp k (fun x hx => ⟨(e' x hx).1, (e' x hx).2.1, (e' x hx).2.2.1⟩), h3.kp k, k.1 _ _ h4, sqT_kp k h5, h6, h7.kp k⟩, g, as, e'⟩
abbrev sUndo : Stmt := inClass (topS 61) 11
def nUndo : List Str := ["self", "edit", "panel", "latched"]
theorem scUndo : FnScope nUndo ["self"] (defScope sUndo) := ⟨rfl, rfl, rfl, by decide +kernel, rfl, by decide +kernel, by decide +kernel⟩
section
variable {P : Program} {w : World} {K : PySem.W.Frag} {mg : Str → Option Value} {base : Heap}
def spUndo (K : PySem.W.Frag) (C CU : Addr) : Sp := fun vs H Q E => ∃ (t : Addr) (pan : List (List Int)) (st : List Int) (past : List (PyData × List (List Int) × List Int)), vs = [.ref t] ∧ DeskAt K C H t pan st past ∧
  (∀ past' y, past = past' ++ [y] → ∀ H', ButO t H H' → DeskAt K C H' t y.2.1 y.2.2 past' → Q (.int (past'.length : Nat)) H') ∧ (past = [] → ∀ H', Same H H' → E (.ref CU) none H')
theorem ok_Undo  {C CU f : Addr} {fd : FuncData} {k : Nat} (F : Fun K "undo" "Desk.undo" sUndo f fd) (T : TxtD K mg C) (T_NothingToUndo : Ex0 K mg "NothingToUndo" CU)
    
    {fFree : Addr} {fdFree : FuncData} (FFree : Fun K "check_free" "Desk.check_free" sFree fFree fdFree) (bFree : Binds K fdFree ["self"] []) (hFree : Meth K C "check_free" fFree)
    {fShow : Addr} {fdShow : FuncData} (GShow0 : ∀ k0 : Nat, FnOk P w K mg base CX0 (k0 + 6) fShow fdShow ["self", "panel", "latched"] (spShow K C)) (bShow : Binds K fdShow ["self", "panel", "latched"] []) (hShow : Meth K C "show" fShow)
    (m_len : mg "len" = none) : FnOk P w K mg base (L2.CX P w) (k + 7) f fd ["self"] (spUndo K C CU) := by
  have GFree : FnOk P w K mg base CX0 (k + 1) fFree fdFree ["self"] (spFree K C) := ok_Free FFree T   
  have GShow : FnOk P w K mg base CX0 (k + 6) fShow fdShow ["self", "panel", "latched"] (spShow K C) := GShow0 k
  refine F.okX scUndo (fun vs H Q E h => ?_) (fun cdv A outer s H vs Q E hr h => ?_)
  · obtain ⟨t, pan, st, past, rfl, _⟩ := h
    rfl
  · obtain ⟨t, pan, st, past, rfl, hD, q1, q2⟩ := h
    refine ⟨_, pss_cons (ps_expr (pe_meth0 (pv 0) T.cl hFree GFree (hr.mono (by omega)) bFree .nil pass0))
      (pss_cons (ps_if (pt_not (pt_truth (pe_fld (pv 0) rfl) (fun _ => rfl))) (pss_one (ps_raise rfl (takes_of rfl rfl rfl rfl) (T_NothingToUndo.made (by rfl)))) pss_nil)
      (pss_cons (ps_asg (pe_ix (show IxR _ (rIxT K) from ix_tup) (pe_fld (pv 0) rfl) (pe_un un_neg pe_int) (fun _ _ => rfl)) (pg_tup rfl (pgs_cons (pg_name (i := 1) scUndo.nd rfl (Or.inl rfl)) (pgs_cons (pg_name (i := 2) scUndo.nd rfl (Or.inl rfl)) (pgs_cons (pg_name (i := 3) scUndo.nd rfl (Or.inl rfl)) pgs_nil)))))
      (pss_cons (ps_fld (pv 0) (pe_slice (show SlR _ (rSlS K) from sl_tupS) (pe_fld (pv 0) rfl) po_none (po_some (pe_un un_neg pe_int))) rfl)
      (pss_cons (ps_expr (pe_meth (pv 0) T.cl hShow GShow (hr.mono (by omega)) bShow .nil pass0 (pa_cons (pv 2) (pa_cons (pv 3) pa_nil))))
      (pss_one (ps_ret (pe_callB (show CallR _ _ (rLenG K) from cr_lenG) (by rfl) m_len PySem.boot_len (pa_cons (pe_fld (pv 0) rfl) pa_nil)))))))), ?_⟩
    have hD' := hD
    obtain ⟨⟨dx, pa, p, l, hh, hs, kn, h1, h2, h3, h4, h5, h6, h7⟩, hg, hst, lfe⟩ := hD'
    refine ⟨.ref t, rfl, t, dx, _, rfl, h1, by rfl, t, pan, st, past, rfl, hD, fun H1 s1 => ?_⟩
    have e1 := s1 _ _ h1
    obtain ⟨xs, hpa, hxs⟩ := h2.sm s1
    refine ⟨.ref t, rfl, t, C, dx, _, .ref pa, rfl, e1, T.cl, T.nA, look_past _ _ _ _ _, _, .inr (.inl ⟨xs, hpa, rfl⟩), ?_⟩
    rcases List.eq_nil_or_concat past with rfl | ⟨past', y, rfl⟩
    · cases hxs
      exact iteT (q2 rfl H1 s1)
    · rw [List.concat_eq_append] at *
      obtain ⟨us, u, rfl, hus, ⟨au, pu, lu, vu, rfl, hau, dvu, hpu, elu⟩⟩ := prSplit hxs
      have nz : (!(!(us ++ [V.ref au]).isEmpty)) = false := by cases us <;> rfl
      rw [nz]
      refine iteF ?_
      refine ⟨.ref t, rfl, t, C, dx, _, .ref pa, rfl, e1, T.cl, T.nA, look_past _ _ _ _ _, 1, rfl, pa, _, _, .ref au, rfl, rfl, hpa, at_last, ?_⟩
      refine ⟨au, _, rfl, hau, rfl, vu, [.ref pu, .ref lu], rfl, .ref pu, [.ref lu], rfl, .ref lu, [], rfl, rfl, ?_⟩
      refine ⟨.ref t, rfl, t, C, dx, _, .ref pa, rfl, e1, T.cl, T.nA, look_past _ _ _ _ _, 1, rfl, -1, rfl, pa, _, rfl, hpa, fun pb H2 s2 hpb => ?_⟩
      rw [cut_last] at hpb
      have e2 := s2 _ _ e1
      refine ⟨.ref t, rfl, t, C, dx, _, rfl, e2, T.cl, T.nA, by show 6 < 1000; decide, ?_⟩
      rw [put_p]
      have k3 := ButO.upd (g := t) (H := H2) (o := .ins C dx (fldsD pb p l hh kn))
      have kp3 := k3.kp e2
      have hy := lfe y (List.mem_append_right _ List.mem_cons_self)
      have el := hy.2.2.2.1
      have lfe' : ∀ x ∈ past', lf x.1 = true ∧ Good x.2.1 ∧ Asc x.2.1.length x.2.2 ∧ PEd y.2.1.length x := fun x hx => by rw [el]; exact lfe x (List.mem_append_left _ hx)
      have lf3 : ∀ x ∈ past', lf x.1 = true ∧ Good x.2.1 ∧ Asc x.2.1.length x.2.2 := fun x hx => ⟨(lfe' x hx).1, (lfe' x hx).2.1, (lfe' x hx).2.2.1⟩
      refine ⟨.ref t, rfl, t, dx, _, rfl, upd_same, by rfl, .ref pu, rfl, .ref lu, rfl, t, pu, lu, dx, pb, fldsD pb p l hh kn, y.2.1, y.2.2, past', rfl, upd_same, .inr ⟨_, _, _, _, rfl⟩, (hpu.same s2).kp kp3, hy.2.1, .inl (.inl (kp3.1 _ _ (s2 _ _ elu))), hy.2.2.1, PastAt.kp ⟨us, hpb, ents_sm s2 hus⟩ kp3 lf3, lfe', fun H4 h' hs' kn' k4 e4 hh' ish hkn => ?_⟩
      have kp4 := kp3.trans (k4.kp upd_same)
      have hN : DeskAt K C H4 t y.2.1 y.2.2 past' := ⟨⟨dx, pb, pu, lu, h', hs', kn', e4, PastAt.kp ⟨us, hpb, ents_sm s2 hus⟩ kp4 lf3, (hpu.same s2).kp kp4, kp4.1 _ _ (s2 _ _ elu), hh', ish, hkn⟩, hy.2.1, hy.2.2.1, lfe'⟩
      refine gs_ret (K := K) (gv_lenT (gv_past T rfl hN)) fun v H5 s5 dv5 => ?_
      cases dv5
      rw [List.length_map]
      exact q1 past' y rfl H5 (((ButO.of (s1.trans s2)).trans k3).trans (k4.trans (ButO.of s5))) (hN.same s5)
end
end K64G
namespace K64G
open PySem PySem.Spec PyProof.Rows L2 Pr K64
theorem scNo : FnScope ["panel"] ["panel"] (defScope sNo) := ⟨rfl, rfl, rfl, by decide +kernel, rfl, by decide +kernel, by decide +kernel⟩
theorem scPressE : FnScope ["panel", "button", "words", "other"] ["panel", "button"] (defScope sPressE) := ⟨rfl, rfl, rfl, by decide +kernel, rfl, by decide +kernel, by decide +kernel⟩
def nJoin : List Str := ["first", "second", "early", "late"]
theorem scJoin : FnScope nJoin ["first", "second"] (defScope sJoin) := ⟨rfl, rfl, rfl, by decide +kernel, rfl, by decide +kernel, by decide +kernel⟩
theorem scWith : FnScope ["panel", "effect", "button"] ["panel", "effect", "button"] (defScope sWith) := ⟨rfl, rfl, rfl, by decide +kernel, rfl, by decide +kernel, by decide +kernel⟩
section
variable {P : Program} {w : World} {K : PySem.W.Frag} {mg : Str → Option Value} {base : Heap}
def spNo (K : PySem.W.Frag) : Sp := fun vs H Q _ => ∃ (p : Addr) (pan : List (List Int)), vs = [.ref p] ∧ PanT K H p pan ∧ Good pan ∧
  ∀ H' t, Same H H' → FT H' t ((effM pan []).map V.str) → Q (.ref t) H'
theorem ok_no {f : Addr} {fd : FuncData} {k : Nat} (F : Fun K "no_effect" "no_effect" sNo f fd) (ml : mg "len" = none) : FnOk P w K mg base CX0 (k + 1) f fd ["panel"] (spNo K) := by
  refine F.ok scNo (fun vs H Q E h => ?_) (fun cdv A outer s H vs Q E hr h => ?_)
  · obtain ⟨p, pan, rfl, _⟩ := h
    rfl
  · obtain ⟨p, pan, rfl, hp, hg, q⟩ := h
    refine ⟨_, pss_one (ps_ret (pe_op op_repF (pe_tupF (pa_cons pe_str pa_nil)) (pe_callB call_len_seq (by rfl) ml PySem.boot_len (pa_cons (pv 0) pa_nil)))), ?_⟩
    obtain ⟨xs, hxs, hl⟩ := hp.len
    have few := hg.few
    have pos := hg.pos
    refine ⟨by show 1 ≤ sizeLine; decide, fun T o nT ho => ?_⟩
    have sT : Same H (upd H T (.frz o (.tup [.str wSame]))) := same_new nT
    refine ⟨.ref p, rfl, p, _, rfl, .inr (same_sqT sT hxs), T, .str wSame, pan.length, rfl, by rw [hl], ⟨o, upd_same, ho⟩, pos, by omega, fun t H' s' ht => q H' t (sT.trans s') ?_⟩
    rw [effM_nil, List.map_replicate]; exact ht
def spPressE (K : PySem.W.Frag) : Sp := fun vs H Q _ => ∃ (p : Addr) (pan : List (List Int)) (b : Int), vs = [.ref p, .int b] ∧ PanT K H p pan ∧ Good pan ∧ 0 ≤ b ∧ b < (pan.length : Int) ∧
  ∀ H' t, Same H H' → H' t = some (.tup ((pressW pan b).map V.str)) → Q (.ref t) H'
theorem ok_pressE {f fN : Addr} {fd fdN : FuncData} {k : Nat} (F : Fun K "press_effect" "press_effect" sPressE f fd) (FN : Fun K "no_effect" "no_effect" sNo fN fdN) (bN : Binds K fdN ["panel"] []) (gN : mg "no_effect" = some (.ref fN))
    (ml : mg "len" = none) (mli : mg "list" = none) (mt : mg "tuple" = none) : FnOk P w K mg base CX0 (k + 2) f fd ["panel", "button"] (spPressE K) := by
  have GN : FnOk P w K mg base CX0 (k + 1) fN fdN ["panel"] (spNo K) := ok_no FN ml
  refine F.ok scPressE (fun vs H Q E h => ?_) (fun cdv A outer s H vs Q E hr h => ?_)
  · obtain ⟨p, pan, b, rfl, _⟩ := h
    rfl
  · obtain ⟨p, pan, b, rfl, hp, hg, b0, b1, q⟩ := h
    refine ⟨_, pss_cons (ps_set (i := 2) scPressE.nd rfl (.inl rfl) (pe_callTy call_list_of (by rfl) mli (by decide +kernel) (pa_cons (pe_call GN hr (by rfl) gN FN.kp bN .nil pass0 (pa_cons (pv 0) pa_nil)) pa_nil)))
      (pss_cons (ps_asg pe_str (pg_sub (pv 2) (pv 1) set_list))
      (pss_cons (ps_for PassesOwn.never rfl (pi_tup (pe_ix ix_tup (pv 0) (pv 1) (fun _ _ => rfl))) (pg_name (i := 3) scPressE.nd rfl (.inl rfl))
        (pss_one (ps_asg pe_str (pg_sub (pv 2) (pv 3) set_list))))
      (pss_one (ps_ret (pe_callTy call_tuple_of (by rfl) mt (by decide +kernel) (pa_cons (pv 2) pa_nil)))))), ?_⟩
    refine ⟨.ref p, rfl, p, pan, rfl, hp, hg, fun H1 t s1 et => ?_⟩
    refine ⟨t, _, rfl, .inr et.sq, fun W nW => ?_⟩
    have s2 : Same H (upd H1 W (.lst ((effM pan []).map V.str))) := s1.trans (same_new nW)
    have nW' : H W = none := s1.free nW
    obtain ⟨bn, rfl⟩ : ∃ bn : Nat, b = (bn : Int) := ⟨b.toNat, (Int.toNat_of_nonneg b0).symm⟩
    have hbn : bn < pan.length := by omega
    refine ⟨.ref W, rfl, .int (bn : Int), rfl, W, _, _, bn, rfl, rfl, upd_same, ixN_nat (by rw [List.length_map, effM_len]; exact hbn), ?_⟩
    obtain ⟨qs, q', hq, ha, hr', _⟩ := panT_at hp (b := (bn : Int)) b0 b1
    have s3 : Same H (upd (upd H1 W (.lst ((effM pan []).map V.str))) W (.lst (((effM pan []).map V.str).set bn (.str wOn)))) := fun x o e => by
      rw [upd_ne (ne_of_none e nW')]; exact s2 _ _ e
    refine ⟨.ref p, rfl, .int (bn : Int), rfl, p, _, _, .ref q', rfl, rfl, same_sqT s3 hq, ha, q', rfl, ⟨_, same_sqT s3 hr'⟩, ?_⟩
    generalize hl0 : pan.getD ((bn : Int)).toNat [] = l at hr'
    have hin : ∀ x ∈ l, 0 ≤ x ∧ x < (pan.length : Int) := fun x hx => by
      rw [← hl0, Int.toNat_natCast, List.getD_eq_getElem?_getD, List.getElem?_eq_getElem hbn] at hx
      exact hg.rng _ (List.getElem_mem hbn) x hx
    refine for_tup (xs := l.map V.int) (fun i σ H4 => Same H H4 ∧ H4 W = some (.lst (((List.range pan.length).map (onM (l.take i) (bn : Int))).map V.str)) ∧ ∃ x3, σ = [some (.ref p), some (.int (bn : Int)), some (.ref W), x3])
      ⟨s3, ?_, none, rfl⟩ (fun i σ H4 _ hP => same_sqT hP.1 hr') (fun i x σ H4 hx hP => ?_) (fun σ H4 hP => ?_)
    · rw [upd_same, effM_nil, replicate_map_range, List.map_map, set_map_range, List.map_map]
      refine congrArg _ (congrArg _ (List.map_congr_left fun c _ => ?_))
      show (if c = bn then V.str wOn else V.str wSame) = V.str (onM [] (bn : Int) c)
      unfold onM
      have e0 : ¬ ((c : Int) ∈ ([] : List Int)) := by simp
      by_cases e : c = bn
      · have e1 : (c : Int) = (bn : Int) := by omega
        rw [if_pos e, if_neg e0, if_pos e1]
      · have e1 : ¬ (c : Int) = (bn : Int) := by omega
        rw [if_neg e, if_neg e0, if_neg e1]
    · obtain ⟨s4, eW, x3, rfl⟩ := hP
      obtain ⟨z, hz, rfl⟩ := int_get hx
      have hzr := hin z (List.mem_of_getElem? hz)
      obtain ⟨zn, rfl⟩ : ∃ zn : Nat, z = (zn : Int) := ⟨z.toNat, (Int.toNat_of_nonneg hzr.1).symm⟩
      refine ⟨.ref W, rfl, .int (zn : Int), rfl, W, _, _, zn, rfl, rfl, eW, ixN_nat (by rw [List.length_map, List.length_map, List.length_range]; omega), ?_, ?_, _, rfl⟩
      · intro b o e
        rw [upd_ne (ne_of_none e nW')]; exact s4 _ _ e
      · rw [upd_same, List.map_map, set_map_range, List.map_map]
        refine congrArg _ (congrArg _ (List.map_congr_left fun c _ => ?_))
        show (if c = zn then V.str wOff else V.str (onM (l.take i) (bn : Int) c)) = V.str (onM (l.take (i + 1)) (bn : Int) c)
        unfold onM
        rw [List.take_add_one, hz]
        by_cases e : c = zn
        · rw [if_pos e, if_pos (by rw [e]; simp)]
        · have hne : (c : Int) ≠ (zn : Int) := by omega
          rw [if_neg e]
          congr 1
          by_cases e2 : (c : Int) ∈ l.take i
          · rw [if_pos e2, if_pos (List.mem_append_left _ e2)]
          · rw [if_neg e2, if_neg fun h => (List.mem_append.mp h).elim e2 fun h => hne (by simpa using h)]
    · obtain ⟨s4, eW, x3, rfl⟩ := hP
      rw [List.length_map, List.take_length] at eW
      refine ⟨.ref W, rfl, W, _, rfl, .inl ⟨.inl (.inl eW), fun t nt => q _ t (s4.trans (same_new nt)) ?_⟩⟩
      rw [upd_same]
      unfold pressW
      rw [hl0]
def spJoin (K : PySem.W.Frag) : Sp := fun vs H Q _ => ∃ (a b : Addr) (xs ys : List Str), vs = [.ref a, .ref b] ∧ SqT K H a (xs.map V.str) ∧ SqT K H b (ys.map V.str) ∧ xs.length = ys.length ∧ ys.length ≤ 100 ∧
  ∀ H' t, Same H H' → FT H' t ((joinM xs ys).map V.str) → Q (.ref t) H'
theorem ok_join {f : Addr} {fd : FuncData} {k : Nat} (F : Fun K "joined_effect" "joined_effect" sJoin f fd) (mz : mg "zip" = none) (mt : mg "tuple" = none) : FnOk P w K mg base CX0 (k + 1) f fd ["first", "second"] (spJoin K) := by
  refine F.ok scJoin (fun vs H Q E h => ?_) (fun cdv A outer s H vs Q E hr h => ?_)
  · obtain ⟨a, b, xs, ys, rfl, _⟩ := h
    rfl
  · obtain ⟨a, b, xs, ys, rfl, ha, hb, hl, few, q⟩ := h
    refine ⟨_, pss_one (ps_ret (pe_callTy call_tupF (by rfl) mt (by decide +kernel) (pa_cons
      (pe_lc (own := [("early", 2), ("late", 3)]) (g := gTup K 2 (gCons (gName 2) (gCons (gName 3) gNil))) (tt := tYes) rfl scJoin.nd (RZ.pi_zipA (by rfl) mz (pa_cons (pv 0) (pa_cons (pv 1) pa_nil)))
        (blkOk_by (own := [("early", 2), ("late", 3)]) (N := nJoin) (sc := defScope sJoin) (by decide +kernel))
        (fun _ _ _ _ _ => pg_tup rfl (pgs_cons (pg_name (i := 2) scJoin.nd rfl (Or.inl rfl)) (pgs_cons (pg_name (i := 3) scJoin.nd rfl (Or.inl rfl)) pgs_nil)))
        (fun _ _ _ _ _ => pts_nil)
        (fun _ _ _ _ _ => pe_ifExp (pt_cmpR op_eq (pv 3) pe_str (nomark _)) (pv 2) (pv 3))) pa_nil))), ?_⟩
    refine ⟨.ref a, rfl, .ref b, rfl, a, b, _, _, rfl, .inr ⟨ha, hb, fun D nD => ?_⟩⟩
    have hjl := joinM_len hl
    refine lc_it (walk_zipT (n := ys.length) (xs := xs.map V.str) (ys := ys.map V.str) (by rw [List.length_map, List.length_map, hl, Nat.min_self])) (fun i H3 => Same H H3 ∧ H3 D = some (.lst (((joinM xs ys).take i).map V.str))) ⟨same_new nD, upd_same⟩
      (fun i H3 _ hP => ⟨same_sqT hP.1 ha, same_sqT hP.1 hb⟩) (fun i x H3 H4 hi hP hY => ?_) (fun H3 hP => ?_)
    · obtain ⟨s3, eD⟩ := hP
      obtain ⟨T, x1, x2, rfl, nT, rfl, e1, e2⟩ := hY
      obtain ⟨y1, f1, rfl⟩ := str_get e1
      obtain ⟨y2, f2, rfl⟩ := str_get e2
      have sT : Same H3 (upd H3 T (.tup [.str y1, .str y2])) := same_new nT
      have eD4 := sT _ _ eD
      have g := joinM_get f1 f2
      have fin : ∀ v : V, v = .str (if y2 = wSame then y1 else y2) → ∃ acc, (upd H3 T (.tup [.str y1, .str y2])) D = some (.lst acc) ∧ acc.length < sizeLine ∧ Same H (upd (upd H3 T (.tup [.str y1, .str y2])) D (.lst (acc ++ [v]))) ∧
          (upd (upd H3 T (.tup [.str y1, .str y2])) D (.lst (acc ++ [v]))) D = some (.lst (((joinM xs ys).take (i + 1)).map V.str)) := by
        intro v hv
        refine ⟨_, eD4, ?_, ?_, ?_⟩
        · rw [List.length_map, List.length_take]; exact small1000 (by omega)
        · intro b' o e
          rw [upd_ne (ne_of_none e nD)]
          exact sT _ _ (s3 _ _ e)
        · rw [upd_same, List.take_add_one, g, List.map_append, hv]; rfl
      refine ⟨T, _, rfl, .inl (.inl upd_same), rfl, _, _, rfl, _, _, rfl, rfl, rfl, tyes (iteT ⟨.str y2, rfl, rfl, _, rfl, ite2 (fun e => ?_) (fun e => ?_)⟩)⟩
      · have e' : y2 = wSame := V.str.inj (of_decide_eq_true e)
        exact ⟨.str y1, rfl, fin _ (by rw [if_pos e'])⟩
      · have e' : y2 ≠ wSame := fun z => e (by rw [z]; exact decide_eq_true rfl)
        exact ⟨.str y2, rfl, fin _ (by rw [if_neg e'])⟩
    · obtain ⟨s3, eD⟩ := hP
      rw [List.take_of_length_le (by rw [hjl]; exact Nat.le_refl _)] at eD
      refine ⟨D, _, rfl, .inl (.inl eD), fun t o nt ho => ?_⟩
      exact q _ t (s3.trans (same_new nt)) ⟨o, upd_same, ho⟩
def spWith (K : PySem.W.Frag) : Sp := fun vs H Q _ => ∃ (p t : Addr) (pan : List (List Int)) (xs : List Str) (b : Int), vs = [.ref p, .ref t, .int b] ∧ PanT K H p pan ∧ Good pan ∧ SqT K H t (xs.map V.str) ∧ xs.length = pan.length ∧ 0 ≤ b ∧ b < (pan.length : Int) ∧
  ∀ H' u, Same H H' → FT H' u ((joinM xs (pressW pan b)).map V.str) → Q (.ref u) H'
theorem ok_with {f fN fP fJ : Addr} {fd fdN fdP fdJ : FuncData} {k : Nat} (F : Fun K "effect_with_press" "effect_with_press" sWith f fd) (FN : Fun K "no_effect" "no_effect" sNo fN fdN) (bN : Binds K fdN ["panel"] []) (gN : mg "no_effect" = some (.ref fN))
    (FP : Fun K "press_effect" "press_effect" sPressE fP fdP) (bP : Binds K fdP ["panel", "button"] []) (gP : mg "press_effect" = some (.ref fP))
    (FJ : Fun K "joined_effect" "joined_effect" sJoin fJ fdJ) (bJ : Binds K fdJ ["first", "second"] []) (gJ : mg "joined_effect" = some (.ref fJ))
    (ml : mg "len" = none) (mli : mg "list" = none) (mt : mg "tuple" = none) (mz : mg "zip" = none) : FnOk P w K mg base CX0 (k + 3) f fd ["panel", "effect", "button"] (spWith K) := by
  have GP : FnOk P w K mg base CX0 (k + 2) fP fdP ["panel", "button"] (spPressE K) := ok_pressE FP FN bN gN ml mli mt
  have GJ : FnOk P w K mg base CX0 (k + 2) fJ fdJ ["first", "second"] (spJoin K) := ok_join FJ mz mt
  refine F.ok scWith (fun vs H Q E h => ?_) (fun cdv A outer s H vs Q E hr h => ?_)
  · obtain ⟨p, t, pan, xs, b, rfl, _⟩ := h
    rfl
  · obtain ⟨p, t, pan, xs, b, rfl, hp, hg, ht, hxl, b0, b1, q⟩ := h
    refine ⟨_, pss_one (ps_ret (pe_call GJ hr (by rfl) gJ FJ.kp bJ .nil pass0 (pa_cons (pv 1) (pa_cons (pe_call GP hr (by rfl) gP FP.kp bP .nil pass0 (pa_cons (pv 0) (pa_cons (pv 2) pa_nil))) pa_nil)))), ?_⟩
    have few := hg.few
    refine ⟨.ref t, rfl, .ref p, rfl, .int b, rfl, p, pan, b, rfl, hp, hg, b0, b1, fun H1 u s1 eu => ?_⟩
    exact ⟨t, u, xs, pressW pan b, rfl, same_sqT s1 ht, .inl (.inl eu), by rw [pressW_len, hxl], by rw [pressW_len]; omega, fun H2 v s2 ev => q _ v (s1.trans s2) ev⟩
end
end K64G
namespace K64G
open PySem PySem.Spec PyProof.Rows L2 Pr K64
theorem knM_app (n : Nat) (past : List (PyData × List (List Int) × List Int)) (x : PyData × List (List Int) × List Int) : knM n (past ++ [x]) = (match isPress x.1 with | some b => joinM (knM n past) (pressW x.2.1 b) | none => knM n past) := by
  unfold knM
  rw [List.foldl_append]; rfl
theorem take_succ_get {α : Type} {l : List α} {i : Nat} {x : α} (h : l[i]? = some x) : l.take (i + 1) = l.take i ++ [x] := by
  rw [List.take_succ, h]; rfl
def nKAft : List Str := ["panel", "past", "known", "edit", "seen", "latched"]
theorem scKAft : FnScope nKAft ["panel", "past"] (defScope sKAft) := ⟨rfl, rfl, rfl, by decide +kernel, rfl, by decide +kernel, by decide +kernel⟩
section
variable {P : Program} {w : World} {K : PySem.W.Frag} {mg : Str → Option Value} {base : Heap}
def spKAft (K : PySem.W.Frag) : Sp := fun vs H Q _ => ∃ (p pa : Addr) (pan : List (List Int)) (past : List (PyData × List (List Int) × List Int)), vs = [.ref p, .ref pa] ∧ PanT K H p pan ∧ Good pan ∧ PastAt K H pa past ∧ (∀ x ∈ past, lf x.1 = true ∧ Good x.2.1 ∧ Asc x.2.1.length x.2.2 ∧ PEd pan.length x) ∧
  ∀ H' u, Same H H' → FT H' u ((knM pan.length past).map V.str) → Q (.ref u) H'
theorem ok_KAft {fNo : Addr} {fdNo : FuncData} {fPressE : Addr} {fdPressE : FuncData} {fJoin : Addr} {fdJoin : FuncData} {fWith : Addr} {fdWith : FuncData} {f : Addr} {fd : FuncData} {k : Nat} (F : Fun K "known_after" "known_after" sKAft f fd)
    (FNo : Fun K "no_effect" "no_effect" sNo fNo fdNo) (bNo : Binds K fdNo ["panel"] []) (gNo : mg "no_effect" = some (.ref fNo))
    (FPressE : Fun K "press_effect" "press_effect" sPressE fPressE fdPressE) (bPressE : Binds K fdPressE ["panel", "button"] []) (gPressE : mg "press_effect" = some (.ref fPressE))
    (FJoin : Fun K "joined_effect" "joined_effect" sJoin fJoin fdJoin) (bJoin : Binds K fdJoin ["first", "second"] []) (gJoin : mg "joined_effect" = some (.ref fJoin))
    (FWith : Fun K "effect_with_press" "effect_with_press" sWith fWith fdWith) (bWith : Binds K fdWith ["panel", "effect", "button"] []) (gWith : mg "effect_with_press" = some (.ref fWith))
    (m_len : mg "len" = none) (m_list : mg "list" = none) (m_tuple : mg "tuple" = none) (m_zip : mg "zip" = none) : FnOk P w K mg base CX0 (k + 4) f fd ["panel", "past"] (spKAft K) := by
  have GNo : FnOk P w K mg base CX0 (k + 1) fNo fdNo ["panel"] (spNo K) := ok_no FNo m_len
  have GWith : FnOk P w K mg base CX0 (k + 3) fWith fdWith ["panel", "effect", "button"] (spWith K) := ok_with FWith FNo bNo gNo FPressE bPressE gPressE FJoin bJoin gJoin m_len m_list m_tuple m_zip
  refine F.ok scKAft (fun vs H Q E h => ?_) (fun cdv A outer s H vs Q E hr h => ?_)
  · obtain ⟨p, pa, pan, past, rfl, _⟩ := h
    rfl
  · obtain ⟨p, pa, pan, past, rfl, hp, hg, hP, lfe, q⟩ := h
    refine ⟨_, pss_cons (ps_set (i := 2) scKAft.nd rfl (.inl rfl) (pe_call GNo (hr.mono (by omega)) (by rfl) gNo FNo.kp bNo .nil pass0 (pa_cons (pv 0) pa_nil)))
      (pss_cons (ps_for PassesOwn.never rfl (show PI _ _ _ (iTup K _) from pi_tup (pv 1)) (pg_tup rfl (pgs_cons (pg_name (i := 3) scKAft.nd rfl (Or.inl rfl)) (pgs_cons (pg_name (i := 4) scKAft.nd rfl (Or.inl rfl)) (pgs_cons (pg_name (i := 5) scKAft.nd rfl (Or.inl rfl)) pgs_nil)))) (pss_one (ps_if (pt_cmpR op_eq (pe_ix (show IxR _ (rIxT K) from ix_tup) (pv 3) pe_int (fun _ _ => rfl)) pe_str (nomark _)) (pss_one (ps_set (i := 2) scKAft.nd rfl (.inl rfl) (pe_call GWith (hr.mono (by omega)) (by rfl) gWith FWith.kp bWith .nil pass0 (pa_cons (pv 4) (pa_cons (pv 2) (pa_cons (pe_ix (show IxR _ (rIxT K) from ix_tup) (pv 3) pe_int (fun _ _ => rfl)) pa_nil)))))) pss_nil)))
      (pss_one (ps_ret (pv 2)))), ?_⟩
    refine ⟨.ref p, rfl, p, pan, rfl, hp, hg, fun H1 t s1 et => ?_⟩
    obtain ⟨xs, hpa, hxs⟩ := hP
    refine ⟨.ref pa, rfl, pa, rfl, ⟨_, same_sqT s1 hpa⟩, ?_⟩
    refine for_tup (xs := xs) (fun i σ H2 => Same H H2 ∧ ∃ u x3 x4 x5, FT H2 u ((knM pan.length (past.take i)).map V.str) ∧ σ = [some (.ref p), some (.ref pa), some (.ref u), x3, x4, x5])
      ⟨s1, t, _, _, _, by rw [List.take_zero, show knM pan.length [] = effM pan [] from (effM_nil pan).symm]; exact et, rfl⟩ (fun i σ H2 _ hP => same_sqT hP.1 hpa) (fun i x σ H2 hx hP => ?_) (fun σ H2 hP => ?_)
    · obtain ⟨s2, u, x3, x4, x5, eu, rfl⟩ := hP
      obtain ⟨y, hy, hE⟩ : ∃ y, past[i]? = some y ∧ EntAt K H x y := by
        have hi : i < xs.length := (List.getElem?_eq_some_iff.mp hx).1
        have hi2 : i < past.length := by rw [← hxs.length]; exact hi
        obtain ⟨x', hx', hE⟩ := prGet hxs (List.getElem?_eq_getElem hi2)
        rw [hx] at hx'; cases hx'
        exact ⟨_, List.getElem?_eq_getElem hi2, hE⟩
      obtain ⟨au, pu, lu, vu, rfl, hau, dvu, hpu, elu⟩ := hE.sm s2
      have hy' := lfe y (List.mem_of_getElem? hy)
      have hn := knM_len (past := past.take i) (n := pan.length) fun x hx => (lfe x (List.mem_of_mem_take hx)).2.2.2
      refine ⟨au, _, rfl, hau, rfl, vu, [.ref pu, .ref lu], rfl, .ref pu, [.ref lu], rfl, .ref lu, [], rfl, rfl, ?_⟩
      have key := knM_app pan.length (past.take i) y
      rw [← take_succ_get hy] at key
      obtain ⟨hl, hc⟩ := hy'.2.2.2
      rcases hc with ⟨b, eb, b0, b1⟩ | ⟨z, one, other, hz, eb⟩
      · have ep : isPress y.1 = some b := by rw [eb]; show (if ("press" : Str) = ("press" : Str) then some b else none) = some b; exact if_pos rfl
        rw [eb] at dvu
        refine (gvt_test (K := K) (gv_eqS (gv_ixT (j := 0) (gv_var rfl dvu) gv_int rfl rfl) gv_str)).at fun H3 s3 => ?_
        rw [decide_eq_true rfl]
        refine iteT ?_
        refine ⟨.ref pu, rfl, .ref u, rfl, (gv_ixT (K := K) (j := 1) (d := .int b) (gv_var rfl (dvu.sm s3)) gv_int rfl rfl).at fun vb H4 s4 db => ?_⟩
        cases db
        have s34 := s3.trans s4
        refine ⟨pu, u, y.2.1, _, b, rfl, hpu.same s34, hy'.2.1, (eu.same s34).sq, by rw [hn, hl], b0, by rw [hl]; exact b1, fun H5 v s5 ev => ⟨(s2.trans s34).trans s5, v, _, _, _, ?_, rfl⟩⟩
        rw [ep] at key
        rw [key]; exact ev
      · have ep : isPress y.1 = none := by rw [eb]; rfl
        rw [eb] at dvu
        refine (gvt_test (K := K) (gv_eqS (gv_ixT (j := 0) (gv_var rfl dvu) gv_int rfl rfl) gv_str)).at fun H3 s3 => ?_
        rw [decide_eq_false hz]
        refine iteF ⟨s2.trans s3, u, _, _, _, ?_, rfl⟩
        rw [ep] at key
        rw [key]; exact eu.same s3
    · obtain ⟨s2, u, x3, x4, x5, eu, rfl⟩ := hP
      rw [hxs.length, List.take_length] at eu
      exact ⟨.ref u, rfl, q _ u s2 eu⟩
end
end K64G
namespace Pr
open PySem PySem.Spec PyProof.Rows L2 NdefX
/-- the def as it stands behind the top: its class is D, told by the cell at cc; its code object is at c -/
structure SFun (K : PySem.W.Frag) (x qual : Str) (st : Stmt) (cc c : Addr) (f : Addr) (fd : FuncData) : Prop where
  ex : ∃ (oc : Value) (od : Option Addr) (kV doc pm : Value) (an : Option Addr) (ct : Value) (osl : Array (Option Value)),
    fd = PySem.W.fnX x qual (defArgs st) (defBody st) (defScope st) [("__class__", cc)] .none kV doc pm an (.ref c) ct ∧ K.lookup f = some ⟨oc, od, .func fd, osl⟩ ∧ PySem.W.codeIn K (.ref c) qual = true
  kp : PySem.W.keepIn K (.ref f) = true
abbrev sNF (x qual : Str) (st : Stmt) (cc c : Addr) : NF := ⟨x, qual, defArgs st, defBody st, defScope st, [("__class__", cc)], c⟩
/-- the class that the cell holds, the file of the code, the name of the first parameter -/
structure SCls (prog : Program) (K : PySem.W.Frag) (mg : Str → Option Value) (cc c D : Addr) : Prop where
  cell : ∃ (oc : Value) (od : Option Addr) (osl : Array (Option Value)), K.lookup cc = some ⟨oc, od, .cell (some (.ref D)), osl⟩
  code : ∃ (oc : Value) (od : Option Addr) (vs : Array Value) (osl : Array (Option Value)) (file : Str) (tf : Tok), K.lookup c = some ⟨oc, od, .fields vs, osl⟩ ∧ vs[2]? = some (.str file tf) ∧ ((prog.main.file : Str) == file) = true
  cls : ∃ cd, PySem.W.clsIn K D = some cd
  top : (prog.main.scope.names.lookup ("super" : Str)).isSome = false
  mgs : mg "super" = none
/-- the method that super() finds for an instance of C -/
structure SMeth (K : PySem.W.Frag) (C D : Addr) (m : Str) (g : Addr) : Prop where
  sub : PySem.W.mroIn K C (.ref D) = some true
  at_ : PySem.W.ks_superIn K C D m = some (some (.ref g))
  ty : PySem.W.typeIn K (.ref g) = some (.type "function")
  fi : PySem.W.fnIn K g = true
  op : PySem.W.nsIn K cStatics "thirdparty.any" = some none
section
variable {P : Program} {w : World} {K : PySem.W.Frag} {mg : Str → Option Value} {base : Heap}
theorem SFun.ok {CX : CXT} {x qual : Str} {st : Stmt} {cc c D f : Addr} {fd : FuncData} {N ps : List Str} {k : Nat} {sp : Sp} (F : SFun K x qual st cc c f fd) (T : SCls P K mg cc c D) (S : NScope N ps ["__class__"] (defScope st)) (len : ∀ vs H Q E, sp vs H Q E → vs.length = ps.length)
    (hbody : ∀ (A : Around) (outer : List Env) (s : Shared) (H : Hp) (vs : List V) (Q : VK) (E : XK), Room k (A.deeper (envF (sNF x qual st cc c) f s.heap.objs.size)) → sp vs H Q E → ∀ s1,
      Inv (ncx CX P w K mg base N (sNF x qual st cc c) f A outer s H E) [] (startF N vs [none]) H s1 →
      _root_.PySem.wpAt (model P w) (A.deeper (envF (sNF x qual st cc c) f s.heap.objs.size)) (.func (defBody st) (envF (sNF x qual st cc c) f s.heap.objs.size)) (execs (defBody st) (envF (sNF x qual st cc c) f s.heap.objs.size))
        (SP (ncx CX P w K mg base N (sNF x qual st cc c) f A outer s H E) [] { nx := fun _ H' => Q .non H', rt := Q }) (ncx CX P w K mg base N (sNF x qual st cc c) f A outer s H E).xe s1) :
    FnOk P w K mg base CX (k + 1) f fd ps sp := by
  obtain ⟨oc, od, kV, doc, pm, an, ct, osl, rfl, lk, hcd⟩ := F.ex
  obtain ⟨occ, odc, osc, hcell⟩ := T.cell
  refine ⟨len, fun A outer s H args us vs Q E hr e0 hb r hsp => ?_⟩
  have hl := len _ _ _ _ hsp
  have kin : K.In s.heap := e0.mod.kin.keeps fun b o e => (e0.bs b o e).1
  have lim : s.heap.NoLimit := e0.mod.nolimit.keeps fun b o e => (e0.bs b o e).1
  have Cc : s.heap.IsCell cc (some (.ref D)) := ⟨_, kin _ _ hcell, rfl⟩
  have Hc : H cc = none := (e0.bs cc _ (e0.mod.kin _ _ hcell)).2
  have lkc : ∀ (y : Str) (d : Addr), [(("__class__" : Str), cc)].lookup y = some d → y = "__class__" ∧ d = cc := by
    intro y d e
    have := PySem.mem_of_lookup e
    simp at this
    exact this
  have CA : CellsAt [(("__class__" : Str), cc)] ["__class__"] [none] s.heap H := by
    refine ⟨rfl, fun y d e => ?_, fun y z d e1 e2 => ?_, fun i y hi => ?_⟩
    · obtain ⟨_, rfl⟩ := lkc y d e
      exact ⟨Hc, _, Cc⟩
    · rw [(lkc y d e1).1, (lkc z d e2).1]
    · have : y = "__class__" := by
        cases i with
        | zero => simpa using hi.symm
        | succ i => simp at hi
      subst this
      refine ⟨cc, rfl, fun v hv => ?_⟩
      cases i with
      | zero => simp at hv
      | succ i => simp at hv
  have hloc : ∀ y ∈ ps.zip us, (defScope st).names.lookup y.1 = some .local := fun ⟨n, v⟩ hy => S.par n (List.of_mem_zip hy).1
  refine PySem.ks_codeAny_call_defAt (fd := PySem.W.fnX x qual (defArgs st) (defBody st) (defScope st) [("__class__", cc)] .none kV doc pm an (.ref c) ct) (body := defBody st) (binds := ps.zip us) hr.depth (kin _ _ lk) rfl lim (PySem.W.codeRec_of kin hcd) rfl hb (fun y hy => S.nocell y hy) hloc (fun h₁ hns kp => ?_) S.co S.gen S.kind
  have I : Inv (ncx CX P w K mg base N (sNF x qual st cc c) f A outer s H E) [] (startF N vs [none]) H { s with heap := h₁, toks := s.toks + (ps.zip us).length } := inv_startN S hr.hd e0 hl r CA hns kp
  refine PySem.ks_wpAt_mono (hbody A outer s H vs Q E (hr.deeper _) hsp _ I) (fun fl s' hs => ?_) fun e s' hs => hs
  have fin : ∀ {σ' : L2.St} {H' : Hp} {v : V} {u : Value}, Inv (ncx CX P w K mg base N (sNF x qual st cc c) f A outer s H E) [] σ' H' s' → L2.RelV v u → Q v H' → CE outer P w H s Q u s' :=
    fun {σ' H' v u} J rv q => ⟨v, H', J.os, J.bare, J.base, J.hok, rv, q⟩
  cases fl with
  | ret u =>
    obtain ⟨v, σ', H', J, rv, q⟩ := hs
    exact fin J rv q
  | next =>
    obtain ⟨σ', H', J, q⟩ := hs
    exact fin (v := V.non) (u := Value.none) J rfl q
  | brk =>
    obtain ⟨_, _, _, q⟩ := hs
    exact False.elim q
  | cont =>
    obtain ⟨_, _, _, q⟩ := hs
    exact False.elim q
theorem SFun.binds {x qual : Str} {st : Stmt} {cc c f : Addr} {fd : FuncData} {ps : List Str} (F : SFun K x qual st cc c f fd)
    (h : ∀ (kV doc pm : Value) (an : Option Addr) (ct : Value) (us : List Value), us.length = ps.length → bindArgs (PySem.W.fnX x qual (defArgs st) (defBody st) (defScope st) [("__class__", cc)] .none kV doc pm an (.ref c) ct) ⟨us, []⟩ = pure (ps.zip us)) : Binds K fd ps [] := by
  obtain ⟨oc, od, kV, doc, pm, an, ct, osl, rfl, lk, hcd⟩ := F.ex
  exact .all (h kV doc pm an ct)
theorem sfun_mk {x qual : Str} {st : Stmt} {cc c f : Addr} {oc : Value} {od an : Option Addr} {osl : Array (Option Value)} {kV doc pm ct : Value} (l : K.lookup f = some ⟨oc, od, .func (PySem.W.fnX x qual (defArgs st) (defBody st) (defScope st) [("__class__", cc)] .none kV doc pm an (.ref c) ct), osl⟩)
    (hc : PySem.W.codeIn K (.ref c) qual = true) (k : PySem.W.keepIn K (.ref f) = true) : SFun K x qual st cc c f (PySem.W.fnX x qual (defArgs st) (defBody st) (defScope st) [("__class__", cc)] .none kV doc pm an (.ref c) ct) := ⟨⟨oc, od, kV, doc, pm, an, ct, osl, rfl, l, hc⟩, k⟩
end
/-- the running def's frame, as super() reads it -/
structure SEnv (X : Cx) (f cc c D : Addr) (slf : Str) : Prop where
  cls : SCls X.prog X.K X.mg cc c D
  fu : X.env.func = some f
  co : X.env.code = .ref c
  cel : X.env.cells.lookup ("__class__" : Str) = some cc
  fo : ∃ (oc : Value) (od : Option Addr) (fd : FuncData) (osl : Array (Option Value)) (ar : Arg), X.K.lookup f = some ⟨oc, od, .func fd, osl⟩ ∧ (fd.params.posonlyargs ++ fd.params.args).head? = some ar ∧ ar.arg = slf
  ks : X.env.kindOf "super" = some .globalImplicit
  kc : X.env.kindOf "__class__" = some .free
  kslf : X.env.kindOf slf = some .local
section
variable {X : Cx} {pins : List (Addr × Obj)} {σ : L2.St} {H : Hp} {s : Shared} {f cc c D C x dx g : Addr} {slf m : Str} {fs : List (Str × V)} {E : Value → Shared → Prop}
theorem clsIn_obj {K : PySem.W.Frag} {h : Heap} {D : Addr} {cd : ClassData} (kin : K.In h) (e : PySem.W.clsIn K D = some cd) : ∃ o, h.get? D = some o ∧ o.data = .cls cd := by
  unfold PySem.W.clsIn at e
  split at e
  · rename_i c d cd' sl ho
    cases e
    exact ⟨_, kin _ _ ho, rfl⟩
  · cases e
theorem sup_ld {name : Str} {u : Value} {Q : Value → Shared → Prop} (I : Inv X pins σ H s) (hg : X.env.kindOf name = some .globalImplicit) (hm : X.mg name = none) (hv : bootBuiltins name = some u) (h : Q u s) (hn : name ≠ "__name__" := by decide) :
    wpAny (model X.prog X.w) X.A (loadName X.env name) Q E s := by
  obtain ⟨mb, h1, h2⟩ := I.mod.blt
  exact PySem.W.ks_loadName_global I.ok.kind hg (Calls.loadGlobal_builtin (by rw [I.ok.glob]; exact I.mod.glob.keeps I.bk) hm (by rw [I.ok.blt]; exact h1.keeps I.bk) ((h2 name hn).trans hv) h)
/-- the base of the attribute: a super object, new, pinned -/
theorem sup_base {body : List Stmt} {p0 p1 : Pos} {whole : Sem Value} {Q : Value → Shared → Prop} {i : Nat} {od : Option Obj} {ox : Obj} (I : Inv X pins σ H s) (B : SEnv X f cc c D slf) (hN : X.N[i]? = some slf) (hσ : σ[i]? = some (some (.ref x)))
    (J : PySem.W.InstAt s.heap x ox C od) (hsub : PySem.W.mroIn X.K C (.ref D) = some true) (hat : (m == ("__class__" : Str)) = false)
    (h : ∀ s', Inv X ((s.heap.objs.size, PySem.W.ks_superObj D x C) :: pins) σ H s' → (∀ y o, s.heap.get? y = some o → s'.heap.get? y = some o) → Q (.ref s.heap.objs.size) s') :
    _root_.PySem.wpAt (model X.prog X.w) X.A (.func body X.env) (attributeBase (.Call (.Name "super" p0) [] [] p1) m X.env whole) Q E s := by
  obtain ⟨ocf, odf, fd, osf, ar, hf, hp, har⟩ := B.fo
  obtain ⟨occ, odc, osc, hcell⟩ := B.cls.cell
  obtain ⟨ocd, odd, vs, osd, file, tf, hcode, hvs, hfile⟩ := B.cls.code
  obtain ⟨cd, hcd⟩ := B.cls.cls
  obtain ⟨oD, hD1, hD2⟩ := clsIn_obj I.kIn hcd
  refine PySem.ks_wpAt_super_base (env := X.env) B.ks B.kc hat B.fu (I.kIn _ _ hf) rfl hp B.co (I.kIn _ _ hcode) rfl hvs hfile B.cls.top ?_
  refine sup_ld I B.ks B.cls.mgs (show bootBuiltins "super" = some (.type "super") by first | rfl | decide +kernel | kernel_rfl) ⟨rfl, ?_⟩
  refine wpAny_loadName_free I.ok.kind B.kc B.cel ⟨_, I.kIn _ _ hcell, rfl⟩ ?_
  obtain ⟨mm, hn, hl⟩ := I.loc
  obtain ⟨u, ru, lo⟩ := hl i slf (.ref x) hN hσ (.inl B.kslf)
  obtain rfl : u = Value.ref x := ru
  have hmm : mm slf = some (.ref x) := by
    rcases lo with ⟨_, q⟩ | ⟨q, _⟩
    · exact q
    · rw [B.kslf] at q
      rcases q with q | q <;> cases q
  rw [har]
  refine wpAny_loadName_local I.ok.kind B.kslf hn hmm ?_
  refine PySem.ks_wpAny_isType_cls hD1 hD2 ⟨rfl, ?_⟩
  obtain ⟨hh, gg, d, t, os⟩ := s
  refine PySem.ks_wpAny_call_super hD1 hD2 J.at_ J.cls (fun cc' e => ?_) (PySem.W.looks_mroIn I.kIn hsub) (fun h' e k => ?_)
  · have := J.no
    unfold PySem.W.notCls at this
    rw [e] at this
    exact Bool.noConfusion this
  · exact h _ (ClX.pin_new (t' := t) I k (Nat.le_refl _) e fun v z => nomatch z) k
/-- the method, bound to the receiver -/
theorem sup_meth {pl : Sem Bool} {so : Addr} {Q : Value × List Value → Shared → Prop} {od : Option Obj} {ox : Obj} (I : Inv X ((so, PySem.W.ks_superObj D x C) :: pins) σ H s) (J : PySem.W.InstAt s.heap x ox C od) (k : SMeth X.K C D m g) (hn : (m == ("__class__" : Str)) = false)
    (h : ∀ s', Inv X ((s.heap.objs.size, PySem.W.methodObj (.ref g) (.ref x)) :: pins) σ H s' → X.base.get? s.heap.objs.size = none → Q (.ref s.heap.objs.size, []) s') : wpAny (model X.prog X.w) X.A (getMethod (.ref so) m pl) Q E s := by
  obtain ⟨cd, hcd⟩ : ∃ cd, PySem.W.clsIn X.K C = some cd := by
    have q := k.at_
    unfold PySem.W.ks_superIn at q
    cases z : PySem.W.clsIn X.K C with
    | none => rw [z] at q; cases q
    | some cd => exact ⟨cd, rfl⟩
  have ha := k.at_
  unfold PySem.W.ks_superIn at ha
  rw [hcd] at ha
  have ht : (X.K.lookup g).map (·.cls) = some (.type "function") := k.ty
  obtain ⟨og, lg, cg⟩ := Option.map_eq_some_iff.mp ht
  have I0 := ClX.unpin I
  have hso := ClX.pin_at I
  have hbn := ClX.base_none I0 (Nat.le_refl s.heap.objs.size)
  have I1 := ClX.met_new (g := g) (C := x) I0
  have kin := I.kIn
  have hmro : PySem.W.Looks (model X.prog X.w) s.heap (mroOf (.ref C)) cd.mro := (PySem.W.looks_clsIn kin hcd).andThen .now
  obtain ⟨hh, gg, d, t, os⟩ := s
  exact PySem.ks_wpAny_getMethod_super hso (PySem.W.looks_opaque kin k.op) hmro rfl kin ha (kin _ _ lg) cg (PySem.W.ks_ne kin J hcd) hn (h _ I1 hbn)
/-- super().m(e, ..) in the body of a def of the class D, the receiver an instance of C -/
theorem sup_eval {CX : CXT} {k : Nat} {sp : Sp} {EX : XK} {Q : VK} {body : List Stmt} {p0 p1 apos pos : Pos} {e : Expr} {es : List Expr} {ta : TA} {i : Nat} (I : Inv X pins σ H s) (B : SEnv X f cc c D slf) (hN : X.N[i]? = some slf) (hσ : σ[i]? = some (some (.ref x)))
    (hx : H x = some (.ins C dx fs)) (M : SMeth X.K C D m g) (F : FnR X.prog X.w X.K X.mg X.base CX k g sp) (hr : Room k X.A) (hp : Passes CX X EX) (ha : PA X (e :: es) ta) (q : ta σ H fun vs H1 => sp (.ref x :: vs) H1 Q EX)
    (hm : (m == ("__class__" : Str)) = false := by decide) (hst : starEach (e :: es) X.env = (false, eval e X.env) :: starEach es X.env := by rfl) (hpl : (backTo pos (starEach es X.env)).any (·.1) = false := by rfl)
    (pl : Sem Bool) (ht : eval (.Call (.Attribute (.Call (.Name "super" p0) [] [] p1) m apos) (e :: es) [] pos) X.env = (do
      let ov ← attributeBase (.Call (.Name "super" p0) [] [] p1) m X.env (eval (.Call (.Name "super" p0) [] [] p1) X.env)
      standAt apos.atName
      let (f, first) ← holding [ov] (getMethod ov m pl)
      callWith pos f first (backTo pos (starEach (e :: es) X.env)) []) := by rfl) :
    _root_.PySem.wpAt (model X.prog X.w) X.A (.func body X.env) (eval (.Call (.Attribute (.Call (.Name "super" p0) [] [] p1) m apos) (e :: es) [] pos) X.env) (EP X pins σ Q) X.xe s := by
  obtain ⟨mA, O, _, _, _, hdx⟩ := ins_get I.hok hx
  obtain ⟨od, hod, _⟩ := lookIn_ns O.ns
  have J : PySem.W.InstAt s.heap x (PySem.W.instObj C dx) C (some od) := ⟨O.obj, rfl, rfl, hod⟩
  refine PySem.ks_wpAt_MethodCall (pl := pl) ?_ ht
  refine sup_base I B hN hσ J M.sub hm fun s1 I1 k1 => ?_
  have J1 : PySem.W.InstAt s1.heap x (PySem.W.instObj C dx) C (some od) := ⟨k1 _ _ O.obj, rfl, rfl, k1 _ _ hod⟩
  refine sup_meth I1 J1 M hm fun s2 I2 hb => ?_
  refine ClX.callwith_cm I2 hb M.fi (thn (ha.run pos _ s2 σ H _ I2 q) fun us s3 ⟨vs, H3, I3, r3, q3⟩ => ⟨⟨ClX.pin_at I3, I3.kIn⟩, ?_⟩) hst hpl
  exact ClX.run_cm F hr hp I3 r3 q3
/-- .. as the first statement of the body, then the rest -/
theorem sup_first {CX : CXT} {k : Nat} {sp : Sp} {EX : XK} {body rest : List Stmt} {p0 p1 apos pos p2 : Pos} {e : Expr} {es : List Expr} {ta : TA} {u : TS} {D' : Ends} {i : Nat} (I : Inv X pins σ H s) (B : SEnv X f cc c D slf) (hN : X.N[i]? = some slf) (hσ : σ[i]? = some (some (.ref x)))
    (hx : H x = some (.ins C dx fs)) (M : SMeth X.K C D m g) (F : FnR X.prog X.w X.K X.mg X.base CX k g sp) (hr : Room k X.A) (hp : Passes CX X EX) (ha : PA X (e :: es) ta) (hrest : PSs X rest u)
    (q : ta σ H fun vs H1 => sp (.ref x :: vs) H1 (fun _ H2 => u D' σ H2) EX)
    (pl : Sem Bool) (ht : eval (.Call (.Attribute (.Call (.Name "super" p0) [] [] p1) m apos) (e :: es) [] pos) X.env = (do
      let ov ← attributeBase (.Call (.Name "super" p0) [] [] p1) m X.env (eval (.Call (.Name "super" p0) [] [] p1) X.env)
      standAt apos.atName
      let (f, first) ← holding [ov] (getMethod ov m pl)
      callWith pos f first (backTo pos (starEach (e :: es) X.env)) []) := by rfl)
    (hi : interactive X.env = false := by rfl) (hs : swapsWith (.Call (.Attribute (.Call (.Name "super" p0) [] [] p1) m apos) (e :: es) [] pos) none p2.line X.env = pure false := by rfl)
    (hm : (m == ("__class__" : Str)) = false := by decide) (hst : starEach (e :: es) X.env = (false, eval e X.env) :: starEach es X.env := by rfl) (hpl : (backTo pos (starEach es X.env)).any (·.1) = false := by rfl) :
    _root_.PySem.wpAt (model X.prog X.w) X.A (.func body X.env) (execs (.Expr (.Call (.Attribute (.Call (.Name "super" p0) [] [] p1) m apos) (e :: es) [] pos) p2 :: rest) X.env) (SP X pins D') X.xe s := by
  refine PySem.ks_wpAt_execs_cons (PySem.ks_wpAt_Expr_any (PySem.ks_wpAt_mono (sup_eval (body := body) I B hN hσ hx M F hr hp ha q hm hst hpl pl ht) (fun v s' hv => ?_) fun _ _ z => z) hi hs)
  obtain ⟨y, H2, I2, _, q2⟩ := hv
  exact wpAt_of_wpAny (hrest.run pins s' σ H2 D' I2 q2)
end
end Pr
namespace Pr
open PySem PySem.Spec PyProof.Rows L2 NdefX
theorem fr_of {P : Program} {w : World} {K : PySem.W.Frag} {mg : Str → Option Value} {base : Heap} {CX : CXT} {k : Nat} {f : Addr} {fd : FuncData} {ps : List Str} {sp : Sp} (F : FnOk P w K mg base CX k f fd ps sp) (hb : Binds K fd ps []) : FnR P w K mg base CX k f sp := (F.raw hb .nil).imp fun vs H Q E h => by rw [List.append_nil]; exact h
theorem passAt0 {X : Cx} {E : L2.St → XK} : ∀ σ, PassesAt CX0 X σ (E σ) := fun _ _ _ _ _ _ _ h => h.elim
def tCFun (C : Addr) (sp : Sp) (E : L2.St → XK) (ta : TE) (t : TA) : TE := fun σ H Q => ta σ H fun x H1 => x = .ref C ∧ t σ H1 fun vs H2 => sp vs H2 Q (E σ)
section
variable {X : Cx} {CX : CXT} {k : Nat} {C g : Addr} {mc : Value} {sp : Sp} {E : L2.St → XK} {o e : Expr} {es : List Expr} {m : Str} {pos apos : Pos} {ta : TE} {t : TA} {pl : Sem Bool}
theorem pe_cfun (he : PE X o ta) (r : ClX.CRead X.K C mc) (c : ClX.CVal X.K C mc m (.ref g) (.ref g)) (hk : PySem.W.keepIn X.K (.ref g) = true) (F : FnR X.prog X.w X.K X.mg X.base CX k g sp) (hr : Room k X.A) (hx : ∀ σ, PassesAt CX X σ (E σ)) (ha : PA X (e :: es) t)
    (hst : starEach (e :: es) X.env = (false, eval e X.env) :: starEach es X.env := by rfl) (hpl : (backTo pos (starEach es X.env)).any (·.1) = false := by rfl)
    (ht : eval (.Call (.Attribute o m apos) (e :: es) [] pos) X.env = (do
      let ov ← eval o X.env
      standAt apos.atName
      let (f, first) ← holding [ov] (getMethod ov m pl)
      callWith pos f first (backTo pos (starEach (e :: es) X.env)) (backToKw pos (keywordEach [] X.env))) := by rfl) :
    PE X (.Call (.Attribute o m apos) (e :: es) [] pos) (tCFun C sp E ta t) := by
  refine ⟨fun pins s σ H Q I h => ?_⟩
  refine PySem.W.methodCall_KW (pl := pl) (thn (he.run pins s σ H _ I h) fun u s1 ⟨x, H1, I1, rx, ex, q⟩ => ?_) ht
  subst ex
  obtain rfl : u = Value.ref C := rx
  refine PySem.W.method_cls I1.kIn r.ga (ClX.getcval_ok I1 r c fun s2 I2 => ?_)
  refine PySem.W.callWith_K (h₀ := X.base) I2.ok.mod.kin hk (thn (ha.run pos pins s2 σ H1 _ I2 q) fun us s3 ⟨vs, H2, I3, rv, q2⟩ => ⟨I3.kIn, ?_⟩) hst hpl
  refine wpAny_call (codeAny_mono (F X.A X.stack s3 H2 us vs Q (E σ) hr I3.env0 rv q2) fun r s' hq => ?_)
  cases r with
  | error e => exact hx σ pins H2 s3 e s' I3 hq
  | ok fl =>
    cases fl with
    | ret u => exact I3.after hq
    | next => exact False.elim hq
    | brk => exact False.elim hq
    | cont => exact False.elim hq
end
end Pr
namespace K64G
open PySem PySem.Spec PyProof.Rows L2 Pr K64
abbrev sShowB : Stmt := sShow
def nShowB : List Str := ["self", "panel", "latched"]
theorem scShowB : FnScope nShowB ["self", "panel", "latched"] (defScope sShowB) := ⟨rfl, rfl, rfl, by decide +kernel, rfl, by decide +kernel, by decide +kernel⟩
section
variable {P : Program} {w : World} {K : PySem.W.Frag} {mg : Str → Option Value} {base : Heap}
def spShowB (K : PySem.W.Frag) (C : Addr) : Sp := fun vs H Q _ => ∃ (t p l dx : Addr) (fs : List (Str × V)) (pan : List (List Int)) (st : List Int), vs = [.ref t, .ref p, .ref l] ∧ H t = some (.ins C dx fs) ∧ fs.length ≤ 6 ∧ PanT K H p pan ∧ Good pan ∧ SqT K H l (st.map V.int) ∧ Asc pan.length st ∧
  ∀ H' h hs, ButO t H H' → H' t = some (.ins C dx (putF "held" (.ref h) (putF "latched" (.ref l) (putF "panel" (.ref p) fs)))) → SqT K H' h (hs.map V.int) → IsHeld pan st hs → Q .non H'
theorem ok_ShowB {fAny : Addr} {fdAny : FuncData} {fHeld : Addr} {fdHeld : FuncData} {C f : Addr} {fd : FuncData} {k : Nat} (F : Fun K "show" "Desk.show" sShowB f fd) (T : TxtD K mg C)
    (FAny : Fun K "releases_any" "releases_any" sAny fAny fdAny) (bAny : Binds K fdAny ["panel", "button", "others"] []) (gAny : mg "releases_any" = some (.ref fAny))
    (FHeld : Fun K "held_buttons" "held_buttons" sHeld fHeld fdHeld) (bHeld : Binds K fdHeld ["panel", "state"] []) (gHeld : mg "held_buttons" = some (.ref fHeld))
    (m_any : mg "any" = none) (m_len : mg "len" = none) (m_tuple : mg "tuple" = none) : FnOk P w K mg base CX0 (k + 3) f fd ["self", "panel", "latched"] (spShowB K C) := by
  have GHeld : FnOk P w K mg base CX0 (k + 2) fHeld fdHeld ["panel", "state"] (spHeld K) := ok_held FHeld FAny bAny gAny m_len m_tuple m_any
  refine F.ok scShowB (fun vs H Q E h => ?_) (fun cdv A outer s H vs Q E hr h => ?_)
  · obtain ⟨t, p, l, dx, fs, pan, st, rfl, _⟩ := h
    rfl
  · obtain ⟨t, p, l, dx, fs, pan, st, rfl, ht, fl, hp, hg, hl, hst, q⟩ := h
    refine ⟨_, pss_cons (ps_fld (pv 0) (pv 1) rfl)
      (pss_cons (ps_fld (pv 0) (pv 2) rfl)
      (pss_one (ps_fld (pv 0) (pe_call GHeld (hr.mono (by omega)) (by rfl) gHeld FHeld.kp bHeld .nil pass0 (pa_cons (pv 1) (pa_cons (pv 2) pa_nil))) rfl))), ?_⟩
    have pl : ∀ (f : Str) (v : V) (l : List (Str × V)), (putF f v l).length ≤ l.length + 1 := fun f v l => by
      induction l with
      | nil => exact Nat.le_refl _
      | cons x r ih =>
        show (if x.1 = f then (x.1, v) :: r else x :: putF f v r).length ≤ _
        split
        · exact Nat.le_succ _
        · exact Nat.succ_le_succ ih
    refine ⟨.ref p, rfl, .ref t, rfl, t, C, dx, fs, rfl, ht, T.cl, T.nP, by omega, ?_⟩
    have k1 := ButO.upd (g := t) (H := H) (o := .ins C dx (putF "panel" (.ref p) fs))
    refine ⟨.ref l, rfl, .ref t, rfl, t, C, dx, _, rfl, upd_same, T.cl, T.nL, by have := pl "panel" (.ref p) fs; omega, ?_⟩
    have k2 := ButO.upd (g := t) (H := upd H t (.ins C dx (putF "panel" (.ref p) fs))) (o := .ins C dx (putF "latched" (.ref l) (putF "panel" (.ref p) fs)))
    have k12 := k1.trans k2
    refine ⟨.ref p, rfl, .ref l, rfl, p, l, pan, st, rfl, hp.kp (k12.kp ht), hg, sqT_kp (k12.kp ht) hl, hst, fun H3 h hs s3 hh ish => ?_⟩
    have e3 := s3 _ _ (upd_same (a := t) (o := .ins C dx (putF "latched" (.ref l) (putF "panel" (.ref p) fs))))
    refine ⟨.ref t, rfl, t, C, dx, _, rfl, e3, T.cl, T.nH, by have := pl "panel" (.ref p) fs; have := pl "latched" (.ref l) (putF "panel" (.ref p) fs); omega, ?_⟩
    have k4 := ButO.upd (g := t) (H := H3) (o := .ins C dx (putF "held" (.ref h) (putF "latched" (.ref l) (putF "panel" (.ref p) fs))))
    exact q _ h hs ((k12.trans (ButO.of s3)).trans k4) upd_same (sqT_kp (k4.kp e3) hh) ish
end
theorem put_sa (pa p l h : Addr) : (putF "held" (.ref h) (putF "latched" (.ref l) (putF "panel" (.ref p) (fD1 pa)))).lookup ("past" : Str) = some (.ref pa) := by rfl
theorem put_sb (pa p0 l0 h0 k0 p l h : Addr) : (putF "held" (.ref h) (putF "latched" (.ref l) (putF "panel" (.ref p) (fldsD pa p0 l0 h0 k0)))).lookup ("past" : Str) = some (.ref pa) := by rfl
theorem put_ka (pa p l h kn : Addr) : putF "known" (.ref kn) (putF "held" (.ref h) (putF "latched" (.ref l) (putF "panel" (.ref p) (fD1 pa)))) = fldsD pa p l h kn := by rfl
theorem put_kb (pa p0 l0 h0 k0 p l h kn : Addr) : putF "known" (.ref kn) (putF "held" (.ref h) (putF "latched" (.ref l) (putF "panel" (.ref p) (fldsD pa p0 l0 h0 k0)))) = fldsD pa p l h kn := by rfl
theorem put_pan (pa p0 l h kn p : Addr) : putF "panel" (.ref p) (fldsD pa p0 l h kn) = fldsD pa p l h kn := by rfl
theorem put_kn (pa p l h k0 kn : Addr) : putF "known" (.ref kn) (fldsD pa p l h k0) = fldsD pa p l h kn := by rfl
abbrev sShowG : Stmt := inClass (topS 63) 1
def nShowG : List Str := ["self", "panel", "latched", "__class__"]
theorem scShowG : NdefX.NScope nShowG ["self", "panel", "latched"] ["__class__"] (defScope sShowG) := NdefX.nscope_by (by decide +kernel)
section
variable {P : Program} {w : World} {K : PySem.W.Frag} {mg : Str → Option Value} {base : Heap}
theorem ok_ShowG {fNo : Addr} {fdNo : FuncData} {fPressE : Addr} {fdPressE : FuncData} {fJoin : Addr} {fdJoin : FuncData} {fWith : Addr} {fdWith : FuncData} {fAny : Addr} {fdAny : FuncData} {fHeld : Addr} {fdHeld : FuncData} {fKAft : Addr} {fdKAft : FuncData} {C D cc c f fB : Addr} {fd fdB : FuncData} {k : Nat} (F : SFun K "show" "GuessDesk.show" sShowG cc c f fd) (S : SCls P K mg cc c D) (SM : SMeth K C D "show" fB) (FB : Fun K "show" "Desk.show" sShow fB fdB) (bB : Binds K fdB ["self", "panel", "latched"] []) (T : TxtD K mg C)
    (FNo : Fun K "no_effect" "no_effect" sNo fNo fdNo) (bNo : Binds K fdNo ["panel"] []) (gNo : mg "no_effect" = some (.ref fNo))
    (FPressE : Fun K "press_effect" "press_effect" sPressE fPressE fdPressE) (bPressE : Binds K fdPressE ["panel", "button"] []) (gPressE : mg "press_effect" = some (.ref fPressE))
    (FJoin : Fun K "joined_effect" "joined_effect" sJoin fJoin fdJoin) (bJoin : Binds K fdJoin ["first", "second"] []) (gJoin : mg "joined_effect" = some (.ref fJoin))
    (FWith : Fun K "effect_with_press" "effect_with_press" sWith fWith fdWith) (bWith : Binds K fdWith ["panel", "effect", "button"] []) (gWith : mg "effect_with_press" = some (.ref fWith))
    (FAny : Fun K "releases_any" "releases_any" sAny fAny fdAny) (bAny : Binds K fdAny ["panel", "button", "others"] []) (gAny : mg "releases_any" = some (.ref fAny))
    (FHeld : Fun K "held_buttons" "held_buttons" sHeld fHeld fdHeld) (bHeld : Binds K fdHeld ["panel", "state"] []) (gHeld : mg "held_buttons" = some (.ref fHeld))
    (FKAft : Fun K "known_after" "known_after" sKAft fKAft fdKAft) (bKAft : Binds K fdKAft ["panel", "past"] []) (gKAft : mg "known_after" = some (.ref fKAft))
    (m_any : mg "any" = none) (m_len : mg "len" = none) (m_list : mg "list" = none) (m_tuple : mg "tuple" = none) (m_zip : mg "zip" = none) : FnOk P w K mg base CX0 (k + 6) f fd ["self", "panel", "latched"] (spShow K C) := by
  have GB : FnOk P w K mg base CX0 (k + 3) fB fdB ["self", "panel", "latched"] (spShowB K C) := ok_ShowB FB T FAny bAny gAny FHeld bHeld gHeld m_any m_len m_tuple
  have GKAft : FnOk P w K mg base CX0 (k + 4) fKAft fdKAft ["panel", "past"] (spKAft K) := ok_KAft FKAft FNo bNo gNo FPressE bPressE gPressE FJoin bJoin gJoin FWith bWith gWith m_len m_list m_tuple m_zip
  refine SFun.ok F S scShowG (fun vs H Q E h => ?_) (fun A outer s H vs Q E hr h s1 I => ?_)
  · obtain ⟨t, p, l, dx, pa, fs, pan, st, past, rfl, _⟩ := h
    rfl
  · obtain ⟨t, p, l, dx, pa, fs, pan, st, past, rfl, ht, hfs, hp, hg, hl, hst, hP, lfe, q⟩ := h
    obtain ⟨oc, od, kV, doc, pm, an, ct, osl, rfl, lkf, _⟩ := F.ex
    have B : SEnv (NdefX.ncx CX0 P w K mg base nShowG (sNF "show" "GuessDesk.show" sShowG cc c) f A outer s H E) f cc c D "self" := { cls := S, fu := rfl, co := rfl, cel := rfl, fo := ⟨_, _, _, _, _, lkf, rfl, rfl⟩, ks := rfl, kc := rfl, kslf := rfl }
    have fl : fs.length ≤ 6 := by
      rcases hfs with rfl | ⟨p0, l0, h0, k0, rfl⟩
      · show 2 ≤ 6; decide
      · exact Nat.le_refl 6
    refine sup_first I B (i := 0) rfl rfl ht SM (fr_of GB bB) (hr.mono (by omega)) pass0 (pa_cons (pv 1) (pa_cons (pv 2) pa_nil)) (pss_one (ps_fld (pv 0) (pe_call GKAft (hr.mono (by omega)) (by rfl) gKAft FKAft.kp bKAft .nil pass0 (pa_cons (pv 1) (pa_cons (pe_fld (pv 0) rfl) pa_nil))) rfl)) ?_ _ (by rfl)
    refine ⟨.ref p, rfl, .ref l, rfl, t, p, l, dx, fs, pan, st, rfl, ht, fl, hp, hg, hl, hst, fun H1 h hs k1 e1 hh ish => ?_⟩
    have kp1 := k1.kp ht
    have lfp : ∀ x ∈ past, lf x.1 = true ∧ Good x.2.1 ∧ Asc x.2.1.length x.2.2 := fun x hx => ⟨(lfe x hx).1, (lfe x hx).2.1, (lfe x hx).2.2.1⟩
    have hP1 := hP.kp kp1 lfp
    refine ⟨.ref p, rfl, .ref t, rfl, t, C, dx, _, .ref pa, rfl, e1, T.cl, T.nA, ?_, p, pa, pan, past, rfl, hp.kp kp1, hg, hP1, lfe, fun H2 u s2 hu => ?_⟩
    · rcases hfs with rfl | ⟨p0, l0, h0, k0, rfl⟩
      · exact put_sa _ _ _ _
      · exact put_sb _ _ _ _ _ _ _ _
    have e2 := s2 _ _ e1
    refine ⟨.ref t, rfl, t, C, dx, _, rfl, e2, T.cl, T.nK, ?_, ?_⟩
    · rcases hfs with rfl | ⟨p0, l0, h0, k0, rfl⟩
      · show 5 < 1000; decide
      · show 6 < 1000; decide
    have k3 := ButO.upd (g := t) (H := H2) (o := .ins C dx (fldsD pa p l h u))
    have ef : putF "known" (.ref u) (putF "held" (.ref h) (putF "latched" (.ref l) (putF "panel" (.ref p) fs))) = fldsD pa p l h u := by
      rcases hfs with rfl | ⟨p0, l0, h0, k0, rfl⟩
      · exact put_ka _ _ _ _ _
      · exact put_kb _ _ _ _ _ _ _ _ _
    rw [ef]
    exact q _ h hs u ((k1.trans (ButO.of s2)).trans k3) upd_same (sqT_kp (k3.kp e2) (same_sqT s2 hh)) ish (hu.kp (k3.kp e2))
end
end K64G
namespace K64G
open PySem PySem.Spec PyProof.Rows L2 Pr K64
abbrev sInitU : Stmt := inClass (topS 62) 0
def nInitU : List Str := ["self", "panel"]
theorem scInitU : FnScope nInitU ["self", "panel"] (defScope sInitU) := ⟨rfl, rfl, rfl, by decide +kernel, rfl, by decide +kernel, by decide +kernel⟩
section
variable {P : Program} {w : World} {K : PySem.W.Frag} {mg : Str → Option Value} {base : Heap}
def spInitU (K : PySem.W.Frag) (C : Addr) : Sp := fun vs H Q _ => ∃ (t p : Addr) (pan : List (List Int)) (st : List Int), vs = [.ref t, .ref p] ∧ DeskAt K C H t pan st [] ∧ PanT K H p pan ∧ ∀ H', ButO t H H' → DeskAt K C H' t pan st [] → Q .non H'
theorem ok_InitU {fNo : Addr} {fdNo : FuncData} {fBtn : Addr} {fdBtn : FuncData} {fBtnT : Addr} {fdBtnT : FuncData} {fPErr : Addr} {fdPErr : FuncData} {fChkP : Addr} {fdChkP : FuncData} {C f : Addr} {fd : FuncData} {k : Nat} {tk : Tok} (F : Fun K "__init__" "Guess.__init__" sInitU f fd) (T : TxtD K mg C)
    (FNo : Fun K "no_effect" "no_effect" sNo fNo fdNo) (bNo : Binds K fdNo ["panel"] []) (gNo : mg "no_effect" = some (.ref fNo))
    (FBtn : Fun K "is_button" "is_button" sBtn fBtn fdBtn) (bBtn : Binds K fdBtn ["value", "many"] []) (gBtn : mg "is_button" = some (.ref fBtn))
    (FBtnT : Fun K "is_button_tuple" "is_button_tuple" sBtnT fBtnT fdBtnT) (bBtnT : Binds K fdBtnT ["value", "many"] []) (gBtnT : mg "is_button_tuple" = some (.ref fBtnT))
    (FPErr : Fun K "panel_error" "panel_error" sPErr fPErr fdPErr) (bPErr : Binds K fdPErr ["value"] []) (gPErr : mg "panel_error" = some (.ref fPErr))
    (FChkP : Fun K "check_panel" "check_panel" sChkP fChkP fdChkP) (bChkP : Binds K fdChkP ["value"] []) (gChkP : mg "check_panel" = some (.ref fChkP))
    (m_bool : mg "bool" = none) (m_enumerate : mg "enumerate" = none) (m_int : mg "int" = none) (m_isinstance : mg "isinstance" = none) (m_len : mg "len" = none) (m_tuple : mg "tuple" = none) (y_MAX : mg "MAX_BUTTONS" = some (.int 10 tk)) : FnOk P w K mg base CX0 (k + 5) f fd ["self", "panel"] (spInitU K C) := by
  have GNo : FnOk P w K mg base CX0 (k + 1) fNo fdNo ["panel"] (spNo K) := ok_no FNo m_len
  have GChkP : FnOk P w K mg base CX0 (k + 4) fChkP fdChkP ["value"] (spChkP K) := ok_ChkP FChkP FBtn bBtn gBtn FBtnT bBtnT gBtnT FPErr bPErr gPErr m_bool m_enumerate m_int m_isinstance m_len m_tuple y_MAX
  refine F.ok scInitU (fun vs H Q E h => ?_) (fun cdv A outer s H vs Q E hr h => ?_)
  · obtain ⟨t, p, pan, st, rfl, _⟩ := h
    rfl
  · obtain ⟨t, p, pan, st, rfl, hD, hp, q⟩ := h
    refine ⟨_, pss_cons (ps_expr (pe_call GChkP (hr.mono (by omega)) (by rfl) gChkP FChkP.kp bChkP .nil pass0 (pa_cons (pv 1) pa_nil)))
      (pss_cons (ps_fld (pv 0) (pv 1) rfl)
      (pss_one (ps_fld (pv 0) (pe_call GNo (hr.mono (by omega)) (by rfl) gNo FNo.kp bNo .nil pass0 (pa_cons (pv 1) pa_nil)) rfl))), ?_⟩
    refine ⟨.ref p, rfl, p, pan, rfl, hp, hD.good, fun H1 s1 => ?_⟩
    have hD1 := hD.same s1
    obtain ⟨⟨dx, pa, p0, l, hh, hs, kn, h1, h2, h3, h4, h5, h6, h7⟩, hg, hst, lfe⟩ := hD1
    refine ⟨.ref p, rfl, .ref t, rfl, t, C, dx, _, rfl, h1, T.cl, T.nP, by show 6 < 1000; decide, ?_⟩
    rw [put_pan]
    have k2 := ButO.upd (g := t) (H := H1) (o := .ins C dx (fldsD pa p l hh kn))
    have kp2 := k2.kp h1
    refine ⟨.ref p, rfl, p, pan, rfl, (hp.same s1).kp kp2, hg, fun H3 u s3 hu => ?_⟩
    have e3 := s3 _ _ (upd_same (a := t) (H := H1) (o := .ins C dx (fldsD pa p l hh kn)))
    refine ⟨.ref t, rfl, t, C, dx, _, rfl, e3, T.cl, T.nK, by show 6 < 1000; decide, ?_⟩
    rw [put_kn]
    have k4 := ButO.upd (g := t) (H := H3) (o := .ins C dx (fldsD pa p l hh u))
    have kp4 := k4.kp e3
    have kp24 := (kp2.trans (Kp.of s3)).trans kp4
    exact q _ ((((ButO.of s1).trans k2).trans (ButO.of s3)).trans k4) ⟨⟨dx, pa, p, l, hh, hs, u, upd_same, h2.kp kp24 (fun x hx => by cases hx), (hp.same s1).kp kp24, kp24.1 _ _ h4, sqT_kp kp24 h5, h6, by rw [show knM pan.length [] = effM pan [] from (effM_nil pan).symm]; exact hu.kp kp4⟩, hg, hst, lfe⟩
end
abbrev sInitG : Stmt := inClass (topS 63) 0
def nInitG : List Str := ["self", "panel", "state"]
theorem scInitG : FnScope nInitG ["self", "panel", "state"] (defScope sInitG) := ⟨rfl, rfl, rfl, by decide +kernel, rfl, by decide +kernel, by decide +kernel⟩
section
variable {P : Program} {w : World} {K : PySem.W.Frag} {mg : Str → Option Value} {base : Heap}
def spInitG (K : PySem.W.Frag) (C : Addr) : Sp := fun vs H Q _ => ∃ (t p l dx : Addr) (pan : List (List Int)) (st : List Int), vs = [.ref t, .ref p, .ref l] ∧ H t = some (.ins C dx []) ∧ PanT K H p pan ∧ Good pan ∧ H l = some (.tup (st.map V.int)) ∧ Asc pan.length st ∧
  ∀ H', ButO t H H' → DeskAt K C H' t pan st [] → Q .non H'
/-- C.__init__ read off the class, and how -/
abbrev CInit (K : PySem.W.Frag) (C : Addr) (mc : Value) (g : Addr) : Prop := ClX.CRead K C mc ∧ ClX.CVal K C mc "__init__" (.ref g) (.ref g)
theorem ok_InitG {fNo : Addr} {fdNo : FuncData} {fBtn : Addr} {fdBtn : FuncData} {fBtnT : Addr} {fdBtnT : FuncData} {fPErr : Addr} {fdPErr : FuncData} {fChkP : Addr} {fdChkP : FuncData} {fChkS : Addr} {fdChkS : FuncData} {fInitD fInitU : Addr} {fdInitD fdInitU : FuncData} {mcD mcU : Value} {CD CU C f : Addr} {fd : FuncData} {k : Nat} {tk : Tok} (F : Fun K "__init__" "GuessDesk.__init__" sInitG f fd) (T : TxtD K mg C)
    (gCD : mg "Desk" = some (.ref CD)) (gCU : mg "Guess" = some (.ref CU)) (cvD : CInit K CD mcD fInitD) (cvU : CInit K CU mcU fInitU) (FInitD : Fun K "__init__" "Desk.__init__" sInitD fInitD fdInitD) (bInitD : Binds K fdInitD ["self", "panel", "state"] []) (FInitU : Fun K "__init__" "Guess.__init__" sInitU fInitU fdInitU) (bInitU : Binds K fdInitU ["self", "panel"] [])
    {fShow : Addr} {fdShow : FuncData} (GShow0 : ∀ k0 : Nat, FnOk P w K mg base CX0 (k0 + 6) fShow fdShow ["self", "panel", "latched"] (spShow K C)) (bShow : Binds K fdShow ["self", "panel", "latched"] []) (hShow : Meth K C "show" fShow)
    (FNo : Fun K "no_effect" "no_effect" sNo fNo fdNo) (bNo : Binds K fdNo ["panel"] []) (gNo : mg "no_effect" = some (.ref fNo))
    (FBtn : Fun K "is_button" "is_button" sBtn fBtn fdBtn) (bBtn : Binds K fdBtn ["value", "many"] []) (gBtn : mg "is_button" = some (.ref fBtn))
    (FBtnT : Fun K "is_button_tuple" "is_button_tuple" sBtnT fBtnT fdBtnT) (bBtnT : Binds K fdBtnT ["value", "many"] []) (gBtnT : mg "is_button_tuple" = some (.ref fBtnT))
    (FPErr : Fun K "panel_error" "panel_error" sPErr fPErr fdPErr) (bPErr : Binds K fdPErr ["value"] []) (gPErr : mg "panel_error" = some (.ref fPErr))
    (FChkP : Fun K "check_panel" "check_panel" sChkP fChkP fdChkP) (bChkP : Binds K fdChkP ["value"] []) (gChkP : mg "check_panel" = some (.ref fChkP))
    (FChkS : Fun K "check_state" "check_state" sChkS fChkS fdChkS) (bChkS : Binds K fdChkS ["panel", "value"] []) (gChkS : mg "check_state" = some (.ref fChkS))
    (m_bool : mg "bool" = none) (m_enumerate : mg "enumerate" = none) (m_int : mg "int" = none) (m_isinstance : mg "isinstance" = none) (m_len : mg "len" = none) (m_tuple : mg "tuple" = none) (y_MAX : mg "MAX_BUTTONS" = some (.int 10 tk)) : FnOk P w K mg base CX0 (k + 8) f fd ["self", "panel", "state"] (spInitG K C) := by
  have kInitD := FInitD.kp
  have kInitU := FInitU.kp
  have GInitD : FnOk P w K mg base CX0 (k + 7) fInitD fdInitD ["self", "panel", "state"] (spInitD K C) := ok_InitD FInitD T FBtn bBtn gBtn FBtnT bBtnT gBtnT FPErr bPErr gPErr FChkP bChkP gChkP FChkS bChkS gChkS GShow0 bShow hShow m_bool m_enumerate m_int m_isinstance m_len m_tuple y_MAX
  have GInitU : FnOk P w K mg base CX0 (k + 5) fInitU fdInitU ["self", "panel"] (spInitU K C) := ok_InitU FInitU T FNo bNo gNo FBtn bBtn gBtn FBtnT bBtnT gBtnT FPErr bPErr gPErr FChkP bChkP gChkP m_bool m_enumerate m_int m_isinstance m_len m_tuple y_MAX
  refine F.ok scInitG (fun vs H Q E h => ?_) (fun cdv A outer s H vs Q E hr h => ?_)
  · obtain ⟨t, p, l, dx, pan, st, rfl, _⟩ := h
    rfl
  · obtain ⟨t, p, l, dx, pan, st, rfl, ht, hp, hg, hl, hst, q⟩ := h
    refine ⟨_, pss_cons (ps_expr (pe_cfun (E := fun _ => E0) (pe_glob (v := .ref CD) (by rfl) gCD rfl) cvD.1 cvD.2 kInitD (fr_of GInitD bInitD) (hr.mono (by omega)) passAt0 (pa_cons (pv 0) (pa_cons (pv 1) (pa_cons (pv 2) pa_nil)))))
      (pss_one (ps_expr (pe_cfun (E := fun _ => E0) (pe_glob (v := .ref CU) (by rfl) gCU rfl) cvU.1 cvU.2 kInitU (fr_of GInitU bInitU) (hr.mono (by omega)) passAt0 (pa_cons (pv 0) (pa_cons (pv 1) pa_nil))))), ?_⟩
    refine ⟨rfl, .ref t, rfl, .ref p, rfl, .ref l, rfl, t, p, l, dx, pan, st, rfl, ht, hp, hg, hl, hst, fun H1 k1 D1 => ?_⟩
    refine ⟨rfl, .ref t, rfl, .ref p, rfl, t, p, pan, st, rfl, D1, hp.kp (k1.kp ht), fun H2 k2 D2 => q H2 (k1.trans k2) D2⟩
end
end K64G
namespace K64G
open PySem PySem.Spec PyProof.Rows L2 Pr K64
section
variable {K : PySem.W.Frag} {C : Addr} {H H' : Hp} {t : Addr} {pan : List (List Int)} {st : List Int} {past : List (PyData × List (List Int) × List Int)} {σ : L2.St} {i : Nat} {E : XK} {te : TE}
theorem DeskAt.at {P : Prop} (h : DeskAt K C H t pan st past) (q : ∀ dx fs, H t = some (.ins C dx fs) → (∀ m : Str, m ∉ (["past", "watched", "panel", "latched", "held", "known"] : List Str) → fs.lookup m = none) → P) : P := by
  obtain ⟨⟨dx, pa, p, l, hh, hs, kn, h1, h2, h3, h4, _⟩, _⟩ := h
  refine q dx _ h1 fun m hm => ?_
  simp only [List.mem_cons, List.mem_nil_iff, or_false, not_or] at hm
  obtain ⟨n1, n2, n3, n4, n5, n6⟩ := hm
  unfold fldsD
  simp only [List.lookup_cons, List.lookup_nil]
  have : ∀ {a b : Str}, a ≠ b → (a == b) = false := fun h => by simpa using h
  rw [this n1, this n2, this n3, this n4, this n5, this n6]
theorem gv_lenD (hi : σ[i]? = some (some (.ref t))) (h : DeskAt K C H t pan st past) (few : past.length ≤ 1000) : Gv K (tCB (rLenO C (spLenD K C)) (tCons (tVar i) tNil)) σ H (.int (past.length : Nat)) := fun H1 s Q q => by
  have hD := h.same s
  exact hD.at fun dx fs e l => ⟨.ref t, hi, t, dx, fs, rfl, e, t, pan, st, past, rfl, hD, fun H2 s2 => ⟨_, rfl, by omega, by omega, q _ H2 s2 (.int _)⟩⟩
theorem gv_held {mg : Str → Option Value} {hs : List Int} (T : TxtD K mg C) (hi : σ[i]? = some (some (.ref t))) (h : DeskAt K C H t pan st past) (ih : IsHeld pan st hs) : Gv K (tFld K (tVar i) "held") σ H (dInts hs) := fun H1 s Q q => by
  obtain ⟨⟨dx, pa, p, l, hh, hs', kn, h1, h2, h3, h4, h5, h6, h7⟩, _⟩ := h.same s
  obtain rfl := ih.uniq h6
  exact ⟨.ref t, hi, t, C, dx, _, .ref hh, rfl, h1, T.cl, T.nH, look_held _ _ _ _ _, q _ H1 (Same.refl _) (dp_ints h5)⟩
theorem gm_PressD {b : Int} {ta : TA} {Q : VK} (hi : σ[i]? = some (some (.ref t))) (h : DeskAt K C H t pan st past) (few : past.length < 60) (ga : GvA K ta σ H [.int b]) (b0 : 0 ≤ b) (b1 : b < (pan.length : Int)) (q : ∀ H', ButO t H H' → DeskAt K C H' t pan (pressM pan st b) (past ++ [((.tuple [.str "press", .int b]), pan, st)]) → Q (.int ((past.length + 1 : Nat) : Int)) H') : tMeth C "press" (spPressD K C) [] E (tVar i) ta σ H Q :=
  h.at fun dx fs e l => ⟨.ref t, hi, t, dx, fs, rfl, e, l _ (by decide +kernel), ga H (Same.refl _) _ fun ws H2 s2 dw => by
    obtain ⟨w1, rfl, dw1⟩ := dpAll1 dw
    cases dw1
    exact ⟨t, pan, st, past, _, rfl, h.same s2, few, b0, b1, fun H3 k3 hN => q H3 ((ButO.of s2).trans k3) hN⟩⟩
theorem gm_Link {one other : Int} {ta : TA} {Q : VK} (hi : σ[i]? = some (some (.ref t))) (h : DeskAt K C H t pan st past) (few : past.length < 60) (ga : GvA K ta σ H [.int one, .int other]) (hI : K64.InP2 pan one other) (hn : other ∉ pan.getD one.toNat []) (q : ∀ H', ButO t H H' → DeskAt K C H' t (K64.liM pan one other) st (past ++ [((K64.dLk "link" one other), pan, st)]) → Q (.int ((past.length + 1 : Nat) : Int)) H') : tMeth C "link" (spLink K C) [] E (tVar i) ta σ H Q :=
  h.at fun dx fs e l => ⟨.ref t, hi, t, dx, fs, rfl, e, l _ (by decide +kernel), ga H (Same.refl _) _ fun ws H2 s2 dw => by
    obtain ⟨w1, w2, rfl, dw1, dw2⟩ := dpAll2 dw
    cases dw1
    cases dw2
    exact ⟨t, pan, st, past, _, _, rfl, h.same s2, few, hI, hn, fun H3 k3 hN => q H3 ((ButO.of s2).trans k3) hN⟩⟩
theorem gm_Unlink {one other : Int} {ta : TA} {Q : VK} (hi : σ[i]? = some (some (.ref t))) (h : DeskAt K C H t pan st past) (few : past.length < 60) (ga : GvA K ta σ H [.int one, .int other]) (hI : K64.InP2 pan one other) (hn : other ∈ pan.getD one.toNat []) (q : ∀ H', ButO t H H' → DeskAt K C H' t (K64.unM pan one other) st (past ++ [((K64.dLk "unlink" one other), pan, st)]) → Q (.int ((past.length + 1 : Nat) : Int)) H') : tMeth C "unlink" (spUnlink K C) [] E (tVar i) ta σ H Q :=
  h.at fun dx fs e l => ⟨.ref t, hi, t, dx, fs, rfl, e, l _ (by decide +kernel), ga H (Same.refl _) _ fun ws H2 s2 dw => by
    obtain ⟨w1, w2, rfl, dw1, dw2⟩ := dpAll2 dw
    cases dw1
    cases dw2
    exact ⟨t, pan, st, past, _, _, rfl, h.same s2, few, hI, hn, fun H3 k3 hN => q H3 ((ButO.of s2).trans k3) hN⟩⟩
theorem gm_Undo {CU : Addr} {Q : VK} {past' : List (PyData × List (List Int) × List Int)} {y : PyData × List (List Int) × List Int} (hi : σ[i]? = some (some (.ref t))) (h : DeskAt K C H t pan st (past' ++ [y])) (q : ∀ H', ButO t H H' → DeskAt K C H' t y.2.1 y.2.2 past' → Q (.int (past'.length : Nat)) H') : tMeth C "undo" (spUndo K C CU) [] E (tVar i) tNil σ H Q :=
  h.at fun dx fs e l => ⟨.ref t, hi, t, dx, fs, rfl, e, l _ (by decide +kernel), t, pan, st, _, rfl, h, fun past'' y' ey H' b hd => by
    obtain ⟨rfl, ez⟩ := List.append_inj' ey rfl
    cases ez
    exact q H' b hd, fun z => by simp at z⟩
theorem DeskAt.ins2 (h : DeskAt K C H t pan st past) : ∃ dx fs, H t = some (.ins C dx fs) ∧ 5 ≤ fs.length := by
  obtain ⟨⟨dx, pa, p, l, hh, hs, kn, h1, _⟩, _⟩ := h
  exact ⟨dx, _, h1, by show 5 ≤ 6; decide⟩
end
structure DM (P : Program) (w : World) (K : PySem.W.Frag) (mg : Str → Option Value) (base : Heap) (C CU : Addr) where
  fInitG : Addr
  fdInitG : FuncData
  bInitG : Binds K fdInitG ["self", "panel", "state"] []
  MkG : Mk K C fInitG
  GInitG : FnOk P w K mg base CX0 8 fInitG fdInitG ["self", "panel", "state"] (spInitG K C)
  fPressD : Addr
  fdPressD : FuncData
  bPressD : Binds K fdPressD ["self", "button"] []
  hPressD : Meth K C "press" fPressD
  GPressD : FnOk P w K mg base CX0 8 fPressD fdPressD ["self", "button"] (spPressD K C)
  fLink : Addr
  fdLink : FuncData
  bLink : Binds K fdLink ["self", "one", "other"] []
  hLink : Meth K C "link" fLink
  GLink : FnOk P w K mg base CX0 9 fLink fdLink ["self", "one", "other"] (spLink K C)
  fUnlink : Addr
  fdUnlink : FuncData
  bUnlink : Binds K fdUnlink ["self", "one", "other"] []
  hUnlink : Meth K C "unlink" fUnlink
  GUnlink : FnOk P w K mg base CX0 9 fUnlink fdUnlink ["self", "one", "other"] (spUnlink K C)
  fUndo : Addr
  fdUndo : FuncData
  bUndo : Binds K fdUndo ["self"] []
  hUndo : Meth K C "undo" fUndo
  GUndo : FnOk P w K mg base (L2.CX P w) 7 fUndo fdUndo ["self"] (spUndo K C CU)
  fLenD : Addr
  fdLenD : FuncData
  bLenD : Binds K fdLenD ["self"] []
  xLenD : PySem.W.findIn K (.ref C) "__len__" = some (some (.ref fLenD))
  yLenD : PySem.W.isFn K (.ref fLenD) = true
  GLenD : FnOk P w K mg base CX0 1 fLenD fdLenD ["self"] (spLenD K C)
end K64G
namespace K64
open PySem PySem.Spec PyProof.Rows L2 Pr
def tAlt (t u : TE) : TE := fun σ H Q => t σ H Q ∨ u σ H Q
theorem pe_or {X : Cx} {e : Expr} {t u : TE} (h1 : PE X e t) (h2 : PE X e u) : PE X e (tAlt t u) := ⟨fun pins s σ H Q I h => h.elim (h1.run pins s σ H Q I) (h2.run pins s σ H Q I)⟩
theorem pe_no {X : Cx} {e : Expr} : PE X e (fun _ _ _ => False) := ⟨fun _ _ _ _ _ _ h => h.elim⟩
def AnyAt (K : PySem.W.Frag) (CD CG : Addr) (H : Hp) (t : Addr) (pan : List (List Int)) (st : List Int) (past : List (PyData × List (List Int) × List Int)) : Prop := K64D.DeskAt K CD H t pan st past ∨ K64G.DeskAt K CG H t pan st past
section
variable {K : PySem.W.Frag} {CD CG CU : Addr} {H H' : Hp} {t : Addr} {pan : List (List Int)} {st : List Int} {past : List (PyData × List (List Int) × List Int)} {σ : L2.St} {i : Nat} {E1 E2 : XK} {mg : Str → Option Value} {ta : TA} {Q : VK}
theorem gv_gt {ta tb : TE} {i j : Int} (ha : Gv K ta σ H (.int i)) (hb : Gv K tb σ H (.int j)) : Gv K (tOp (rI0 fun i j => V.bl (decide (j < i))) ta tb) σ H (.bool (decide (j < i))) := gv_I0 ha hb fun _ => .bl _
theorem AnyAt.same (h : AnyAt K CD CG H t pan st past) (s : Same H H') : AnyAt K CD CG H' t pan st past := h.imp (·.same s) (·.same s)
theorem AnyAt.kpAt (h : AnyAt K CD CG H t pan st past) (k : Kp H H') (e : H' t = H t) : AnyAt K CD CG H' t pan st past := h.imp (·.kpAt k e) (·.kpAt k e)
theorem AnyAt.ins (h : AnyAt K CD CG H t pan st past) : ∃ C dx fs, H t = some (.ins C dx fs) ∧ 5 ≤ fs.length := by
  rcases h with h | h
  · obtain ⟨dx, fs, e, l⟩ := h.ins2; exact ⟨_, dx, fs, e, l⟩
  · obtain ⟨dx, fs, e, l⟩ := h.ins2; exact ⟨_, dx, fs, e, l⟩
theorem AnyAt.good (h : AnyAt K CD CG H t pan st past) : Good pan := by
  rcases h with h | h
  · exact h.good
  · exact h.good
theorem AnyAt.asc (h : AnyAt K CD CG H t pan st past) : Asc pan.length st := by
  rcases h with h | h
  · exact h.asc
  · exact h.asc
theorem any_panel (TD : K64D.TxtD K mg CD) (TG : K64G.TxtD K mg CG) (hi : σ[i]? = some (some (.ref t))) (h : AnyAt K CD CG H t pan st past) : Gv K (tFld K (tVar i) "panel") σ H (dPan pan) := by
  rcases h with h | h
  · exact K64D.gv_panel TD hi h
  · exact K64G.gv_panel TG hi h
theorem any_latched (TD : K64D.TxtD K mg CD) (TG : K64G.TxtD K mg CG) (hi : σ[i]? = some (some (.ref t))) (h : AnyAt K CD CG H t pan st past) : Gv K (tFld K (tVar i) "latched") σ H (dInts st) := by
  rcases h with h | h
  · exact K64D.gv_latched TD hi h
  · exact K64G.gv_latched TG hi h
theorem any_held {hs : List Int} (TD : K64D.TxtD K mg CD) (TG : K64G.TxtD K mg CG) (hi : σ[i]? = some (some (.ref t))) (h : AnyAt K CD CG H t pan st past) (ih : IsHeld pan st hs) : Gv K (tFld K (tVar i) "held") σ H (dInts hs) := by
  rcases h with h | h
  · exact K64D.gv_held TD hi h ih
  · exact K64G.gv_held TG hi h ih
theorem gv_or1 {t u : TE} {d : PyData} (h : Gv K t σ H d) : Gv K (tAlt t u) σ H d := fun H1 s Q q => .inl (h H1 s Q q)
theorem gv_or2 {t u : TE} {d : PyData} (h : Gv K u σ H d) : Gv K (tAlt t u) σ H d := fun H1 s Q q => .inr (h H1 s Q q)
theorem any_len (hi : σ[i]? = some (some (.ref t))) (h : AnyAt K CD CG H t pan st past) (few : past.length ≤ 1000) : Gv K (tAlt (tCB (rLenO CD (K64D.spLenD K CD)) (tCons (tVar i) tNil)) (tCB (rLenO CG (K64G.spLenD K CG)) (tCons (tVar i) tNil))) σ H (.int (past.length : Nat)) := by
  rcases h with h | h
  · exact gv_or1 (K64D.gv_lenD hi h few)
  · exact gv_or2 (K64G.gv_lenD hi h few)
theorem any_press {b : Int} (hi : σ[i]? = some (some (.ref t))) (h : AnyAt K CD CG H t pan st past) (few : past.length < 60) (ga : GvA K ta σ H [.int b]) (b0 : 0 ≤ b) (b1 : b < (pan.length : Int)) (q : ∀ H', ButO t H H' → AnyAt K CD CG H' t pan (pressM pan st b) (past ++ [(.tuple [.str "press", .int b], pan, st)]) → Q (.int ((past.length + 1 : Nat) : Int)) H') :
    tAlt (tMeth CD "press" (K64D.spPressD K CD) [] E1 (tVar i) ta) (tMeth CG "press" (K64G.spPressD K CG) [] E2 (tVar i) ta) σ H Q := by
  rcases h with h | h
  · exact .inl (K64D.gm_PressD hi h few ga b0 b1 fun H' k hN => q H' k (.inl hN))
  · exact .inr (K64G.gm_PressD hi h few ga b0 b1 fun H' k hN => q H' k (.inr hN))
theorem any_link {one other : Int} (hi : σ[i]? = some (some (.ref t))) (h : AnyAt K CD CG H t pan st past) (few : past.length < 60) (ga : GvA K ta σ H [.int one, .int other]) (hI : InP2 pan one other) (hn : other ∉ pan.getD one.toNat []) (q : ∀ H', ButO t H H' → AnyAt K CD CG H' t (liM pan one other) st (past ++ [(dLk "link" one other, pan, st)]) → Q (.int ((past.length + 1 : Nat) : Int)) H') :
    tAlt (tMeth CD "link" (K64D.spLink K CD) [] E1 (tVar i) ta) (tMeth CG "link" (K64G.spLink K CG) [] E2 (tVar i) ta) σ H Q := by
  rcases h with h | h
  · exact .inl (K64D.gm_Link hi h few ga hI hn fun H' k hN => q H' k (.inl hN))
  · exact .inr (K64G.gm_Link hi h few ga hI hn fun H' k hN => q H' k (.inr hN))
theorem any_unlink {one other : Int} (hi : σ[i]? = some (some (.ref t))) (h : AnyAt K CD CG H t pan st past) (few : past.length < 60) (ga : GvA K ta σ H [.int one, .int other]) (hI : InP2 pan one other) (hn : other ∈ pan.getD one.toNat []) (q : ∀ H', ButO t H H' → AnyAt K CD CG H' t (unM pan one other) st (past ++ [(dLk "unlink" one other, pan, st)]) → Q (.int ((past.length + 1 : Nat) : Int)) H') :
    tAlt (tMeth CD "unlink" (K64D.spUnlink K CD) [] E1 (tVar i) ta) (tMeth CG "unlink" (K64G.spUnlink K CG) [] E2 (tVar i) ta) σ H Q := by
  rcases h with h | h
  · exact .inl (K64D.gm_Unlink hi h few ga hI hn fun H' k hN => q H' k (.inl hN))
  · exact .inr (K64G.gm_Unlink hi h few ga hI hn fun H' k hN => q H' k (.inr hN))
theorem any_undo {past' : List (PyData × List (List Int) × List Int)} {y : PyData × List (List Int) × List Int} (hi : σ[i]? = some (some (.ref t))) (h : AnyAt K CD CG H t pan st (past' ++ [y])) (q : ∀ H', ButO t H H' → AnyAt K CD CG H' t y.2.1 y.2.2 past' → Q (.int (past'.length : Nat)) H') :
    tAlt (tMeth CD "undo" (K64D.spUndo K CD CU) [] E1 (tVar i) tNil) (tMeth CG "undo" (K64G.spUndo K CG CU) [] E2 (tVar i) tNil) σ H Q := by
  rcases h with h | h
  · exact .inl (K64D.gm_Undo hi h fun H' k hN => q H' k (.inl hN))
  · exact .inr (K64G.gm_Undo hi h fun H' k hN => q H' k (.inr hN))
end
end K64
namespace K64
open PySem PySem.Spec PyProof.Rows L2 Pr
section
variable {K : PySem.W.Frag} {σ : L2.St} {H : Hp} {t : TE}
theorem gv_tail1 {d : PyData} (h : Gv K t σ H (.list [d])) : Gv K (tSl (rSlL K) t (tPart (tC (.int 1))) tNoPart) σ H (.list []) := fun H1 s Q q => h H1 s _ fun v H2 s2 dv => by
  obtain ⟨a, xs, rfl, ha, hr⟩ := dv.lstI
  obtain ⟨x, rfl, _⟩ := dpAll1 hr
  refine ⟨1, rfl, a, _, rfl, ha, fun p np => q _ _ (s2.trans (same_new np)) ?_⟩
  exact .lst (.inl (.inl upd_same)) .nil
end
def nChng : List Str := ["desk", "name", "numbers"]
theorem scChng : FnScope nChng ["desk", "name", "numbers"] (defScope sChng) := ⟨rfl, rfl, rfl, by decide +kernel, rfl, by decide +kernel, by decide +kernel⟩
section
variable {P : Program} {w : World} {K : PySem.W.Frag} {mg : Str → Option Value} {base : Heap}
def spChng (K : PySem.W.Frag) (CD CG : Addr) : Sp := fun vs H Q _ => ∃ (t n : Addr) (pan : List (List Int)) (st : List Int) (past' : List (PyData × List (List Int) × List Int)) (y : PyData × List (List Int) × List Int), vs = [.ref t, .str "undo", .ref n] ∧ AnyAt K CD CG H t pan st (past' ++ [y]) ∧
  ∀ H', ButO t H H' → AnyAt K CD CG H' t y.2.1 y.2.2 past' → Q (.int (past'.length : Nat)) H'
theorem ok_Chng  {f : Addr} {fd : FuncData} {k : Nat} (F : Fun K "change" "change" sChng f fd)
     {CD CG CU : Addr} (TD : K64D.TxtD K mg CD) (TG : K64G.TxtD K mg CG) (DXD : K64D.DM P w K mg base CD CU) (DXG : K64G.DM P w K mg base CG CU) : FnOk P w K mg base CX0 (k + 20) f fd ["desk", "name", "numbers"] (spChng K CD CG) := by
  refine F.ok scChng (fun vs H Q E h => ?_) (fun cdv A outer s H vs Q E hr h => ?_)
  · obtain ⟨t, n, pan, st, past', y, rfl, _⟩ := h
    rfl
  · obtain ⟨t, n, pan, st, past', y, rfl, hD, q⟩ := h
    refine ⟨_, pss_cons (ps_if (pt_cmpR op_eq (pv 1) pe_str (nomark _)) (pss_one ps_never) pss_nil)
      (pss_cons (ps_if (pt_cmpR op_eq (pv 1) pe_str (nomark _)) (pss_one ps_never) pss_nil)
      (pss_cons (ps_if (pt_cmpR op_eq (pv 1) pe_str (nomark _)) (pss_one ps_never) pss_nil)
      (pss_one (ps_ret (pe_or (pe_meth0 (pv 0) TD.cl DXD.hUndo DXD.GUndo (hr.mono (by omega)) DXD.bUndo .nil passX) (pe_meth0 (pv 0) TG.cl DXG.hUndo DXG.GUndo (hr.mono (by omega)) DXG.bUndo .nil passX)))))), ?_⟩
    refine gs_no (gvt_test (K := K) (gv_eqS (gv_var (i := 1) rfl (.str _)) gv_str)) (by decide +kernel) fun H1 s1 => ?_
    refine gs_no (gvt_test (K := K) (gv_eqS (gv_var (i := 1) rfl (.str _)) gv_str)) (by decide +kernel) fun H2 s2 => ?_
    refine gs_no (gvt_test (K := K) (gv_eqS (gv_var (i := 1) rfl (.str _)) gv_str)) (by decide +kernel) fun H3 s3 => ?_
    have s13 := (s1.trans s2).trans s3
    exact any_undo (i := 0) rfl (hD.same s13) fun H' k hN => q H' ((ButO.of s13).trans k) hN
end
def nChAns : List Str := ["desk", "words", "numbers", "version", "word"]
theorem scChAns : FnScope nChAns ["desk", "words"] (defScope sChAns) := ⟨rfl, rfl, rfl, by decide +kernel, rfl, by decide +kernel, by decide +kernel⟩
section
variable {P : Program} {w : World} {K : PySem.W.Frag} {mg : Str → Option Value} {base : Heap}
def spChAns (K : PySem.W.Frag) (CD CG : Addr) : Sp := fun vs H Q _ => ∃ (t l : Addr) (pan : List (List Int)) (st : List Int) (past' : List (PyData × List (List Int) × List Int)) (y : PyData × List (List Int) × List Int), vs = [.ref t, .ref l] ∧ H l = some (.lst [.str "undo"]) ∧ AnyAt K CD CG H t pan st (past' ++ [y]) ∧ past'.length ≤ 1000 ∧
  ∀ H', ButO t H H' → AnyAt K CD CG H' t y.2.1 y.2.2 past' → Q (.str (("ok " : Str) ++ Str.ofString (toString (past'.length : Int)))) H'
theorem ok_ChAns {fChng : Addr} {fdChng : FuncData} {f : Addr} {fd : FuncData} {k : Nat} (F : Fun K "change_answer" "change_answer" sChAns f fd)
    (FChng : Fun K "change" "change" sChng fChng fdChng) (bChng : Binds K fdChng ["desk", "name", "numbers"] []) (gChng : mg "change" = some (.ref fChng))
     {CD CG CU : Addr} (TD : K64D.TxtD K mg CD) (TG : K64G.TxtD K mg CG) (DXD : K64D.DM P w K mg base CD CU) (DXG : K64G.DM P w K mg base CG CU) : FnOk P w K mg base CX0 (k + 21) f fd ["desk", "words"] (spChAns K CD CG) := by
  have GChng : FnOk P w K mg base CX0 (k + 20) fChng fdChng ["desk", "name", "numbers"] (spChng K CD CG) := ok_Chng FChng TD TG DXD DXG
  refine F.ok scChAns (fun vs H Q E h => ?_) (fun cdv A outer s H vs Q E hr h => ?_)
  · obtain ⟨t, l, pan, st, past', y, rfl, _⟩ := h
    rfl
  · obtain ⟨t, l, pan, st, past', y, rfl, el, hD, few, q⟩ := h
    refine ⟨_, pss_cons (ps_setLc (i := 2) (own := [("word", 4)]) (g := gName 4) (tt := tYes) rfl scChAns.nd rfl rfl (sw_true rfl rfl rfl (by decide +kernel)) (show PI _ _ _ (iList K _) from pi_list (pe_slice (show SlR _ (rSlL K) from sl_list) (pv 1) (po_some pe_int) po_none)) (blkOk_by (own := [("word", 4)]) (N := nChAns) (sc := defScope sChAns) (by decide +kernel)) (fun _ _ _ _ _ => pg_name (i := 4) scChAns.nd rfl (Or.inl rfl)) (fun _ _ _ _ _ => pts_nil) (fun _ _ _ _ _ => pe_no))
      (pss_cons (ps_try_thru0 (pss_one (ps_set (i := 3) scChAns.nd rfl (.inl rfl) (pe_call GChng (hr.mono (by omega)) (by rfl) gChng FChng.kp bChng .nil pass0 (pa_cons (pv 0) (pa_cons (pe_ix (show IxR _ (rIxL K) from ix_list) (pv 1) pe_int (fun _ _ => rfl)) (pa_cons (pv 2) pa_nil)))))))
      (pss_one (ps_ret (pe_joined (.cons pe_str (.cons (pe_fmt (pv 3)) .nil)))))), ?_⟩
    have dl : Dp K H (.ref l) (.list [.str "undo"]) := .lst (.inl (.inl el)) (.cons (.str _) .nil)
    refine gs_setN (K := K) (gn_lc (δ := PyData.str) (as := []) (p := fun _ => true) (f := fun _ => PyData.none) (gvi_list (gv_tail1 (gv_var (i := 1) rfl dl))) (fun x vx H2 hx s2 dx => by cases hx) (fun _ _ => rfl) (by decide)) fun c cs H1 s1 nc ec dc => ?_
    refine ⟨.ref t, rfl, (gv_ixL (K := K) (j := 0) (d := .str _) (gv_var (i := 1) rfl (dl.sm s1)) gv_int rfl rfl).at fun w H2 s2 dw => ?_⟩
    cases dw
    refine ⟨.ref c, rfl, t, c, pan, st, past', y, rfl, hD.same (s1.trans s2), fun H3 k3 hN => ?_⟩
    have sz : ∀ {n : Nat}, n ≤ 1000 → n ≤ sizeLine := fun h => Nat.le_of_lt (small1000 h)
    have n3 := K64D.len_num past'.length few
    refine ⟨_, rfl, ?_, ?_⟩
    · exact sz (by decide +kernel)
    refine ⟨.int _, rfl, .inr ⟨_, rfl, K64D.log_num _ few, _, rfl, ?_, ?_⟩⟩
    · rw [Str.length_append]; exact sz (by show (Str.empty ++ ("ok " : Str)).length + _ ≤ _; have : (Str.empty ++ ("ok " : Str)).length = 3 := (by decide +kernel); omega)
    · exact q H3 ((ButO.of (s1.trans s2)).trans k3) hN
end
def nIsCh : List Str := ["words", "name", "word"]
theorem scIsCh : FnScope nIsCh ["words"] (defScope sIsCh) := ⟨rfl, rfl, rfl, by decide +kernel, rfl, by decide +kernel, by decide +kernel⟩
section
variable {P : Program} {w : World} {K : PySem.W.Frag} {mg : Str → Option Value} {base : Heap}
/-- the dict of the module: how many numbers each command takes -/
structure KNum (K : PySem.W.Frag) (w : World) (mg : Str → Option Value) (dV : Addr) : Prop where
  g : mg "NUMBERS" = some (.ref dV)
  kd : ∃ es n, KDict K w dV es n
  v1 : ∃ t, PySem.W.nsIn K dV "undo" = some (some (.int 0 t))
  n1 : PySem.W.nsIn K dV "latched" = some none
  n2 : PySem.W.nsIn K dV "held" = some none
  n3 : PySem.W.nsIn K dV "panel" = some none
def spIsCh (K : PySem.W.Frag) : Sp := fun vs H Q _ => ∃ (l : Addr) (x : Str), vs = [.ref l] ∧ H l = some (.lst [.str x]) ∧ ((x = "undo" ∧ ∀ H', Same H H' → Q (.bl true) H') ∨ ((x = "latched" ∨ x = "held" ∨ x = "panel") ∧ ∀ H', Same H H' → Q (.bl false) H'))
theorem ok_IsCh  {f : Addr} {fd : FuncData} {k : Nat} (F : Fun K "is_change" "is_change" sIsCh f fd)
    (m_all : mg "all" = none) (m_len : mg "len" = none) {dV : Addr} (NU : KNum K w mg dV) : FnOk P w K mg base CX0 (k + 1) f fd ["words"] (spIsCh K) := by
  obtain ⟨es, n, KD_NUMBERS⟩ := NU.kd
  have y_NUMBERS := NU.g
  refine F.ok scIsCh (fun vs H Q E h => ?_) (fun cdv A outer s H vs Q E hr h => ?_)
  · obtain ⟨l, x, rfl, _⟩ := h
    rfl
  · obtain ⟨l, x, rfl, el, q⟩ := h
    refine ⟨_, pss_cons (ps_set (i := 1) scIsCh.nd rfl (.inl rfl) (pe_ix (show IxR _ (rIxL K) from ix_list) (pv 0) pe_int (fun _ _ => rfl)))
      (pss_cons (ps_if (PW.pt (pw_or (pt_cmpR (op_notIn_kd KD_NUMBERS) (pv 1) (pe_glob (v := .ref dV) (by rfl) y_NUMBERS rfl) (by rfl)) (pw_or1 (pt_cmpR op_ne (pe_callB (show CallR _ _ (rLenG K) from cr_lenG) (by rfl) m_len PySem.boot_len (pa_cons (pv 0) pa_nil)) (pe_op op_add pe_int (pe_ix ix_kdict (pe_glob (v := .ref dV) (by rfl) y_NUMBERS rfl) (pv 1) (fun _ _ => rfl))) (nomark _))))) (pss_one (ps_ret pe_bl)) pss_nil)
      (pss_one (ps_ret (pe_callB (show CallR _ _ (rAll K) from cr_all (by rfl)) (by rfl) m_all (by decide +kernel) (pa_cons (pe_lc (own := [("word", 2)]) (g := gName 2) (tt := tYes) rfl scIsCh.nd (show PI _ _ _ (iList K _) from pi_list (pe_slice (show SlR _ (rSlL K) from sl_list) (pv 0) (po_some pe_int) po_none)) (blkOk_by (own := [("word", 2)]) (N := nIsCh) (sc := defScope sIsCh) (by decide +kernel)) (fun _ _ _ _ _ => pg_name (i := 2) scIsCh.nd rfl (Or.inl rfl)) (fun _ _ _ _ _ => pts_nil) (fun _ _ _ _ _ => pe_no)) pa_nil))))), ?_⟩
    have dl : Dp K H (.ref l) (.list [.str x]) := .lst (.inl (.inl el)) (.cons (.str _) .nil)
    refine gs_set1 (K := K) (gv_ixL (j := 0) (d := .str x) (gv_var (i := 0) rfl dl) gv_int rfl rfl) fun v H1 s1 dv => ?_
    cases dv
    rcases q with ⟨rfl, q⟩ | ⟨hx, q⟩
    · obtain ⟨tk, hns⟩ := NU.v1
      refine ⟨.str "undo", rfl, "undo", _, rfl, rfl, hns, _, rfl, iteF ?_⟩
      refine (gv_lenL (K := K) (gv_var (i := 0) rfl (dl.sm s1))).at fun vn H2 s2 dn => ?_
      cases dn
      refine ⟨.str "undo", rfl, dV, "undo", .int 0, rfl, rfl, ⟨es, n, _, KD_NUMBERS.at_, KD_NUMBERS.lit, hns, ⟨tk, rfl⟩⟩, 1, 0, rfl, rfl, rfl, false, rfl, iteF ?_⟩
      have s12 := s1.trans s2
      unfold tNext
      dsimp only
      refine gs_ret (K := K) (gv_all (l := []) (gn_lc (K := K) (δ := PyData.str) (as := []) (p := fun _ => true) (f := fun _ => PyData.none) (gvi_list (gv_tail1 (gv_var rfl (dl.sm s12)))) (fun x vx H2 hx s2 dx => by cases hx) (fun _ _ => rfl) (by decide)).gv) fun v H3 s3 dv => by cases dv; exact q H3 (s12.trans s3)
    · obtain ⟨r, hr, hns⟩ : ∃ r : Option V, r = none ∧ PySem.W.nsIn K dV x = some none := by
        rcases hx with rfl | rfl | rfl
        · exact ⟨none, rfl, NU.n1⟩
        · exact ⟨none, rfl, NU.n2⟩
        · exact ⟨none, rfl, NU.n3⟩
      exact ⟨.str x, rfl, x, _, rfl, rfl, hns, _, rfl, iteT (q H1 s1)⟩
end
def nQAns : List Str := ["desk", "line"]
theorem scQAns : FnScope nQAns ["desk", "line"] (defScope sQAns) := ⟨rfl, rfl, rfl, by decide +kernel, rfl, by decide +kernel, by decide +kernel⟩
section
variable {P : Program} {w : World} {K : PySem.W.Frag} {mg : Str → Option Value} {base : Heap}
def spQAns (K : PySem.W.Frag) (CD CG : Addr) : Sp := fun vs H Q _ => ∃ (t : Addr) (x : Str) (pan : List (List Int)) (st hs : List Int) (past : List (PyData × List (List Int) × List Int)), vs = [.ref t, .str x] ∧ AnyAt K CD CG H t pan st past ∧ IsHeld pan st hs ∧
  ((x = "latched" ∧ ∀ H', Same H H' → Q (.str (rowT st)) H') ∨ (x = "held" ∧ ∀ H', Same H H' → Q (.str (rowT hs)) H') ∨ (x = "panel" ∧ ∀ H', Same H H' → Q (.str (panT pan)) H'))
theorem rowOk {n : Nat} {l : List Int} (h : Asc n l) (hn : n ≤ 10) : l.length ≤ 99 ∧ ∀ y ∈ l, Dg y := ⟨by have := h.len; omega, fun y hy => by have := h.rng y hy; exact ⟨by omega, by omega⟩⟩
theorem heldOk {pan : List (List Int)} {st hs : List Int} (g : Good pan) (h : Asc pan.length st) (ih : IsHeld pan st hs) : Asc pan.length hs := ⟨ih.up, fun x hx => h.rng x (ih.sub x hx)⟩
theorem ok_QAns {fListT : Addr} {fdListT : FuncData} {fPanT : Addr} {fdPanT : FuncData} {fRowT : Addr} {fdRowT : FuncData} {f : Addr} {fd : FuncData} {k : Nat} (F : Fun K "query_answer" "query_answer" sQAns f fd)
    (FListT : Fun K "list_text" "list_text" sListT fListT fdListT) (bListT : Binds K fdListT ["button", "released"] []) (gListT : mg "list_text" = some (.ref fListT))
    (FPanT : Fun K "panel_text" "panel_text" sPanT fPanT fdPanT) (bPanT : Binds K fdPanT ["panel"] []) (gPanT : mg "panel_text" = some (.ref fPanT))
    (FRowT : Fun K "row_text" "row_text" sRowT fRowT fdRowT) (bRowT : Binds K fdRowT ["row"] []) (gRowT : mg "row_text" = some (.ref fRowT))
    (m_enumerate : mg "enumerate" = none) (m_str : mg "str" = none) {CD CG CU : Addr} (TD : K64D.TxtD K mg CD) (TG : K64G.TxtD K mg CG) (DXD : K64D.DM P w K mg base CD CU) (DXG : K64G.DM P w K mg base CG CU) : FnOk P w K mg base CX0 (k + 6) f fd ["desk", "line"] (spQAns K CD CG) := by
  have GRowT : FnOk P w K mg base CX0 (k + 1) fRowT fdRowT ["row"] (spRowT K) := ok_RowT FRowT m_str
  have GPanT : FnOk P w K mg base CX0 (k + 2) fPanT fdPanT ["panel"] (spPanT K) := ok_PanT FPanT FListT bListT gListT m_enumerate m_str
  refine F.ok scQAns (fun vs H Q E h => ?_) (fun cdv A outer s H vs Q E hr h => ?_)
  · obtain ⟨t, x, pan, st, hs, past, rfl, _⟩ := h
    rfl
  · obtain ⟨t, x, pan, st, hs, past, rfl, hD, ih, q⟩ := h
    refine ⟨_, pss_cons (ps_if (pt_cmpR op_eq (pv 1) pe_str (nomark _)) (pss_one (ps_ret (pe_call GRowT (hr.mono (by omega)) (by rfl) gRowT FRowT.kp bRowT .nil pass0 (pa_cons (pe_fld (pv 0) rfl) pa_nil)))) pss_nil)
      (pss_cons (ps_if (pt_cmpR op_eq (pv 1) pe_str (nomark _)) (pss_one (ps_ret (pe_call GRowT (hr.mono (by omega)) (by rfl) gRowT FRowT.kp bRowT .nil pass0 (pa_cons (pe_fld (pv 0) rfl) pa_nil)))) pss_nil)
      (pss_cons (ps_if (pt_cmpR op_eq (pv 1) pe_str (nomark _)) (pss_one (ps_ret (pe_call GPanT (hr.mono (by omega)) (by rfl) gPanT FPanT.kp bPanT .nil pass0 (pa_cons (pe_fld (pv 0) rfl) pa_nil)))) pss_nil)
      (pss_cons ps_never
      (pss_one ps_never)))), ?_⟩
    have hg := hD.good
    have few := hg.few
    have hst := hD.asc
    have hhs := heldOk hg hst ih
    rcases q with ⟨rfl, q⟩ | ⟨rfl, q⟩ | ⟨rfl, q⟩
    · refine gs_if1 (gvt_test (K := K) (gv_eqS (gv_var (i := 1) rfl (.str _)) gv_str)) (fun _ H1 s1 => ?_) (fun z => by simp at z)
      exact gs_ret (K := K) (gv_RowT (gva_cons (any_latched TD TG (i := 0) rfl (hD.same s1)) gva_nil) (rowOk hst few)) fun v H2 s2 dv => by cases dv; exact q H2 (s1.trans s2)
    · refine gs_no (gvt_test (K := K) (gv_eqS (gv_var (i := 1) rfl (.str _)) gv_str)) (by decide +kernel) fun H0 s0 => ?_
      refine gs_if1 (gvt_test (K := K) (gv_eqS (gv_var (i := 1) rfl (.str _)) gv_str)) (fun _ H1 s1 => ?_) (fun z => by simp at z)
      exact gs_ret (K := K) (gv_RowT (gva_cons (any_held TD TG (i := 0) rfl (hD.same (s0.trans s1)) ih) gva_nil) (rowOk hhs few)) fun v H2 s2 dv => by cases dv; exact q H2 ((s0.trans s1).trans s2)
    · refine gs_no (gvt_test (K := K) (gv_eqS (gv_var (i := 1) rfl (.str _)) gv_str)) (by decide +kernel) fun H0 s0 => ?_
      refine gs_no (gvt_test (K := K) (gv_eqS (gv_var (i := 1) rfl (.str _)) gv_str)) (by decide +kernel) fun H0' s0' => ?_
      refine gs_if1 (gvt_test (K := K) (gv_eqS (gv_var (i := 1) rfl (.str _)) gv_str)) (fun _ H1 s1 => ?_) (fun z => by simp at z)
      exact gs_ret (K := K) (gv_PanT (gva_cons (any_panel TD TG (i := 0) rfl (hD.same ((s0.trans s0').trans s1))) gva_nil) hg.okT) fun v H2 s2 dv => by cases dv; exact q H2 (((s0.trans s0').trans s1).trans s2)
end
end K64
namespace K64
open PySem PySem.Spec PyProof.Rows L2 Pr
abbrev sInitS : Stmt := inClass (topS 39) 0
abbrev sExec : Stmt := inClass (topS 39) 1
def nInitS : List Str := ["self", "desk"]
theorem scInitS : FnScope nInitS ["self", "desk"] (defScope sInitS) := ⟨rfl, rfl, rfl, by decide +kernel, rfl, by decide +kernel, by decide +kernel⟩
def nExec : List Str := ["self", "line", "words"]
theorem scExec : FnScope nExec ["self", "line"] (defScope sExec) := ⟨rfl, rfl, rfl, by decide +kernel, rfl, by decide +kernel, by decide +kernel⟩
structure TxtS (K : PySem.W.Frag) (mg : Str → Option Value) (C : Addr) : Prop where
  cl : Cls K C
  nD : NoAttr K C "desk"
  g : mg "Shell" = some (.ref C)
def ShAt (C : Addr) (H : Hp) (s t : Addr) : Prop := ∃ dx, H s = some (.ins C dx [("desk", .ref t)])
theorem ShAt.same {C : Addr} {H H' : Hp} {s t : Addr} (h : ShAt C H s t) (sm : Same H H') : ShAt C H' s t := by
  obtain ⟨dx, e⟩ := h; exact ⟨dx, sm _ _ e⟩
theorem ShAt.ne {C CD CG : Addr} {K : PySem.W.Frag} {H : Hp} {s t u : Addr} {pan : List (List Int)} {st : List Int} {past : List (PyData × List (List Int) × List Int)} (h : ShAt C H s t) (g : AnyAt K CD CG H u pan st past) : s ≠ u := by
  obtain ⟨dx, e⟩ := h
  obtain ⟨C', dx', fs, e', l⟩ := g.ins
  rintro rfl
  rw [e] at e'
  cases e'
  exact absurd l (show ¬ (5 ≤ 1) by decide)
theorem ShAt.but {C : Addr} {H H' : Hp} {s t : Addr} (h : ShAt C H s t) (b : ButO t H H') (n : s ≠ t) : ShAt C H' s t := by
  obtain ⟨dx, e⟩ := h; exact ⟨dx, b _ _ n e⟩
def okT (n : Nat) : Str := ("ok " : Str) ++ Str.ofString (toString (n : Int))
section
variable {P : Program} {w : World} {K : PySem.W.Frag} {mg : Str → Option Value} {base : Heap}
def spInitS (C : Addr) : Sp := fun vs H Q _ => ∃ (s t dx : Addr), vs = [.ref s, .ref t] ∧ H s = some (.ins C dx []) ∧ ∀ H', ButO s H H' → ShAt C H' s t → Q .non H'
theorem ok_InitS {C f : Addr} {fd : FuncData} {k : Nat} (F : Fun K "__init__" "Shell.__init__" sInitS f fd) (T : TxtS K mg C) : FnOk P w K mg base CX0 (k + 1) f fd ["self", "desk"] (spInitS C) := by
  refine F.ok scInitS (fun vs H Q E h => ?_) (fun cdv A outer s H vs Q E hr h => ?_)
  · obtain ⟨s, t, dx, rfl, _⟩ := h
    rfl
  · obtain ⟨s, t, dx, rfl, hs, q⟩ := h
    refine ⟨_, pss_one (ps_fld (pv 0) (pv 1) rfl), ?_⟩
    refine ⟨.ref t, rfl, .ref s, rfl, s, C, dx, [], rfl, hs, T.cl, T.nD, by show 0 < 1000; decide, ?_⟩
    exact q _ ButO.upd ⟨dx, upd_same⟩
def spExec (K : PySem.W.Frag) (CD CG CS : Addr) : Sp := fun vs H Q _ => ∃ (s t : Addr) (x : Str) (pan : List (List Int)) (st : List Int) (past : List (PyData × List (List Int) × List Int)), vs = [.ref s, .str x] ∧ ShAt CS H s t ∧ AnyAt K CD CG H t pan st past ∧
  ((∃ hs, IsHeld pan st hs ∧ ((x = "latched" ∧ ∀ H', Same H H' → Q (.str (rowT st)) H') ∨ (x = "held" ∧ ∀ H', Same H H' → Q (.str (rowT hs)) H') ∨ (x = "panel" ∧ ∀ H', Same H H' → Q (.str (panT pan)) H'))) ∨
   (x = "undo" ∧ ∃ past' y, past = past' ++ [y] ∧ past'.length ≤ 1000 ∧ ∀ H', ButO t H H' → AnyAt K CD CG H' t y.2.1 y.2.2 past' → Q (.str (okT past'.length)) H'))
theorem ok_Exec {fListT : Addr} {fdListT : FuncData} {fPanT : Addr} {fdPanT : FuncData} {fRowT : Addr} {fdRowT : FuncData} {fIsCh : Addr} {fdIsCh : FuncData} {fChng : Addr} {fdChng : FuncData} {fChAns : Addr} {fdChAns : FuncData} {fQAns : Addr} {fdQAns : FuncData} {f : Addr} {fd : FuncData} {k : Nat} (F : Fun K "execute" "Shell.execute" sExec f fd)
    (FListT : Fun K "list_text" "list_text" sListT fListT fdListT) (bListT : Binds K fdListT ["button", "released"] []) (gListT : mg "list_text" = some (.ref fListT))
    (FPanT : Fun K "panel_text" "panel_text" sPanT fPanT fdPanT) (bPanT : Binds K fdPanT ["panel"] []) (gPanT : mg "panel_text" = some (.ref fPanT))
    (FRowT : Fun K "row_text" "row_text" sRowT fRowT fdRowT) (bRowT : Binds K fdRowT ["row"] []) (gRowT : mg "row_text" = some (.ref fRowT))
    (FIsCh : Fun K "is_change" "is_change" sIsCh fIsCh fdIsCh) (bIsCh : Binds K fdIsCh ["words"] []) (gIsCh : mg "is_change" = some (.ref fIsCh))
    (FChng : Fun K "change" "change" sChng fChng fdChng) (bChng : Binds K fdChng ["desk", "name", "numbers"] []) (gChng : mg "change" = some (.ref fChng))
    (FChAns : Fun K "change_answer" "change_answer" sChAns fChAns fdChAns) (bChAns : Binds K fdChAns ["desk", "words"] []) (gChAns : mg "change_answer" = some (.ref fChAns))
    (FQAns : Fun K "query_answer" "query_answer" sQAns fQAns fdQAns) (bQAns : Binds K fdQAns ["desk", "line"] []) (gQAns : mg "query_answer" = some (.ref fQAns))
    (m_all : mg "all" = none) (m_enumerate : mg "enumerate" = none) (m_isinstance : mg "isinstance" = none) (m_len : mg "len" = none) (m_str : mg "str" = none) {CD CG CU CS dV : Addr} (TD : K64D.TxtD K mg CD) (TG : K64G.TxtD K mg CG) (DXD : K64D.DM P w K mg base CD CU) (DXG : K64G.DM P w K mg base CG CU) (TS : TxtS K mg CS) (NU : KNum K w mg dV) : FnOk P w K mg base CX0 (k + 24) f fd ["self", "line"] (spExec K CD CG CS) := by
  have GIsCh : FnOk P w K mg base CX0 (k + 1) fIsCh fdIsCh ["words"] (spIsCh K) := ok_IsCh FIsCh m_all m_len NU
  have GChAns : FnOk P w K mg base CX0 (k + 21) fChAns fdChAns ["desk", "words"] (spChAns K CD CG) := ok_ChAns FChAns FChng bChng gChng TD TG DXD DXG
  have GQAns : FnOk P w K mg base CX0 (k + 6) fQAns fdQAns ["desk", "line"] (spQAns K CD CG) := ok_QAns FQAns FListT bListT gListT FPanT bPanT gPanT FRowT bRowT gRowT m_enumerate m_str TD TG DXD DXG
  refine F.ok scExec (fun vs H Q E h => ?_) (fun cdv A outer s H vs Q E hr h => ?_)
  · obtain ⟨s, t, x, pan, st, past, rfl, _⟩ := h
    rfl
  · obtain ⟨s, t, x, pan, st, past, rfl, hS, hD, q⟩ := h
    refine ⟨_, pss_cons (ps_if (pt_not (pt_val (pe_callB (show CallR _ _ (rIsi K) from call_isi) (by rfl) m_isinstance (by decide +kernel) (pa_cons (pv 1) (pa_cons (pe_bltn (v := .ty "str") (by rfl) m_str (by decide +kernel) rfl) pa_nil))))) (pss_one ps_never) pss_nil)
      (pss_cons (ps_set (i := 2) scExec.nd rfl (.inl rfl) (pe_split (pv 1) pe_str))
      (pss_cons (ps_if (pt_val (pe_call GIsCh (hr.mono (by omega)) (by rfl) gIsCh FIsCh.kp bIsCh .nil pass0 (pa_cons (pv 2) pa_nil))) (pss_one (ps_ret (pe_call GChAns (hr.mono (by omega)) (by rfl) gChAns FChAns.kp bChAns .nil pass0 (pa_cons (pe_fld (pv 0) rfl) (pa_cons (pv 2) pa_nil))))) pss_nil)
      (pss_one (ps_ret (pe_call GQAns (hr.mono (by omega)) (by rfl) gQAns FQAns.kp bQAns .nil pass0 (pa_cons (pe_fld (pv 0) rfl) (pa_cons (pv 1) pa_nil))))))), ?_⟩
    refine ⟨.str x, rfl, .str x, .ty "str", _, _, _, rfl, .ty "str", .base (.str x), kit_ty (a := "str") (b := "str") (r := true) (by decide +kernel), _, rfl, iteF ?_⟩
    have key : Txt.split x (" " : Str) = [x] ∧ x.length + 2 ≤ sizeLine := by
      rcases q with ⟨hs, _, ⟨rfl, _⟩ | ⟨rfl, _⟩ | ⟨rfl, _⟩⟩ | ⟨rfl, _⟩
      all_goals exact ⟨by decide +kernel, by decide +kernel⟩
    refine ⟨.str x, rfl, ⟨_, rfl⟩, x, " ", rfl, rfl, by decide +kernel, key.2, fun p np => ?_⟩
    rw [key.1]
    have sp := same_new (o := .lst ([x].map V.str)) np
    have ep : (upd H p (.lst ([x].map V.str))) p = some (.lst [.str x]) := upd_same
    generalize upd H p (.lst ([x].map V.str)) = H1 at sp ep ⊢
    have hS1 := hS.same sp
    have hD1 := hD.same sp
    rcases q with ⟨hs, ih, q⟩ | ⟨rfl, past', y, rfl, few, q⟩
    · refine ⟨.ref p, rfl, p, x, rfl, ep, .inr ⟨?_, fun H2 s2 => ⟨_, rfl, iteF ?_⟩⟩⟩
      · rcases q with ⟨h, _⟩ | ⟨h, _⟩ | ⟨h, _⟩
        · exact .inl h
        · exact .inr (.inl h)
        · exact .inr (.inr h)
      obtain ⟨dx, e2⟩ := hS1.same s2
      refine ⟨.ref s, rfl, s, CS, dx, _, .ref t, rfl, e2, TS.cl, TS.nD, rfl, .str x, rfl, t, x, pan, st, hs, past, rfl, hD1.same s2, ih, ?_⟩
      rcases q with ⟨h, q⟩ | ⟨h, q⟩ | ⟨h, q⟩
      · exact .inl ⟨h, fun H3 s3 => q H3 ((sp.trans s2).trans s3)⟩
      · exact .inr (.inl ⟨h, fun H3 s3 => q H3 ((sp.trans s2).trans s3)⟩)
      · exact .inr (.inr ⟨h, fun H3 s3 => q H3 ((sp.trans s2).trans s3)⟩)
    · refine ⟨.ref p, rfl, p, "undo", rfl, ep, .inl ⟨rfl, fun H2 s2 => ⟨_, rfl, iteT ?_⟩⟩⟩
      obtain ⟨dx, e2⟩ := hS1.same s2
      exact ⟨.ref s, rfl, s, CS, dx, _, .ref t, rfl, e2, TS.cl, TS.nD, rfl, .ref p, rfl, t, p, pan, st, past', y, rfl, s2 _ _ ep, hD1.same s2, few, fun H3 k3 hN => q H3 ((ButO.of (sp.trans s2)).trans k3) hN⟩
end
structure SM (P : Program) (w : World) (K : PySem.W.Frag) (mg : Str → Option Value) (base : Heap) (CS CD CG : Addr) where
  T : TxtS K mg CS
  fInitS : Addr
  fdInitS : FuncData
  bInitS : Binds K fdInitS ["self", "desk"] []
  MkS : Mk K CS fInitS
  GInitS : FnOk P w K mg base CX0 1 fInitS fdInitS ["self", "desk"] (spInitS CS)
  fExec : Addr
  fdExec : FuncData
  bExec : Binds K fdExec ["self", "line"] []
  hExec : Meth K CS "execute" fExec
  GExec : FnOk P w K mg base CX0 24 fExec fdExec ["self", "line"] (spExec K CD CG CS)
end K64
namespace K64
open PySem PySem.Spec PyProof.Rows L2 Pr
def nEdit : List Str := ["_law_state", "_law_now", "_law_many", "_law_way", "_law_one", "_law_other"]
theorem scEdit : FnScope nEdit ["_law_state", "_law_now"] (defScope sEdit) := ⟨rfl, rfl, rfl, by decide +kernel, rfl, by decide +kernel, by decide +kernel⟩
section
variable {P : Program} {w : World} {K : PySem.W.Frag} {mg : Str → Option Value} {base : Heap}
def spEdit (K : PySem.W.Frag) : Sp := fun vs H Q _ => ∃ (a c r : Addr) (m : Nat) (v : V) (pan : List (List Int)) (st : List Int), vs = [.ref a, v] ∧ Dk3 H a c r (m + 10) ∧ Dp K H v (dNow pan st) ∧ Good pan ∧
  ∀ H' u d pan' f, But a r H H' → Dk3 H' a c r m → Dp K H' u d → Ed pan d pan' f → Q u H'
theorem lf_now (pan : List (List Int)) (st : List Int) : lf (.tuple [dPan pan, dInts st]) = true := lf_tup fun e he => by
  rcases (show e = dPan pan ∨ e = dInts st by simpa using he) with rfl | rfl
  · exact lf_pan _
  · exact lf_ints _
theorem ok_Edit {fNext : Addr} {fdNext : FuncData} {f : Addr} {fd : FuncData} {k : Nat} (F : Fun K "_law_edit" "_law_edit" sEdit f fd)
    (FNext : Fun K "_law_next" "_law_next" sNext fNext fdNext) (bNext : Binds K fdNext ["_law_state", "_law_many"] []) (gNext : mg "_law_next" = some (.ref fNext))
    (m_len : mg "len" = none) : FnOk P w K mg base CX0 (k + 2) f fd ["_law_state", "_law_now"] (spEdit K) := by
  have GNext : FnOk P w K mg base CX0 (k + 1) fNext fdNext ["_law_state", "_law_many"] spNext := ok_Next FNext m_len
  refine F.ok scEdit (fun vs H Q E h => ?_) (fun cdv A outer s H vs Q E hr h => ?_)
  · obtain ⟨a, c, r, m, v, pan, st, rfl, _⟩ := h
    rfl
  · obtain ⟨a, c, r, m, v, pan, st, rfl, hD, dv, hg, q⟩ := h
    refine ⟨_, pss_cons (ps_par (i := 2) (j := 3) rfl scEdit.nd rfl rfl (by decide) rfl rfl (pa_cons (pe_callB (show CallR _ _ (rLenG K) from cr_lenG) (by rfl) m_len PySem.boot_len (pa_cons (pe_ix (show IxR _ (rIxT K) from ix_tup) (pv 1) pe_int (fun _ _ => rfl)) pa_nil)) (pa_cons (pe_call GNext (hr.mono (by omega)) (by rfl) gNext FNext.kp bNext .nil pass0 (pa_cons (pv 0) (pa_cons pe_int pa_nil))) pa_nil)) (by rfl))
      (pss_cons (ps_par (i := 4) (j := 5) rfl scEdit.nd rfl rfl (by decide) rfl rfl (pa_cons (pe_call GNext (hr.mono (by omega)) (by rfl) gNext FNext.kp bNext .nil pass0 (pa_cons (pv 0) (pa_cons (pv 2) pa_nil))) (pa_cons (pe_call GNext (hr.mono (by omega)) (by rfl) gNext FNext.kp bNext .nil pass0 (pa_cons (pv 0) (pa_cons (pv 2) pa_nil))) pa_nil)) (by rfl))
      (pss_cons (ps_if (PW.pt (pw_and (pt_cmpR op_gt (pv 3) pe_int (nomark _)) (pw_and1 (pt_cmpR op_ne (pv 4) (pv 5) (nomark _))))) (pss_one (ps_ret (pe_tup (pa_cons (pe_ifExp (pt_cmpR (show OpR _ _ (rIn K false) from op_in_seq) (pv 5) (pe_ix (show IxR _ (rIxT K) from ix_tup) (pe_ix (show IxR _ (rIxT K) from ix_tup) (pv 1) pe_int (fun _ _ => rfl)) (pv 4) (fun _ _ => rfl)) (by rfl)) pe_str pe_str) (pa_cons (pv 4) (pa_cons (pv 5) pa_nil)))))) pss_nil)
      (pss_one (ps_ret (pe_tup (pa_cons pe_str (pa_cons (pv 4) pa_nil))))))), ?_⟩
    rw [dNow_eq] at dv
    have few := hg.few
    have pos := hg.pos
    have hlp : (pan.map dInts).length = pan.length := List.length_map _
    refine (gv_lenT (K := K) (gv_ixT (j := 0) (gv_var (i := 1) rfl dv) gv_int rfl rfl)).at fun vn H1 s1 dn => ?_
    cases dn
    rw [hlp]
    refine ⟨.ref a, rfl, a, c, r, m + 9, 4, rfl, (hD.same s1).less (by omega), by decide, by decide, fun H2 y b2 D2 y0 y4 => ⟨_, _, rfl, ?_⟩⟩
    refine ⟨.ref a, rfl, .int (pan.length : Int), rfl, a, c, r, m + 8, (pan.length : Int), rfl, D2.less (by omega), by omega, by omega, fun H3 one b3 D3 o0 o1 => ?_⟩
    refine ⟨.ref a, rfl, .int (pan.length : Int), rfl, a, c, r, m + 7, (pan.length : Int), rfl, D3.less (by omega), by omega, by omega, fun H4 other b4 D4 u0 u1 => ⟨_, _, rfl, ?_⟩⟩
    have B4 : But a r H H4 := (((But.of s1).trans b2).trans b3).trans b4
    have k4 : Kp H H4 := (((Kp.of s1).trans (tup_but3K (hD.same s1) b2)).trans (tup_but3K D2 b3)).trans (tup_but3K D3 b4)
    have dv4 := dv.kp k4 (lf_now _ _)
    dsimp only
    refine gs_if (gvt_and (gvt_test (K := K) (gv_gt (gv_var rfl (.int y)) gv_int)) (fun Ha sa _ => gvt_test (K := K) (gv_neI (gv_var rfl (.int one)) (gv_var rfl (.int other))))) (fun e H5 s5 => ?_) (fun e H5 s5 => ?_)
    · have hne : one ≠ other := by
        rw [Bool.and_eq_true] at e
        have := e.2
        simpa using this
      have hI : InP2 pan one other := ⟨o0, o1, u0, u1, hne⟩
      have dv5 := dv4.sm s5
      refine gs_ret (K := K) (gv_tup (gva_cons (gv_if (gvt_test (gv_inT (neg := false) (gv_var rfl (.int other)) (gv_pan (gv_ixT (j := 0) (gv_var rfl dv5) gv_int rfl rfl) (gv_var rfl (.int one)) o0 o1))) (fun _ => gv_str) (fun _ => gv_str)) (gva_cons (gv_var rfl (.int one)) (gva_cons (gv_var rfl (.int other)) gva_nil)))) fun u H6 s6 du => ?_
      have B6 := B4.trans (But.of (s5.trans s6))
      have D6 : Dk3 H6 a c r m := (D4.same (s5.trans s6)).less (by omega)
      by_cases hm : other ∈ pan.getD one.toNat []
      · rw [if_neg Bool.false_ne_true, decide_eq_true hm, if_pos rfl] at du
        exact q H6 u _ _ _ B6 D6 du (.unlink hI hm)
      · rw [if_neg Bool.false_ne_true, decide_eq_false hm, if_neg Bool.false_ne_true] at du
        exact q H6 u _ _ _ B6 D6 du (.link hI hm)
    · refine gs_ret (K := K) (gv_tup (gva_cons gv_str (gva_cons (gv_var rfl (.int one)) gva_nil))) fun u H6 s6 du => ?_
      exact q H6 u _ _ _ (B4.trans (But.of (s5.trans s6))) ((D4.same (s5.trans s6)).less (by omega)) du (.press o0 o1)
end
def nDo : List Str := ["_law_desk_here", "_law_edit_here"]
theorem scDo : FnScope nDo ["_law_desk_here", "_law_edit_here"] (defScope sDo) := ⟨rfl, rfl, rfl, by decide +kernel, rfl, by decide +kernel, by decide +kernel⟩
section
variable {P : Program} {w : World} {K : PySem.W.Frag} {mg : Str → Option Value} {base : Heap}
def spDo (K : PySem.W.Frag) (CD CG : Addr) : Sp := fun vs H Q _ => ∃ (t : Addr) (pan pan' : List (List Int)) (st : List Int) (past : List (PyData × List (List Int) × List Int)) (v : V) (d : PyData) (f : List Int → List Int), vs = [.ref t, v] ∧ AnyAt K CD CG H t pan st past ∧ past.length < 60 ∧ Dp K H v d ∧ Ed pan d pan' f ∧
  ∀ H', ButO t H H' → AnyAt K CD CG H' t pan' (f st) (past ++ [(d, pan, st)]) → Q (.int ((past.length + 1 : Nat) : Int)) H'
theorem ok_Do  {f : Addr} {fd : FuncData} {k : Nat} (F : Fun K "_law_do" "_law_do" sDo f fd)
     {CD CG CU : Addr} (TD : K64D.TxtD K mg CD) (TG : K64G.TxtD K mg CG) (DXD : K64D.DM P w K mg base CD CU) (DXG : K64G.DM P w K mg base CG CU) : FnOk P w K mg base CX0 (k + 20) f fd ["_law_desk_here", "_law_edit_here"] (spDo K CD CG) := by
  refine F.ok scDo (fun vs H Q E h => ?_) (fun cdv A outer s H vs Q E hr h => ?_)
  · obtain ⟨t, pan, pan', st, past, v, d, f, rfl, _⟩ := h
    rfl
  · obtain ⟨t, pan, pan', st, past, v, d, f, rfl, hD, few, dv, hE, q⟩ := h
    refine ⟨_, pss_cons (ps_if (pt_cmpR op_eq (pe_ix (show IxR _ (rIxT K) from ix_tup) (pv 1) pe_int (fun _ _ => rfl)) pe_str (nomark _)) (pss_one (ps_ret (pe_or (pe_meth (pv 0) TD.cl DXD.hPressD DXD.GPressD (hr.mono (by omega)) DXD.bPressD .nil pass0 (pa_cons (pe_ix (show IxR _ (rIxT K) from ix_tup) (pv 1) pe_int (fun _ _ => rfl)) pa_nil)) (pe_meth (pv 0) TG.cl DXG.hPressD DXG.GPressD (hr.mono (by omega)) DXG.bPressD .nil pass0 (pa_cons (pe_ix (show IxR _ (rIxT K) from ix_tup) (pv 1) pe_int (fun _ _ => rfl)) pa_nil))))) pss_nil)
      (pss_one (ps_ret (pe_ifExp (pt_cmpR op_eq (pe_ix (show IxR _ (rIxT K) from ix_tup) (pv 1) pe_int (fun _ _ => rfl)) pe_str (nomark _)) (pe_or (pe_meth (pv 0) TD.cl DXD.hLink DXD.GLink (hr.mono (by omega)) DXD.bLink .nil pass0 (pa_cons (pe_ix (show IxR _ (rIxT K) from ix_tup) (pv 1) pe_int (fun _ _ => rfl)) (pa_cons (pe_ix (show IxR _ (rIxT K) from ix_tup) (pv 1) pe_int (fun _ _ => rfl)) pa_nil))) (pe_meth (pv 0) TG.cl DXG.hLink DXG.GLink (hr.mono (by omega)) DXG.bLink .nil pass0 (pa_cons (pe_ix (show IxR _ (rIxT K) from ix_tup) (pv 1) pe_int (fun _ _ => rfl)) (pa_cons (pe_ix (show IxR _ (rIxT K) from ix_tup) (pv 1) pe_int (fun _ _ => rfl)) pa_nil)))) (pe_or (pe_meth (pv 0) TD.cl DXD.hUnlink DXD.GUnlink (hr.mono (by omega)) DXD.bUnlink .nil pass0 (pa_cons (pe_ix (show IxR _ (rIxT K) from ix_tup) (pv 1) pe_int (fun _ _ => rfl)) (pa_cons (pe_ix (show IxR _ (rIxT K) from ix_tup) (pv 1) pe_int (fun _ _ => rfl)) pa_nil))) (pe_meth (pv 0) TG.cl DXG.hUnlink DXG.GUnlink (hr.mono (by omega)) DXG.bUnlink .nil pass0 (pa_cons (pe_ix (show IxR _ (rIxT K) from ix_tup) (pv 1) pe_int (fun _ _ => rfl)) (pa_cons (pe_ix (show IxR _ (rIxT K) from ix_tup) (pv 1) pe_int (fun _ _ => rfl)) pa_nil))))))), ?_⟩
    cases hE with
    | press h0 h1 =>
      refine gs_if1 (gvt_test (K := K) (gv_eqS (gv_ixT (j := 0) (gv_var rfl dv) gv_int rfl rfl) gv_str)) (fun _ H1 s1 => ?_) (fun z => by simp at z)
      exact any_press (i := 0) rfl (hD.same s1) few (gva_cons (gv_ixT (j := 1) (d := .int _) (gv_var rfl (dv.sm s1)) gv_int rfl rfl) gva_nil) h0 h1 fun H3 k3 hN => q H3 ((ButO.of s1).trans k3) hN
    | link h hn =>
      refine gs_no (gvt_test (K := K) (gv_eqS (gv_ixT (j := 0) (gv_var rfl dv) gv_int rfl rfl) gv_str)) (by decide +kernel) fun H0 s0 => ?_
      refine (gvt_test (K := K) (gv_eqS (gv_ixT (j := 0) (gv_var rfl (dv.sm s0)) gv_int rfl rfl) gv_str)).at fun H1 s1 => ?_
      rw [decide_eq_true rfl]
      have s01 := s0.trans s1
      refine iteT (any_link (i := 0) rfl (hD.same s01) few (gva_cons (gv_ixT (j := 1) (d := .int _) (gv_var rfl (dv.sm s01)) gv_int rfl rfl) (gva_cons (gv_ixT (j := 2) (d := .int _) (gv_var rfl (dv.sm s01)) gv_int rfl rfl) gva_nil)) h hn fun H3 k3 hN => q H3 ((ButO.of s01).trans k3) hN)
    | unlink h hn =>
      refine gs_no (gvt_test (K := K) (gv_eqS (gv_ixT (j := 0) (gv_var rfl dv) gv_int rfl rfl) gv_str)) (by decide +kernel) fun H0 s0 => ?_
      refine (gvt_test (K := K) (gv_eqS (gv_ixT (j := 0) (gv_var rfl (dv.sm s0)) gv_int rfl rfl) gv_str)).at fun H1 s1 => ?_
      rw [decide_eq_false (by decide +kernel)]
      have s01 := s0.trans s1
      refine iteF (any_unlink (i := 0) rfl (hD.same s01) few (gva_cons (gv_ixT (j := 1) (d := .int _) (gv_var rfl (dv.sm s01)) gv_int rfl rfl) (gva_cons (gv_ixT (j := 2) (d := .int _) (gv_var rfl (dv.sm s01)) gv_int rfl rfl) gva_nil)) h hn fun H3 k3 hN => q H3 ((ButO.of s01).trans k3) hN)
end
def nDesk : List Str := ["_law_kind", "_law_panel_here", "_law_latched_here"]
theorem scDesk : FnScope nDesk ["_law_kind", "_law_panel_here", "_law_latched_here"] (defScope sDesk) := ⟨rfl, rfl, rfl, by decide +kernel, rfl, by decide +kernel, by decide +kernel⟩
section
variable {P : Program} {w : World} {K : PySem.W.Frag} {mg : Str → Option Value} {base : Heap}
def spDesk (K : PySem.W.Frag) (CD CG : Addr) : Sp := fun vs H Q _ => ∃ (p l : Addr) (kd : Int) (pan : List (List Int)) (st : List Int), vs = [.int kd, .ref p, .ref l] ∧ PanT K H p pan ∧ Good pan ∧ H l = some (.tup (st.map V.int)) ∧ Asc pan.length st ∧
  ∀ H' t, Same H H' → H t = none → AnyAt K CD CG H' t pan st [] → Q (.ref t) H'
theorem make_same {H H' : Hp} {t tx C : Addr} (nt : H t = none) (ntx : H tx = none) (b : ButO t (upd (upd H tx (.own t)) t (.ins C tx [])) H') : Same H H' := fun o y e => by
  have n1 := ne_of_none e nt
  have n2 := ne_of_none e ntx
  exact b _ _ n1 (by rw [upd_ne n1, upd_ne n2]; exact e)
theorem make_at {H : Hp} {t tx C : Addr} (nt : H t = none) (ntx : H tx = none) : Same H (upd (upd H tx (.own t)) t (.ins C tx [])) := fun o y e => by
  rw [upd_ne (ne_of_none e nt), upd_ne (ne_of_none e ntx)]; exact e
theorem ok_Desk  {f : Addr} {fd : FuncData} {k : Nat} (F : Fun K "_law_desk" "_law_desk" sDesk f fd)
     {CD CG CU : Addr} (TD : K64D.TxtD K mg CD) (TG : K64G.TxtD K mg CG) (DXD : K64D.DM P w K mg base CD CU) (DXG : K64G.DM P w K mg base CG CU) : FnOk P w K mg base CX0 (k + 20) f fd ["_law_kind", "_law_panel_here", "_law_latched_here"] (spDesk K CD CG) := by
  refine F.ok scDesk (fun vs H Q E h => ?_) (fun cdv A outer s H vs Q E hr h => ?_)
  · obtain ⟨p, l, kd, pan, st, rfl, _⟩ := h
    rfl
  · obtain ⟨p, l, kd, pan, st, rfl, hp, hg, hl, hst, q⟩ := h
    refine ⟨_, pss_one (ps_ret (pe_ifExp (pt_cmpR op_eq (pv 0) pe_int (nomark _)) (pe_make DXD.MkD DXD.GInitD (hr.mono (by omega)) (by rfl) TD.g DXD.bInitD .nil pass0 (pa_cons (pv 1) (pa_cons (pv 2) pa_nil))) (pe_make DXG.MkG DXG.GInitG (hr.mono (by omega)) (by rfl) TG.g DXG.bInitG .nil pass0 (pa_cons (pv 1) (pa_cons (pv 2) pa_nil))))), ?_⟩
    refine (gvt_test (K := K) (gv_eqI (gv_var (i := 0) rfl (.int kd)) gv_int)).at fun H1 s1 => ?_
    have hp1 := hp.same s1
    have hl1 := s1 _ _ hl
    refine ite2 (fun _ => ?_) (fun _ => ?_)
    · refine ⟨.ref p, rfl, .ref l, rfl, fun t tx nt ntx net => ?_⟩
      have sm := make_at (C := CD) nt ntx
      exact ⟨t, p, l, tx, pan, st, rfl, upd_same, hp1.same sm, hg, sm _ _ hl1, hst, fun H2 b2 G2 => ⟨rfl, q H2 t (s1.trans (make_same nt ntx b2)) (s1.free nt) (.inl G2)⟩⟩
    · refine ⟨.ref p, rfl, .ref l, rfl, fun t tx nt ntx net => ?_⟩
      have sm := make_at (C := CG) nt ntx
      exact ⟨t, p, l, tx, pan, st, rfl, upd_same, hp1.same sm, hg, sm _ _ hl1, hst, fun H2 b2 G2 => ⟨rfl, q H2 t (s1.trans (make_same nt ntx b2)) (s1.free nt) (.inr G2)⟩⟩
end
end K64
namespace K64
open PySem PySem.Spec PyProof.Rows L2 Pr
@[irreducible] def ansT (pan : List (List Int)) (st hs : List Int) (x : Str) : Str := if x = ("latched" : Str) then rowT st else if x = ("held" : Str) then rowT hs else panT pan
theorem ans1 (pan : List (List Int)) (st hs : List Int) : ansT pan st hs "latched" = rowT st := by unfold ansT; exact if_pos rfl
theorem ans2 (pan : List (List Int)) (st hs : List Int) : ansT pan st hs "held" = rowT hs := by unfold ansT; rw [if_neg (by decide +kernel)]; exact if_pos rfl
theorem ans3 (pan : List (List Int)) (st hs : List Int) : ansT pan st hs "panel" = panT pan := by unfold ansT; rw [if_neg (by decide +kernel), if_neg (by decide +kernel)]
theorem ok_rowT (l : List Int) : PyData.strOk (rowT l) = true := by
  unfold rowT
  rw [TL.join_eq]
  refine ok_join (by decide +kernel) fun t ht => ?_
  unfold rowW at ht
  rcases List.mem_append.mp ht with h | h
  · obtain ⟨i, _, rfl⟩ := List.mem_map.mp h
    exact ok_of _
  · rw [List.eq_of_mem_replicate h]; decide +kernel
theorem ok_panT (pan : List (List Int)) : PyData.strOk (panT pan) = true := by
  unfold panT
  rw [TL.join_eq]
  refine ok_join (by decide +kernel) fun t ht => ?_
  obtain ⟨x, _, rfl⟩ := List.mem_map.mp ht
  unfold listT
  refine ok_app (ok_app (ok_of _) (by decide +kernel)) ?_
  rw [TL.join_eq]
  refine ok_join (by decide +kernel) fun t ht => ?_
  obtain ⟨i, _, rfl⟩ := List.mem_map.mp ht
  exact ok_of _
theorem shp_3 {x y z : Str} (hx : PyData.strOk x = true) (hy : PyData.strOk y = true) (hz : PyData.strOk z = true) : SeqAt.shaped (.list [.str x, .str y, .str z]) = true :=
  shp_of (by simp only [PyData.canLay0, PyData.canLayAll0, hx, hy, hz, Bool.and_self]) (by simp [PyData.depth, PyData.depthAll])
section
variable {K : PySem.W.Frag} {CD CG CS : Addr} {H H' : Hp} {s t : Addr} {pan : List (List Int)} {st hs : List Int} {past : List (PyData × List (List Int) × List Int)} {σ : L2.St} {i : Nat} {E : XK} {ta : TA} {Q : VK} {x : Str}
theorem gv_exec (hi : σ[i]? = some (some (.ref s))) (ga : GvA K ta σ H [.str x]) (hS : ShAt CS H s t) (hD : AnyAt K CD CG H t pan st past) (ih : IsHeld pan st hs) (hx : x = "latched" ∨ x = "held" ∨ x = "panel") : Gv K (tMeth CS "execute" (spExec K CD CG CS) [] E (tVar i) ta) σ H (.str (ansT pan st hs x)) := fun H1 s1 Q q => by
  obtain ⟨dx, e⟩ := hS.same s1
  refine ⟨.ref s, hi, s, dx, _, rfl, e, rfl, ga H1 s1 _ fun ws H2 s2 dw => ?_⟩
  obtain ⟨w1, rfl, dw1⟩ := dpAll1 dw
  cases dw1
  have s12 := s1.trans s2
  refine ⟨s, t, x, pan, st, past, rfl, hS.same s12, hD.same s12, .inl ⟨hs, ih, ?_⟩⟩
  rcases hx with rfl | rfl | rfl
  · exact .inl ⟨rfl, fun H3 s3 => q _ H3 (s2.trans s3) (by rw [ans1]; exact .str _)⟩
  · exact .inr (.inl ⟨rfl, fun H3 s3 => q _ H3 (s2.trans s3) (by rw [ans2]; exact .str _)⟩)
  · exact .inr (.inr ⟨rfl, fun H3 s3 => q _ H3 (s2.trans s3) (by rw [ans3]; exact .str _)⟩)
end
def nAsked : List Str := ["_law_shells", "_law_now", "_law_due", "_law_shell", "_law_word"]
theorem scAsked : FnScope nAsked ["_law_shells", "_law_now"] (defScope sAsked) := ⟨rfl, rfl, rfl, by decide +kernel, rfl, by decide +kernel, by decide +kernel⟩
section
variable {P : Program} {w : World} {K : PySem.W.Frag} {mg : Str → Option Value} {base : Heap}
def spAsked (K : PySem.W.Frag) (CD CG CS : Addr) : Sp := fun vs H Q _ => ∃ (B s1 s2 t : Addr) (v : V) (pan : List (List Int)) (st : List Int) (past : List (PyData × List (List Int) × List Int)), vs = [.ref B, v] ∧ H B = some (.lst [.ref s1, .ref s2]) ∧ ShAt CS H s1 t ∧ ShAt CS H s2 t ∧ AnyAt K CD CG H t pan st past ∧ Dp K H v (dNow pan st) ∧
  ∀ H', Same H H' → Q (.bl true) H'
theorem ok_Asked {fLHeld : Addr} {fdLHeld : FuncData} {fLRowT : Addr} {fdLRowT : FuncData} {fLPanT : Addr} {fdLPanT : FuncData} {f : Addr} {fd : FuncData} {k : Nat} (F : Fun K "_law_asked" "_law_asked" sAsked f fd)
    (FLHeld : Fun K "_law_held" "_law_held" sLHeld fLHeld fdLHeld) (bLHeld : Binds K fdLHeld ["_law_panel_here", "_law_latched_here"] []) (gLHeld : mg "_law_held" = some (.ref fLHeld))
    (FLRowT : Fun K "_law_row_text" "_law_row_text" sLRowT fLRowT fdLRowT) (bLRowT : Binds K fdLRowT ["_law_row"] []) (gLRowT : mg "_law_row_text" = some (.ref fLRowT))
    (FLPanT : Fun K "_law_panel_text" "_law_panel_text" sLPanT fLPanT fdLPanT) (bLPanT : Binds K fdLPanT ["_law_panel_here"] []) (gLPanT : mg "_law_panel_text" = some (.ref fLPanT))
    (m_int : mg "int" = none) (m_len : mg "len" = none) (m_list : mg "list" = none) (m_range : mg "range" = none) (m_str : mg "str" = none) (m_tuple : mg "tuple" = none) {CD CG CU CS : Addr} (TD : K64D.TxtD K mg CD) (TG : K64G.TxtD K mg CG) (DXD : K64D.DM P w K mg base CD CU) (DXG : K64G.DM P w K mg base CG CU) (SX : SM P w K mg base CS CD CG) : FnOk P w K mg base CX0 (k + 26) f fd ["_law_shells", "_law_now"] (spAsked K CD CG CS) := by
  have GLRowT : FnOk P w K mg base CX0 (k + 1) fLRowT fdLRowT ["_law_row"] (spLRowT K) := ok_LRowT FLRowT m_int m_len m_str
  have GLHeld : FnOk P w K mg base CX0 (k + 1) fLHeld fdLHeld ["_law_panel_here", "_law_latched_here"] (spLHeld K) := ok_LHeld FLHeld m_len m_list m_tuple
  have GLPanT : FnOk P w K mg base CX0 (k + 1) fLPanT fdLPanT ["_law_panel_here"] (spLPanT K) := ok_LPanT FLPanT m_len m_range m_str
  refine F.ok scAsked (fun vs H Q E h => ?_) (fun cdv A outer s H vs Q E hr h => ?_)
  · obtain ⟨B, s1, s2, t, v, pan, st, past, rfl, _⟩ := h
    rfl
  · obtain ⟨B, s1, s2, t, v, pan, st, past, rfl, eB, hS1, hS2, hD, dv, q⟩ := h
    refine ⟨_, pss_cons (ps_set (i := 2) scAsked.nd rfl (.inl rfl) (pe_lst (pa_cons (pe_call GLRowT (hr.mono (by omega)) (by rfl) gLRowT FLRowT.kp bLRowT .nil pass0 (pa_cons (pe_ix (show IxR _ (rIxT K) from ix_tup) (pv 1) pe_int (fun _ _ => rfl)) pa_nil)) (pa_cons (pe_call GLRowT (hr.mono (by omega)) (by rfl) gLRowT FLRowT.kp bLRowT .nil pass0 (pa_cons (pe_call GLHeld (hr.mono (by omega)) (by rfl) gLHeld FLHeld.kp bLHeld .nil pass0 (pa_cons (pe_ix (show IxR _ (rIxT K) from ix_tup) (pv 1) pe_int (fun _ _ => rfl)) (pa_cons (pe_ix (show IxR _ (rIxT K) from ix_tup) (pv 1) pe_int (fun _ _ => rfl)) pa_nil))) pa_nil)) (pa_cons (pe_call GLPanT (hr.mono (by omega)) (by rfl) gLPanT FLPanT.kp bLPanT .nil pass0 (pa_cons (pe_ix (show IxR _ (rIxT K) from ix_tup) (pv 1) pe_int (fun _ _ => rfl)) pa_nil)) pa_nil)))))
      (pss_cons (ps_for PassesOwn.never rfl (show PI _ _ _ (iList K _) from pi_list (pe_op op_cat (pv 0) (pv 0))) (pg_name (i := 3) scAsked.nd rfl (Or.inr rfl)) (pss_one (ps_if (pt_cmpR (show OpR _ _ (rNeD K) from op_neD hr.units) (pe_lc (own := [("_law_word", 4)]) (g := gName 4) (tt := tYes) rfl scAsked.nd (show PI _ _ _ (iList K _) from pi_list (pe_lst (pa_cons pe_str (pa_cons pe_str (pa_cons pe_str pa_nil))))) (blkOk_by (own := [("_law_word", 4)]) (N := nAsked) (sc := defScope sAsked) (by decide +kernel)) (fun _ _ _ _ _ => pg_name (i := 4) scAsked.nd rfl (Or.inl rfl)) (fun _ _ _ _ _ => pts_nil) (fun _ _ _ _ _ => show PE _ _ (tMeth CS "execute" (spExec K CD CG CS) [] _ _ _) from pe_meth (pv 3) SX.T.cl SX.hExec SX.GExec (hr.mono (by omega)) SX.bExec .nil pass0 (pa_cons (pv 4) pa_nil))) (pv 2) (nomark _)) (pss_one (ps_ret pe_bl)) pss_nil)))
      (pss_one (ps_ret pe_bl))), ?_⟩
    have hg := hD.good
    have few := hg.few
    have hst := hD.asc
    have ih := it_held (pan := pan) hst.up
    have hhs := heldOk hg hst ih
    rw [dNow_eq] at dv
    generalize hh : itM pan st.length st = hs at ih hhs
    refine gs_set1 (K := K) (gv_lst (gva_cons (gv_LRowT (gva_cons (gv_ixT (j := 1) (gv_var (i := 1) rfl dv) gv_int rfl rfl) gva_nil) (rowOk hst few)) (gva_cons (gv_LRowT (gva_cons ((gv_LHeld (gva_cons (gv_ixT (j := 0) (gv_var (i := 1) rfl dv) gv_int rfl rfl) (gva_cons (gv_ixT (j := 1) (gv_var (i := 1) rfl dv) gv_int rfl rfl) gva_nil)) ⟨hg, hst⟩).to (by rw [hh])) gva_nil) (rowOk hhs few)) (gva_cons (gv_LPanT (gva_cons (gv_ixT (j := 0) (gv_var (i := 1) rfl dv) gv_int rfl rfl) gva_nil) hg.okT) gva_nil)))) fun vd H1 s1' dd => ?_
    have eB1 := s1' _ _ eB
    refine ⟨.ref B, rfl, .ref B, rfl, B, B, _, _, rfl, rfl, eB1, eB1, by show 4 ≤ sizeLine; decide, fun L nL => ⟨L, rfl, ⟨_, .inl (.inl upd_same)⟩, ?_⟩⟩
    have sL := same_new (o := .lst ([V.ref s1, .ref s2] ++ [.ref s1, .ref s2])) nL
    have eL : (upd H1 L (.lst ([V.ref s1, .ref s2] ++ [.ref s1, .ref s2]))) L = some (.lst [.ref s1, .ref s2, .ref s1, .ref s2]) := upd_same
    generalize upd H1 L (.lst ([V.ref s1, .ref s2] ++ [.ref s1, .ref s2])) = H2 at sL eL ⊢
    have s02 := s1'.trans sL
    refine for_list (K := K) (a := L) (xs := [.ref s1, .ref s2, .ref s1, .ref s2]) (fun i σ H' => Same H2 H' ∧ ∃ x3 x4, σ = [some (.ref B), some v, some vd, x3, x4])
      ⟨Same.refl _, _, _, rfl⟩ (fun i σ H3 _ hP => .inl (.inl (hP.1 _ _ eL))) (fun i x σ H3 hx hP => ?_) (fun σ H3 hP => ?_)
    · obtain ⟨s3, x3, x4, rfl⟩ := hP
      have s03 := s02.trans s3
      obtain ⟨sx, rfl, hSx⟩ : ∃ sx, x = .ref sx ∧ ShAt CS H sx t := by
        have : x ∈ [V.ref s1, .ref s2, .ref s1, .ref s2] := List.mem_of_getElem? hx
        simp only [List.mem_cons, List.mem_nil_iff, or_false] at this
        rcases this with rfl | rfl | rfl | rfl
        · exact ⟨_, rfl, hS1⟩
        · exact ⟨_, rfl, hS2⟩
        · exact ⟨_, rfl, hS1⟩
        · exact ⟨_, rfl, hS2⟩
      have dd3 := (dd.sm sL).sm s3
      unfold gName
      dsimp only
      refine gs_noN (gvt_test (K := K) (gv_neD (d := .list [.str (rowT st), .str (rowT hs), .str (panT pan)]) ((gn_lc (K := K) (i := 4) (δ := PyData.str) (as := ["latched", "held", "panel"]) (p := fun _ => true) (f := fun x => .str (ansT pan st hs x)) (gvi_list (gv_lst (gva_cons gv_str (gva_cons gv_str (gva_cons gv_str gva_nil))))) (fun z vz H4 hz s4 dz => ⟨gvt_yes, fun _ => gv_exec (i := 3) rfl (gva_cons (gv_var rfl dz) gva_nil) (hSx.same (s03.trans s4)) (hD.same (s03.trans s4)) ih (by simpa using hz)⟩) (fun _ _ => rfl) (by decide)).gv.to ?_) (gv_var (i := 2) rfl dd3) (shp_3 (ok_rowT _) (ok_rowT _) (ok_panT _)) (shp_3 (ok_rowT _) (ok_rowT _) (ok_panT _)))) ?_ fun H4 s4 => ?_
      · show PyData.list [.str (ansT pan st hs "latched"), .str (ansT pan st hs "held"), .str (ansT pan st hs "panel")] = _
        rw [ans1, ans2, ans3]
      · simp [PyData.eqv, PyData.eqvAll]
      · exact ⟨s3.trans s4, _, _, rfl⟩
    · obtain ⟨s3, x3, x4, rfl⟩ := hP
      exact q H3 (s02.trans s3)
end
end K64
namespace Pr
open PySem PySem.Spec PyProof.Rows L2
end Pr
namespace K64
open PySem PySem.Spec PyProof.Rows L2 Pr
def stD (pan : List (List Int)) (st : List Int) (past : List (PyData × List (List Int) × List Int)) : List PyData := past.map (fun x => dNow x.2.1 x.2.2) ++ [dNow pan st]
theorem stD_len (pan : List (List Int)) (st : List Int) (past : List (PyData × List (List Int) × List Int)) : (stD pan st past).length = past.length + 1 := by unfold stD; simp
theorem stD_drop (pan : List (List Int)) (st : List Int) (past' : List (PyData × List (List Int) × List Int)) (y : PyData × List (List Int) × List Int) : (stD pan st (past' ++ [y])).dropLast = stD y.2.1 y.2.2 past' := by
  unfold stD
  rw [List.dropLast_concat, List.map_append]; rfl
theorem stD_snoc (pan pan' : List (List Int)) (st st' : List Int) (past : List (PyData × List (List Int) × List Int)) (d : PyData) : stD pan' st' (past ++ [(d, pan, st)]) = stD pan st past ++ [dNow pan' st'] := by
  unfold stD
  rw [List.map_append]; rfl
theorem lf_now2 (pan : List (List Int)) (st : List Int) : lf (dNow pan st) = true := by rw [dNow_eq]; exact lf_now _ _
theorem stD_lf (pan : List (List Int)) (st : List Int) (past : List (PyData × List (List Int) × List Int)) : lfAll (stD pan st past) = true := lfAll_of fun d hd => by
  unfold stD at hd
  rcases List.mem_append.mp hd with h | h
  · obtain ⟨x, _, rfl⟩ := List.mem_map.mp h
    exact lf_now2 _ _
  · rw [List.mem_singleton.mp h]; exact lf_now2 _ _
/-- what holds between two turns of a script: draws, shells, desk; the states that the law keeps -/
structure I64 (K : PySem.W.Frag) (CD CG CS : Addr) (H : Hp) (a c r : Addr) (m : Nat) (B s1 s2 t S : Addr) (vs : List V) (ys : List PyData) (pan : List (List Int)) (st : List Int) (past : List (PyData × List (List Int) × List Int)) : Prop where
  dk : Dk3 H a c r m
  lb : H B = some (.lst [.ref s1, .ref s2])
  nb : B ≠ a ∧ B ≠ r
  h1 : ShAt CS H s1 t
  h2 : ShAt CS H s2 t
  ds : AnyAt K CD CG H t pan st past
  ss : H S = some (.lst vs)
  dv : DpAll K H vs ys
  lf : lfAll ys = true
  ns : S ≠ a ∧ S ≠ r
section
variable {K : PySem.W.Frag} {CD CG CS : Addr} {H H' : Hp} {a c r : Addr} {m m' : Nat} {B s1 s2 t S : Addr} {vs : List V} {ys : List PyData} {pan pan' : List (List Int)} {st st' : List Int} {past past' : List (PyData × List (List Int) × List Int)}
theorem I64.same (h : I64 K CD CG CS H a c r m B s1 s2 t S vs ys pan st past) (s : Same H H') : I64 K CD CG CS H' a c r m B s1 s2 t S vs ys pan st past :=
  ⟨h.dk.same s, s _ _ h.lb, h.nb, h.h1.same s, h.h2.same s, h.ds.same s, s _ _ h.ss, h.dv.sm s, h.lf, h.ns⟩
theorem I64.less (h : I64 K CD CG CS H a c r m B s1 s2 t S vs ys pan st past) (l : m' ≤ m) : I64 K CD CG CS H a c r m' B s1 s2 t S vs ys pan st past :=
  ⟨h.dk.less l, h.lb, h.nb, h.h1, h.h2, h.ds, h.ss, h.dv, h.lf, h.ns⟩
theorem I64.but (h : I64 K CD CG CS H a c r m B s1 s2 t S vs ys pan st past) (b : But a r H H') (D : Dk3 H' a c r m') : I64 K CD CG CS H' a c r m' B s1 s2 t S vs ys pan st past := by
  have k := tup_but3K h.dk b
  have far : ∀ {x : Addr} {C dx : Addr} {fs : List (Str × V)}, H x = some (.ins C dx fs) → H' x = some (.ins C dx fs) := fun e => by
    have q := h.dk.apart e (fun _ => by intro z; cases z)
    exact b _ _ q.1 q.2 e
  obtain ⟨C, dx, fs, e, _⟩ := h.ds.ins
  obtain ⟨d1, e1⟩ := h.h1
  obtain ⟨d2, e2⟩ := h.h2
  exact ⟨D, b _ _ h.nb.1 h.nb.2 h.lb, h.nb, ⟨d1, far e1⟩, ⟨d2, far e2⟩, h.ds.kpAt k ((far e).trans e.symm), b _ _ h.ns.1 h.ns.2 h.ss, dpAll_kp k _ _ h.lf h.dv, h.lf, h.ns⟩
theorem lst_ne {x y : Addr} {xs : List V} {C dx : Addr} {fs : List (Str × V)} (e : H x = some (.lst xs)) (e' : H y = some (.ins C dx fs)) : x ≠ y := fun z => by rw [z, e'] at e; cases e
theorem I64.desk (h : I64 K CD CG CS H a c r m B s1 s2 t S vs ys pan st past) (b : ButO t H H') (d : AnyAt K CD CG H' t pan' st' past') : I64 K CD CG CS H' a c r m B s1 s2 t S vs ys pan' st' past' := by
  obtain ⟨C, dx, fs, e, _⟩ := h.ds.ins
  have k := b.kp e
  refine ⟨?_, b _ _ (lst_ne h.lb e) h.lb, h.nb, h.h1.but b (h.h1.ne h.ds), h.h2.but b (h.h2.ne h.ds), d, b _ _ (lst_ne h.ss e) h.ss, dpAll_kp k _ _ h.lf h.dv, h.lf, h.ns⟩
  obtain ⟨cells, rests, n, ea, ec, er, q⟩ := h.dk
  exact ⟨cells, rests, n, b _ _ (lst_ne ea e) ea, b _ _ (lst_ne ec e) ec, b _ _ (lst_ne er e) er, q⟩
theorem I64.set {S' : Addr} {vs' : List V} {ys' : List PyData} (h : I64 K CD CG CS H a c r m B s1 s2 t S vs ys pan st past) (e : H S' = some (.lst vs')) (d : DpAll K H vs' ys') (l : lfAll ys' = true) (n : S' ≠ a ∧ S' ≠ r) : I64 K CD CG CS H a c r m B s1 s2 t S' vs' ys' pan st past :=
  ⟨h.dk, h.lb, h.nb, h.h1, h.h2, h.ds, e, d, l, n⟩
theorem next_of {D : Ends} {σ : L2.St} (h : D.nx σ H) : tNext D σ H := h
theorem ifS_split {tt : TT} {ta tb : TS} {D : Ends} {σ : L2.St} (P : Hp → Prop) (he : ∀ H', P H' → tb D σ H') (h : (∀ H', P H' → tb D σ H') → tIfS tt ta tb D σ H) : tIfS tt ta tb D σ H := h he
theorem dpAll_snoc {d : PyData} {A : List PyData} (h : DpAll K H vs (A ++ [d])) : ∃ us u, vs = us ++ [u] ∧ DpAll K H us A ∧ Dp K H u d := by
  induction A generalizing vs with
  | nil =>
    obtain ⟨u, rfl, hu⟩ := dpAll1 h
    exact ⟨[], u, rfl, .nil, hu⟩
  | cons x A ih =>
    cases h with
    | cons h1 h2 =>
      obtain ⟨us, u, rfl, h3, h4⟩ := ih h2
      exact ⟨_ :: us, u, rfl, .cons h1 h3, h4⟩
theorem gv_lastD {σ : L2.St} {te : TE} {r : V → Hp → VK → Prop} (hr : r = rU fun i => V.int (-i)) {ds : List PyData} {d : PyData} (h : Gv K te σ H (.list (ds ++ [d]))) : Gv K (tOp (rIxL K) te (tUn r (tC (.int 1)))) σ H d := fun H1 s Q q => h H1 s _ fun v H2 s2 dv => by
  obtain ⟨a, xs, rfl, hs, da⟩ := dv.lstI
  obtain ⟨us, u, rfl, _, du⟩ := dpAll_snoc da
  subst hr
  exact ⟨1, rfl, a, _, _, u, rfl, rfl, hs, K64D.at_last, q _ H2 s2 du⟩
theorem gv_strI {σ : L2.St} {te : TE} {n : Nat} (h : Gv K te σ H (.int (n : Int))) (hn : n ≤ 1000) : Gv K (tCB rStrI (tCons te tNil)) σ H (.str (Str.ofString (toString (n : Int)))) := gv_cb (gva_cons h gva_nil) fun vs H1 Q s hd' q => by
  obtain ⟨v, rfl, hv⟩ := dpAll1 hd'
  cases hv
  exact ⟨_, rfl, K64D.log_num n hn, q _ _ (Same.refl _) (.str _)⟩
theorem gv_asked {σ : L2.St} {te : TE} {i : Nat} {E : XK} (I : I64 K CD CG CS H a c r m B s1 s2 t S vs ys pan st past) (hi : σ[i]? = some (some (.ref B))) (h : Gv K te σ H (dNow pan st)) : Gv K (tCall (spAsked K CD CG CS) [] E (tCons (tVar i) (tCons te tNil))) σ H (.bool true) := fun H1 s Q q =>
  ⟨.ref B, hi, h H1 s _ fun v H2 z2 dv => ⟨B, s1, s2, t, v, pan, st, past, rfl, (s.trans z2) _ _ I.lb, I.h1.same (s.trans z2), I.h2.same (s.trans z2), I.ds.same (s.trans z2), dv, fun H3 z3 => q _ H3 (z2.trans z3) (.bl true)⟩⟩
theorem Ed.lf {d : PyData} {f : List Int → List Int} (h : Ed pan d pan' f) : Pr.lf d = true := by cases h <;> rfl
theorem I64.dS (h : I64 K CD CG CS H a c r m B s1 s2 t S vs ys pan st past) : Dp K H (.ref S) (.list ys) := .lst (.inl (.inl h.ss)) h.dv
end
def nLaw : List Str := ["_law_script", "_law_state", "_law_turn", "_law_panel_here", "_law_states", "_law_desk_here", "_law_shells", "_law_again", "_law_edit_here", "_law_now"]
theorem scLaw : FnScope nLaw ["_law_script"] (defScope sLaw) := ⟨rfl, rfl, rfl, by decide +kernel, rfl, by decide +kernel, by decide +kernel⟩
section
variable {P : Program} {w : World} {K : PySem.W.Frag} {mg : Str → Option Value} {base : Heap}
def spLaw (K : PySem.W.Frag) : Sp := fun vs H Q _ => ∃ (s : Addr) (ns : List Int), vs = [.ref s] ∧ SqL K H s (ns.map V.int) ∧ ns.length ≤ 63 ∧ ∀ H', Q (.bl true) H'
theorem ok_law {fWl : Addr} {fdWl : FuncData} {fLi : Addr} {fdLi : FuncData} {fUn : Addr} {fdUn : FuncData} {fNo : Addr} {fdNo : FuncData} {fPressE : Addr} {fdPressE : FuncData} {fJoin : Addr} {fdJoin : FuncData} {fWith : Addr} {fdWith : FuncData} {fBtn : Addr} {fdBtn : FuncData} {fBtnT : Addr} {fdBtnT : FuncData} {fPErr : Addr} {fdPErr : FuncData} {fPress : Addr} {fdPress : FuncData} {fAny : Addr} {fdAny : FuncData} {fHeld : Addr} {fdHeld : FuncData} {fChkP : Addr} {fdChkP : FuncData} {fChkS : Addr} {fdChkS : FuncData} {fChkB : Addr} {fdChkB : FuncData} {fKAft : Addr} {fdKAft : FuncData} {fListT : Addr} {fdListT : FuncData} {fPanT : Addr} {fdPanT : FuncData} {fRowT : Addr} {fdRowT : FuncData} {fIsCh : Addr} {fdIsCh : FuncData} {fChng : Addr} {fdChng : FuncData} {fChAns : Addr} {fdChAns : FuncData} {fQAns : Addr} {fdQAns : FuncData} {fDraws : Addr} {fdDraws : FuncData} {fNext : Addr} {fdNext : FuncData} {fPanel : Addr} {fdPanel : FuncData} {fLatch : Addr} {fdLatch : FuncData} {fPressed : Addr} {fdPressed : FuncData} {fChanged : Addr} {fdChanged : FuncData} {fAfter : Addr} {fdAfter : FuncData} {fEdit : Addr} {fdEdit : FuncData} {fDo : Addr} {fdDo : FuncData} {fLHeld : Addr} {fdLHeld : FuncData} {fLRowT : Addr} {fdLRowT : FuncData} {fLPanT : Addr} {fdLPanT : FuncData} {fAsked : Addr} {fdAsked : FuncData} {fDesk : Addr} {fdDesk : FuncData} {f : Addr} {fd : FuncData} (F : Fun K "law" "law" sLaw f fd)
    (FWl : Fun K "with_list" "with_list" sWl fWl fdWl) (bWl : Binds K fdWl ["panel", "button", "released"] []) (gWl : mg "with_list" = some (.ref fWl))
    (FLi : Fun K "linked" "linked" sLi fLi fdLi) (bLi : Binds K fdLi ["panel", "one", "other"] []) (gLi : mg "linked" = some (.ref fLi))
    (FUn : Fun K "unlinked" "unlinked" sUn fUn fdUn) (bUn : Binds K fdUn ["panel", "one", "other"] []) (gUn : mg "unlinked" = some (.ref fUn))
    (FNo : Fun K "no_effect" "no_effect" sNo fNo fdNo) (bNo : Binds K fdNo ["panel"] []) (gNo : mg "no_effect" = some (.ref fNo))
    (FPressE : Fun K "press_effect" "press_effect" sPressE fPressE fdPressE) (bPressE : Binds K fdPressE ["panel", "button"] []) (gPressE : mg "press_effect" = some (.ref fPressE))
    (FJoin : Fun K "joined_effect" "joined_effect" sJoin fJoin fdJoin) (bJoin : Binds K fdJoin ["first", "second"] []) (gJoin : mg "joined_effect" = some (.ref fJoin))
    (FWith : Fun K "effect_with_press" "effect_with_press" sWith fWith fdWith) (bWith : Binds K fdWith ["panel", "effect", "button"] []) (gWith : mg "effect_with_press" = some (.ref fWith))
    (FBtn : Fun K "is_button" "is_button" sBtn fBtn fdBtn) (bBtn : Binds K fdBtn ["value", "many"] []) (gBtn : mg "is_button" = some (.ref fBtn))
    (FBtnT : Fun K "is_button_tuple" "is_button_tuple" sBtnT fBtnT fdBtnT) (bBtnT : Binds K fdBtnT ["value", "many"] []) (gBtnT : mg "is_button_tuple" = some (.ref fBtnT))
    (FPErr : Fun K "panel_error" "panel_error" sPErr fPErr fdPErr) (bPErr : Binds K fdPErr ["value"] []) (gPErr : mg "panel_error" = some (.ref fPErr))
    (FPress : Fun K "press_button" "press_button" sPress fPress fdPress) (bPress : Binds K fdPress ["panel", "state", "button"] []) (gPress : mg "press_button" = some (.ref fPress))
    (FAny : Fun K "releases_any" "releases_any" sAny fAny fdAny) (bAny : Binds K fdAny ["panel", "button", "others"] []) (gAny : mg "releases_any" = some (.ref fAny))
    (FHeld : Fun K "held_buttons" "held_buttons" sHeld fHeld fdHeld) (bHeld : Binds K fdHeld ["panel", "state"] []) (gHeld : mg "held_buttons" = some (.ref fHeld))
    (FChkP : Fun K "check_panel" "check_panel" sChkP fChkP fdChkP) (bChkP : Binds K fdChkP ["value"] []) (gChkP : mg "check_panel" = some (.ref fChkP))
    (FChkS : Fun K "check_state" "check_state" sChkS fChkS fdChkS) (bChkS : Binds K fdChkS ["panel", "value"] []) (gChkS : mg "check_state" = some (.ref fChkS))
    (FChkB : Fun K "check_button" "check_button" sChkB fChkB fdChkB) (bChkB : Binds K fdChkB ["panel", "value"] []) (gChkB : mg "check_button" = some (.ref fChkB))
    (FKAft : Fun K "known_after" "known_after" sKAft fKAft fdKAft) (bKAft : Binds K fdKAft ["panel", "past"] []) (gKAft : mg "known_after" = some (.ref fKAft))
    (FListT : Fun K "list_text" "list_text" sListT fListT fdListT) (bListT : Binds K fdListT ["button", "released"] []) (gListT : mg "list_text" = some (.ref fListT))
    (FPanT : Fun K "panel_text" "panel_text" sPanT fPanT fdPanT) (bPanT : Binds K fdPanT ["panel"] []) (gPanT : mg "panel_text" = some (.ref fPanT))
    (FRowT : Fun K "row_text" "row_text" sRowT fRowT fdRowT) (bRowT : Binds K fdRowT ["row"] []) (gRowT : mg "row_text" = some (.ref fRowT))
    (FIsCh : Fun K "is_change" "is_change" sIsCh fIsCh fdIsCh) (bIsCh : Binds K fdIsCh ["words"] []) (gIsCh : mg "is_change" = some (.ref fIsCh))
    (FChng : Fun K "change" "change" sChng fChng fdChng) (bChng : Binds K fdChng ["desk", "name", "numbers"] []) (gChng : mg "change" = some (.ref fChng))
    (FChAns : Fun K "change_answer" "change_answer" sChAns fChAns fdChAns) (bChAns : Binds K fdChAns ["desk", "words"] []) (gChAns : mg "change_answer" = some (.ref fChAns))
    (FQAns : Fun K "query_answer" "query_answer" sQAns fQAns fdQAns) (bQAns : Binds K fdQAns ["desk", "line"] []) (gQAns : mg "query_answer" = some (.ref fQAns))
    (FDraws : Fun K "_law_draws" "_law_draws" sDraws fDraws fdDraws) (bDraws : Binds K fdDraws ["_law_script"] []) (gDraws : mg "_law_draws" = some (.ref fDraws))
    (FNext : Fun K "_law_next" "_law_next" sNext fNext fdNext) (bNext : Binds K fdNext ["_law_state", "_law_many"] []) (gNext : mg "_law_next" = some (.ref fNext))
    (FPanel : Fun K "_law_panel" "_law_panel" sPanel fPanel fdPanel) (bPanel : Binds K fdPanel ["_law_state", "_law_most"] []) (gPanel : mg "_law_panel" = some (.ref fPanel))
    (FLatch : Fun K "_law_latched" "_law_latched" sLatch fLatch fdLatch) (bLatch : Binds K fdLatch ["_law_state", "_law_many"] []) (gLatch : mg "_law_latched" = some (.ref fLatch))
    (FPressed : Fun K "_law_pressed" "_law_pressed" sPressed fPressed fdPressed) (bPressed : Binds K fdPressed ["_law_panel_here", "_law_latched_here", "_law_button"] []) (gPressed : mg "_law_pressed" = some (.ref fPressed))
    (FChanged : Fun K "_law_changed" "_law_changed" sChanged fChanged fdChanged) (bChanged : Binds K fdChanged ["_law_panel_here", "_law_one", "_law_other", "_law_is_linked"] []) (gChanged : mg "_law_changed" = some (.ref fChanged))
    (FAfter : Fun K "_law_after" "_law_after" sAfter fAfter fdAfter) (bAfter : Binds K fdAfter ["_law_now", "_law_edit_here"] []) (gAfter : mg "_law_after" = some (.ref fAfter))
    (FEdit : Fun K "_law_edit" "_law_edit" sEdit fEdit fdEdit) (bEdit : Binds K fdEdit ["_law_state", "_law_now"] []) (gEdit : mg "_law_edit" = some (.ref fEdit))
    (FDo : Fun K "_law_do" "_law_do" sDo fDo fdDo) (bDo : Binds K fdDo ["_law_desk_here", "_law_edit_here"] []) (gDo : mg "_law_do" = some (.ref fDo))
    (FLHeld : Fun K "_law_held" "_law_held" sLHeld fLHeld fdLHeld) (bLHeld : Binds K fdLHeld ["_law_panel_here", "_law_latched_here"] []) (gLHeld : mg "_law_held" = some (.ref fLHeld))
    (FLRowT : Fun K "_law_row_text" "_law_row_text" sLRowT fLRowT fdLRowT) (bLRowT : Binds K fdLRowT ["_law_row"] []) (gLRowT : mg "_law_row_text" = some (.ref fLRowT))
    (FLPanT : Fun K "_law_panel_text" "_law_panel_text" sLPanT fLPanT fdLPanT) (bLPanT : Binds K fdLPanT ["_law_panel_here"] []) (gLPanT : mg "_law_panel_text" = some (.ref fLPanT))
    (FAsked : Fun K "_law_asked" "_law_asked" sAsked fAsked fdAsked) (bAsked : Binds K fdAsked ["_law_shells", "_law_now"] []) (gAsked : mg "_law_asked" = some (.ref fAsked))
    (FDesk : Fun K "_law_desk" "_law_desk" sDesk fDesk fdDesk) (bDesk : Binds K fdDesk ["_law_kind", "_law_panel_here", "_law_latched_here"] []) (gDesk : mg "_law_desk" = some (.ref fDesk))
    (m_abs : mg "abs" = none) (m_all : mg "all" = none) (m_any : mg "any" = none) (m_bool : mg "bool" = none) (m_enumerate : mg "enumerate" = none) (m_int : mg "int" = none) (m_isinstance : mg "isinstance" = none) (m_len : mg "len" = none) (m_list : mg "list" = none) (m_range : mg "range" = none) (m_set : mg "set" = none) (m_sorted : mg "sorted" = none) (m_str : mg "str" = none) (m_tuple : mg "tuple" = none) (m_zip : mg "zip" = none) {CD CG CU CS : Addr} (TD : K64D.TxtD K mg CD) (TG : K64G.TxtD K mg CG) (DXD : K64D.DM P w K mg base CD CU) (DXG : K64G.DM P w K mg base CG CU) (SX : SM P w K mg base CS CD CG) : FnOk P w K mg base CX0 (30) f fd ["_law_script"] (spLaw K) := by
  have GDraws : FnOk P w K mg base CX0 (1) fDraws fdDraws ["_law_script"] (spDraws K) := ok_Draws FDraws m_abs m_int m_len
  have GPanel : FnOk P w K mg base CX0 (2) fPanel fdPanel ["_law_state", "_law_most"] (spPanel K) := ok_Panel FPanel FNext bNext gNext m_len m_range m_tuple
  have GLatch : FnOk P w K mg base CX0 (2) fLatch fdLatch ["_law_state", "_law_many"] (spLatch K) := ok_Latch FLatch FNext bNext gNext m_len m_range m_tuple
  have GDesk : FnOk P w K mg base CX0 (20) fDesk fdDesk ["_law_kind", "_law_panel_here", "_law_latched_here"] (spDesk K CD CG) := ok_Desk FDesk TD TG DXD DXG
  have GNext : FnOk P w K mg base CX0 (1) fNext fdNext ["_law_state", "_law_many"] spNext := ok_Next FNext m_len
  have GAsked : FnOk P w K mg base CX0 (26) fAsked fdAsked ["_law_shells", "_law_now"] (spAsked K CD CG CS) := ok_Asked FAsked FLHeld bLHeld gLHeld FLRowT bLRowT gLRowT FLPanT bLPanT gLPanT m_int m_len m_list m_range m_str m_tuple TD TG DXD DXG SX
  have GEdit : FnOk P w K mg base CX0 (2) fEdit fdEdit ["_law_state", "_law_now"] (spEdit K) := ok_Edit FEdit FNext bNext gNext m_len
  have GDo : FnOk P w K mg base CX0 (20) fDo fdDo ["_law_desk_here", "_law_edit_here"] (spDo K CD CG) := ok_Do FDo TD TG DXD DXG
  have GAfter : FnOk P w K mg base CX0 (2) fAfter fdAfter ["_law_now", "_law_edit_here"] (spAfter K) := ok_After FAfter FPressed bPressed gPressed FChanged bChanged gChanged m_int m_set m_sorted m_tuple
  refine F.ok scLaw (fun vs H Q E h => ?_) (fun cdv A outer s H vs Q E hr h => ?_)
  · obtain ⟨s, ns, rfl, _⟩ := h
    rfl
  · obtain ⟨sc, ns, rfl, hS, hlen, q⟩ := h
    refine ⟨_, pss_cons (ps_set (i := 1) scLaw.nd rfl (.inl rfl) (pe_call GDraws (hr.mono (by omega)) (by rfl) gDraws FDraws.kp bDraws .nil pass0 (pa_cons (pv 0) pa_nil)))
      (pss_cons (ps_for PassesOwn.never rfl (pi_range1 (by rfl) m_range (pa_cons pe_int pa_nil)) (pg_name (i := 2) scLaw.nd rfl (Or.inl rfl)) (pss_cons (ps_set (i := 3) scLaw.nd rfl (.inl rfl) (pe_call GPanel (hr.mono (by omega)) (by rfl) gPanel FPanel.kp bPanel .nil pass0 (pa_cons (pv 1) (pa_cons (pe_ix (show IxR _ (rIxL K) from ix_list) (pe_lst (pa_cons pe_int (pa_cons pe_int pa_nil))) (pe_op op_mod (pv 2) pe_int) (fun _ _ => rfl)) pa_nil))))
      (pss_cons (ps_set (i := 4) scLaw.nd rfl (.inl rfl) (pe_lst (pa_cons (pe_tup (pa_cons (pv 3) (pa_cons (pe_call GLatch (hr.mono (by omega)) (by rfl) gLatch FLatch.kp bLatch .nil pass0 (pa_cons (pv 1) (pa_cons (pe_callB (show CallR _ _ (rLenG K) from cr_lenG) (by rfl) m_len PySem.boot_len (pa_cons (pv 3) pa_nil)) pa_nil))) pa_nil))) pa_nil)))
      (pss_cons (ps_set (i := 5) scLaw.nd rfl (.inl rfl) (pe_call GDesk (hr.mono (by omega)) (by rfl) gDesk FDesk.kp bDesk .nil pass0 (pa_cons (pe_call GNext (hr.mono (by omega)) (by rfl) gNext FNext.kp bNext .nil pass0 (pa_cons (pv 1) (pa_cons pe_int pa_nil))) (pa_cons (pv 3) (pa_cons (pe_ix (show IxR _ (rIxT K) from ix_tup) (pe_ix (show IxR _ (rIxL K) from ix_list) (pv 4) pe_int (fun _ _ => rfl)) pe_int (fun _ _ => rfl)) pa_nil)))))
      (pss_cons (ps_set (i := 6) scLaw.nd rfl (.inl rfl) (pe_lst (pa_cons (pe_make SX.MkS SX.GInitS (hr.mono (by omega)) (by rfl) SX.T.g SX.bInitS .nil pass0 (pa_cons (pv 5) pa_nil)) (pa_cons (pe_make SX.MkS SX.GInitS (hr.mono (by omega)) (by rfl) SX.T.g SX.bInitS .nil pass0 (pa_cons (pv 5) pa_nil)) pa_nil))))
      (pss_cons (ps_for PassesOwn.never rfl (pi_range1 (by rfl) m_range (pa_cons (pe_call GNext (hr.mono (by omega)) (by rfl) gNext FNext.kp bNext .nil pass0 (pa_cons (pv 1) (pa_cons pe_int pa_nil))) pa_nil)) (pg_name (i := 7) scLaw.nd rfl (Or.inl rfl)) (pss_cons (ps_if (PW.pt (pw_or (pt_not (pt_val (pe_call GAsked (hr.mono (by omega)) (by rfl) gAsked FAsked.kp bAsked .nil pass0 (pa_cons (pv 6) (pa_cons (pe_ix (show IxR _ (rIxL K) from ix_list) (pv 4) (pe_un un_neg pe_int) (fun _ _ => rfl)) pa_nil))))) (pw_or1 (pt_cmpR op_ne (pe_or (pe_callB (show CallR _ _ (rLenO CD (K64D.spLenD K CD)) from cr_lenO DXD.GLenD (hr.mono (by omega)) DXD.bLenD DXD.xLenD DXD.yLenD) (by rfl) m_len PySem.boot_len (pa_cons (pv 5) pa_nil)) (pe_callB (show CallR _ _ (rLenO CG (K64G.spLenD K CG)) from cr_lenO DXG.GLenD (hr.mono (by omega)) DXG.bLenD DXG.xLenD DXG.yLenD) (by rfl) m_len PySem.boot_len (pa_cons (pv 5) pa_nil))) (pe_op op_sub (pe_callB (show CallR _ _ (rLenG K) from cr_lenG) (by rfl) m_len PySem.boot_len (pa_cons (pv 4) pa_nil)) pe_int) (nomark _))))) (pss_one (ps_ret pe_bl)) pss_nil)
      (pss_one (ps_if (PW.pt (pw_and (pt_cmpR op_gt (pe_callB (show CallR _ _ (rLenG K) from cr_lenG) (by rfl) m_len PySem.boot_len (pa_cons (pv 4) pa_nil)) pe_int (nomark _)) (pw_and1 (pt_cmpR op_eq (pe_call GNext (hr.mono (by omega)) (by rfl) gNext FNext.kp bNext .nil pass0 (pa_cons (pv 1) (pa_cons pe_int pa_nil))) pe_int (nomark _))))) (pss_cons (ps_expr (pe_or (pe_meth0 (pv 5) TD.cl DXD.hUndo DXD.GUndo (hr.mono (by omega)) DXD.bUndo .nil passX) (pe_meth0 (pv 5) TG.cl DXG.hUndo DXG.GUndo (hr.mono (by omega)) DXG.bUndo .nil passX)))
      (pss_one (ps_set (i := 4) scLaw.nd rfl (.inl rfl) (pe_slice (show SlR _ (rSlL K) from sl_list) (pv 4) po_none (po_some (pe_un un_neg pe_int)))))) (pss_cons (ps_set (i := 8) scLaw.nd rfl (.inl rfl) (pe_call GEdit (hr.mono (by omega)) (by rfl) gEdit FEdit.kp bEdit .nil pass0 (pa_cons (pv 1) (pa_cons (pe_ix (show IxR _ (rIxL K) from ix_list) (pv 4) (pe_un un_neg pe_int) (fun _ _ => rfl)) pa_nil))))
      (pss_cons (ps_expr (pe_call GDo (hr.mono (by omega)) (by rfl) gDo FDo.kp bDo .nil pass0 (pa_cons (pv 5) (pa_cons (pv 8) pa_nil))))
      (pss_one (ps_set (i := 4) scLaw.nd rfl (.inl rfl) (pe_op op_cat (pv 4) (pe_lst (pa_cons (pe_call GAfter (hr.mono (by omega)) (by rfl) gAfter FAfter.kp bAfter .nil pass0 (pa_cons (pe_ix (show IxR _ (rIxL K) from ix_list) (pv 4) (pe_un un_neg pe_int) (fun _ _ => rfl)) (pa_cons (pv 8) pa_nil))) pa_nil)))))))))))
      (pss_cons (ps_for PassesOwn.never rfl (show PI _ _ _ (iList K _) from pi_list (Pr.pe_revL (pv 4))) (pg_name (i := 9) scLaw.nd rfl (Or.inl rfl)) (pss_cons (ps_if (pt_not (pt_val (pe_call GAsked (hr.mono (by omega)) (by rfl) gAsked FAsked.kp bAsked .nil pass0 (pa_cons (pv 6) (pa_cons (pv 9) pa_nil))))) (pss_one (ps_ret pe_bl)) pss_nil)
      (pss_one (ps_if (PW.pt (pw_and (pt_cmpR op_gt (pe_or (pe_callB (show CallR _ _ (rLenO CD (K64D.spLenD K CD)) from cr_lenO DXD.GLenD (hr.mono (by omega)) DXD.bLenD DXD.xLenD DXD.yLenD) (by rfl) m_len PySem.boot_len (pa_cons (pv 5) pa_nil)) (pe_callB (show CallR _ _ (rLenO CG (K64G.spLenD K CG)) from cr_lenO DXG.GLenD (hr.mono (by omega)) DXG.bLenD DXG.xLenD DXG.yLenD) (by rfl) m_len PySem.boot_len (pa_cons (pv 5) pa_nil))) pe_int (nomark _)) (pw_and1 (pt_cmpR op_ne (pe_meth (pe_ix (show IxR _ (rIxL K) from ix_list) (pv 6) pe_int (fun _ _ => rfl)) SX.T.cl SX.hExec SX.GExec (hr.mono (by omega)) SX.bExec .nil pass0 (pa_cons pe_str pa_nil)) (pe_op op_add_str pe_str (pe_callTy (show CallR _ _ rStrI from call_str_int) (by rfl) m_str (by decide +kernel) (pa_cons (pe_or (pe_callB (show CallR _ _ (rLenO CD (K64D.spLenD K CD)) from cr_lenO DXD.GLenD (hr.mono (by omega)) DXD.bLenD DXD.xLenD DXD.yLenD) (by rfl) m_len PySem.boot_len (pa_cons (pv 5) pa_nil)) (pe_callB (show CallR _ _ (rLenO CG (K64G.spLenD K CG)) from cr_lenO DXG.GLenD (hr.mono (by omega)) DXG.bLenD DXG.xLenD DXG.yLenD) (by rfl) m_len PySem.boot_len (pa_cons (pv 5) pa_nil))) pa_nil))) (nomark _))))) (pss_one (ps_ret pe_bl)) pss_nil))))
      (pss_one (ps_if (PW.pt (pw_or (pt_cmpR op_ne (pe_or (pe_callB (show CallR _ _ (rLenO CD (K64D.spLenD K CD)) from cr_lenO DXD.GLenD (hr.mono (by omega)) DXD.bLenD DXD.xLenD DXD.yLenD) (by rfl) m_len PySem.boot_len (pa_cons (pv 5) pa_nil)) (pe_callB (show CallR _ _ (rLenO CG (K64G.spLenD K CG)) from cr_lenO DXG.GLenD (hr.mono (by omega)) DXG.bLenD DXG.xLenD DXG.yLenD) (by rfl) m_len PySem.boot_len (pa_cons (pv 5) pa_nil))) pe_int (nomark _)) (pw_or1 (pt_not (pt_val (pe_call GAsked (hr.mono (by omega)) (by rfl) gAsked FAsked.kp bAsked .nil pass0 (pa_cons (pv 6) (pa_cons (pe_ix (show IxR _ (rIxL K) from ix_list) (pv 4) pe_int (fun _ _ => rfl)) pa_nil)))))))) (pss_one (ps_ret pe_bl)) pss_nil)))))))))
      (pss_one (ps_ret pe_bl))), ?_⟩
    refine ⟨.ref sc, rfl, sc, ns, rfl, hS, hlen, fun H1 a c r s1 D1 => ?_⟩
    refine ⟨4, rfl, by decide, by decide, ?_⟩
    refine for_range (n := 4) (fun k σ H' => Dk3 H' a c r (5000 - 1000 * k) ∧ ∃ x2 x3 x4 x5 x6 x7 x8 x9, σ = [some (.ref sc), some (.ref a), x2, x3, x4, x5, x6, x7, x8, x9])
      ⟨D1.less (by decide), _, _, _, _, _, _, _, _, rfl⟩ (fun k σ H2 hk hP => ?_) (fun σ H2 hP => q H2)
    obtain ⟨D2, x2, x3, x4, x5, x6, x7, x8, x9, rfl⟩ := hP
    obtain ⟨most, hmost, m1, m2⟩ : ∃ most : Int, ([PyData.int 10, .int 4] : List PyData)[k % 2]? = some (.int most) ∧ 1 ≤ most ∧ most ≤ 10 := by
      rcases Nat.mod_two_eq_zero_or_one k with h | h
      · rw [h]; exact ⟨10, rfl, by decide, by decide⟩
      · rw [h]; exact ⟨4, rfl, by decide, by decide⟩
    refine ⟨.ref a, rfl, (gv_ixL (K := K) (j := k % 2) (gv_lst (gva_cons gv_int (gva_cons gv_int gva_nil))) (gv_I (gv_var (i := 2) rfl (.int (0 + (k : Int)))) gv_int (by decide) (fun _ => .int _)) (by omega) hmost).at fun vl H3 s3 dl => ?_⟩
    cases dl
    refine ⟨a, c, r, 4700 - 1000 * k, most, rfl, (D2.same s3).less (by omega), m1, m2, fun H4 vp pan b4 D4 dp hg hml => ?_⟩
    obtain ⟨p, rfl, hp⟩ := panT_dp dp
    have few := hg.few
    have hlp : (pan.map dInts).length = pan.length := List.length_map _
    refine ⟨.ref p, rfl, .ref a, rfl, (gv_lenT (K := K) (gv_var (i := 3) rfl hp.dp)).at fun vn H5 s5 dn => ?_⟩
    cases dn
    rw [hlp]
    refine ⟨a, c, r, 4600 - 1000 * k, pan.length, rfl, (D4.same s5).less (by omega), few, fun H6 l st b6 D6 el hst => ⟨by show 2 ≤ sizeLine; decide, fun T nT => ⟨by show 1 ≤ sizeLine; decide, fun S nS => ?_⟩⟩⟩
    have hp6 := (hp.same s5).kp (tup_but3K (D4.same s5) b6)
    have sT := same_new (o := .tup [.ref p, .ref l]) nT
    have sS := same_new (o := .lst [.ref T]) nS
    have eT := sS _ _ (upd_same (a := T) (H := H6) (o := .tup [.ref p, .ref l]))
    have eS : (upd (upd H6 T (.tup [.ref p, .ref l])) S (.lst [.ref T])) S = some (.lst [.ref T]) := upd_same
    have nSa := (D6.same sT).fresh nS
    have s67 := sT.trans sS
    generalize upd (upd H6 T (.tup [.ref p, .ref l])) S (.lst [.ref T]) = H7 at s67 eT eS ⊢
    clear sT sS nT nS
    have hp7 := hp6.same s67
    have el7 := s67 _ _ el
    have D7 := D6.same s67
    refine ⟨.ref a, rfl, a, c, r, 4590 - 1000 * k, 2, rfl, D7.less (by omega), by decide, by decide, fun H8 kd b8 D8 k0 k1 => ?_⟩
    have k8 := tup_but3K D7 b8
    have hp8 := hp7.kp k8
    have el8 := k8.1 _ _ el7
    have eT8 := k8.1 _ _ eT
    have eS8 := b8 _ _ nSa.1 nSa.2.1 eS
    refine ⟨.ref p, rfl, .ref S, rfl, S, _, 0, .ref T, rfl, rfl, .inl (.inl eS8), rfl, T, _, 1, .ref l, rfl, rfl, .inl (.inl eT8), rfl, p, l, kd, pan, st, rfl, hp8, hg, el8, hst, fun H9 t s9 nt hA => ?_⟩
    refine ⟨.ref t, rfl, fun s1 dx1 ns1 ndx1 ne1 => ⟨s1, t, dx1, rfl, upd_same, fun H10 b10 S10 => ⟨rfl, .ref t, rfl, fun s2 dx2 ns2 ndx2 ne2 => ⟨s2, t, dx2, rfl, upd_same, fun H11 b11 S11 => ⟨rfl, by show 2 ≤ sizeLine; decide, fun B nB => ?_⟩⟩⟩⟩⟩
    have s10 := make_same ns1 ndx1 b10
    have s11 := make_same ns2 ndx2 b11
    have sB := same_new (o := .lst [.ref s1, .ref s2]) nB
    have s911 := (s9.trans s10).trans s11
    have nBa := (D8.same s911).fresh nB
    have eB : (upd H11 B (.lst [.ref s1, .ref s2])) B = some (.lst [.ref s1, .ref s2]) := upd_same
    have s912 := s911.trans sB
    have I12 : I64 K CD CG CS (upd H11 B (.lst [.ref s1, .ref s2])) a c r (4580 - 1000 * k) B s1 s2 t S [.ref T] (stD pan st []) pan st [] := by
      refine ⟨(D8.same s912).less (by omega), eB, ⟨nBa.1, nBa.2.1⟩, (S10.same s11).same sB, S11.same sB, ((hA.same s10).same s11).same sB, s912 _ _ eS8, ?_, stD_lf _ _ _, ⟨nSa.1, nSa.2.1⟩⟩
      refine .cons ?_ .nil
      rw [dNow_eq]
      exact .tup (.inl (.inl (s912 _ _ eT8))) (.cons (hp8.same s912).dp (.cons (dp_ints (.inl (.inl (s912 _ _ el8)))) .nil))
    generalize upd H11 B (.lst [.ref s1, .ref s2]) = H12 at I12 ⊢
    clear s10 s11 sB s911 s912 nBa eB S10 S11 hA b10 b11 ns1 ndx1 ne1 ns2 ndx2 ne2 nB nt s9 eS8 eT8 el8 hp8 k8 D8 b8 D7 el7 hp7 eT eS
    refine ⟨.ref a, rfl, a, c, r, 4570 - 1000 * k, 11, rfl, I12.dk.less (by omega), by decide, by decide, fun H13 r0 b13 D13 r0a r0b => ⟨r0, rfl, by omega, by omega, ?_⟩⟩
    have I13 := I12.but b13 D13
    obtain ⟨n, hn, hn2⟩ : ∃ n : Nat, r0.toNat = n ∧ n ≤ 10 := ⟨_, rfl, by omega⟩
    rw [hn]
    refine for_range (n := n) (fun j σ H' => ∃ (S : Addr) (vs : List V) (pan : List (List Int)) (st : List Int) (past : List (PyData × List (List Int) × List Int)) (x7 x8 : Option V), I64 K CD CG CS H' a c r (4570 - 1000 * k - 20 * j) B s1 s2 t S vs (stD pan st past) pan st past ∧ past.length ≤ j ∧ σ = [some (.ref sc), some (.ref a), some (.int (0 + (k : Int))), some (.ref p), some (.ref S), some (.ref t), some (.ref B), x7, x8, x9])
      ⟨S, _, pan, st, [], _, _, I13, Nat.le_refl _, rfl⟩ (fun j σ HA hj hP => ?_) (fun σ HA hP => ?_)
    · obtain ⟨S, vs, pan, st, past, x7, x8, IA, pl, rfl⟩ := hP
      have fewp : past.length ≤ 1000 := by omega
      have gS : ∀ {σ : L2.St} {H' : Hp}, Same HA H' → σ[4]? = some (some (.ref S)) → Gv K (tVar 4) σ H' (.list (stD pan st past)) := fun s h => gv_var h (IA.same s).dS
      refine gs_no (gvt_or (gvt_not (b := true) (gvt_b (K := K) (gv_asked (i := 6) IA rfl (gv_lastD rfl (gS (Same.refl _) rfl))))) (fun Hb sb _ => gvt_test (K := K) (gv_neI (any_len (i := 5) rfl (IA.ds.same sb) fewp) (gv_sub (gv_lenL (gS sb rfl)) gv_int)))) ?_ fun HB sb => ?_
      · rw [stD_len]; simp
      have IB := IA.same sb
      refine ifS_split (fun H' => I64 K CD CG CS H' a c r (4570 - 1000 * k - 20 * j - 2) B s1 s2 t S vs (stD pan st past) pan st past) (fun HC IC => ?_) (fun els => ?_)
      · -- one more edit
        refine ⟨.ref a, rfl, (gv_lastD (K := K) rfl (gv_var (i := 4) rfl IC.dS)).at fun v H2 s2' dv => ⟨a, c, r, 4570 - 1000 * k - 20 * j - 13, v, pan, st, rfl, (IC.dk.same s2').less (by omega), dv, IC.ds.good, fun H3 u d pan' f b3 D3 du hE => ?_⟩⟩
        have I3 := (IC.same s2').but b3 D3
        refine ⟨.ref t, rfl, u, rfl, t, pan, pan', st, past, u, d, f, rfl, I3.ds, by omega, du, hE, fun H4 k4 hN => ?_⟩
        have I4 := I3.desk k4 hN
        obtain ⟨C', dx', fs', e', _⟩ := I3.ds.ins
        have du4 := du.kp (k4.kp e') hE.lf
        refine (gn_cat (K := K) (gl_var (i := 4) rfl I4.ss I4.dv) (gl_lst (gva_cons (gv_After (gva_cons (gv_lastD rfl (gv_var (i := 4) rfl I4.dS)) (gva_cons (gv_var (i := 8) rfl du4) gva_nil)) ⟨IC.ds.good, IC.ds.asc, hE⟩) gva_nil)) ?_).at fun S' ws H5 s5 nS' eS' dS' => ?_
        · rw [stD_len]; show _ + 1 ≤ _; omega
        rw [← stD_snoc pan pan' st (f st) past d] at dS'
        have nf := I4.dk.fresh nS'
        exact ⟨S', ws, pan', f st, _, _, _, ((I4.same s5).set eS' dS' (stD_lf _ _ _) ⟨nf.1, nf.2.1⟩).less (by omega), by rw [List.length_append]; show _ + 1 ≤ _; omega, rfl⟩
      · -- undone, or one more edit
        refine (gvt_test (K := K) (gv_gt (gv_lenL (gv_var (i := 4) rfl IB.dS)) gv_int)).at fun HC sc' => ?_
        have IC := IB.same sc'
        rw [stD_len]
        rcases List.eq_nil_or_concat past with rfl | ⟨past', y, rfl⟩
        · rw [decide_eq_false (by simp)]
          exact iteF (iteF (els HC (IC.less (by omega))))
        rw [List.concat_eq_append] at *
        rw [decide_eq_true (by rw [List.length_append]; simp; omega)]
        refine iteT ⟨.ref a, rfl, a, c, r, 4570 - 1000 * k - 20 * j - 2, 4, rfl, IC.dk.less (by omega), by decide, by decide, fun HD z bD DD z0 z4 => ⟨rfl, _, rfl, ite2 (fun _ => ?_) (fun _ => els HD (IC.but bD DD))⟩⟩
        have ID := IC.but bD DD
        refine any_undo (i := 5) rfl ID.ds fun HE kE hN => ?_
        have IE := ID.desk kE hN
        obtain ⟨us, u, rfl, dus, du⟩ := dpAll_snoc (A := (past' ++ [y]).map (fun x => dNow x.2.1 x.2.2)) IE.dv
        refine ⟨.ref S, rfl, 1, rfl, -1, rfl, S, _, rfl, .inl (.inl IE.ss), fun S' nS' => ?_⟩
        rw [K64D.cut_last]
        have sS := same_new (o := .lst us) nS'
        have nf := IE.dk.fresh nS'
        have e9 : (past' ++ [y]).map (fun x => dNow x.2.1 x.2.2) = stD y.2.1 y.2.2 past' := by rw [List.map_append]; rfl
        rw [e9] at dus
        refine ⟨S', us, y.2.1, y.2.2, past', _, _, ((IE.same sS).set upd_same (dus.sm sS) (stD_lf _ _ _) ⟨nf.1, nf.2.1⟩).less (by omega), ?_, rfl⟩
        rw [List.length_append] at pl
        have : ([y] : List (PyData × List (List Int) × List Int)).length = 1 := rfl
        omega
    obtain ⟨S, vs, pan0, st0, past0, x7, x8, IA, pl, rfl⟩ := hP
    generalize hys : stD pan0 st0 past0 = ys at IA
    have yl : ys.length = past0.length + 1 := by rw [← hys, stD_len]
    have vl : vs.length = past0.length + 1 := by rw [IA.dv.length, yl]
    refine ⟨.ref S, rfl, S, vs, rfl, .inl (.inl IA.ss), fun L nL => ⟨L, rfl, ⟨_, .inl (.inl upd_same)⟩, ?_⟩⟩
    have sL := same_new (o := .lst vs.reverse) nL
    have eL : (upd HA L (.lst vs.reverse)) L = some (.lst vs.reverse) := upd_same
    have IL := IA.same sL
    generalize upd HA L (.lst vs.reverse) = HL at sL eL IL ⊢
    refine for_list (K := K) (a := L) (xs := vs.reverse) (fun i σ H' => H' L = some (.lst vs.reverse) ∧ ∃ (pan : List (List Int)) (st : List Int) (past : List (PyData × List (List Int) × List Int)) (x9 : Option V), I64 K CD CG CS H' a c r (4370 - 1000 * k) B s1 s2 t S vs ys pan st past ∧ stD pan st past = ys.take (max (past0.length + 1 - i) 1) ∧ past.length ≤ 10 ∧ σ = [some (.ref sc), some (.ref a), some (.int (0 + (k : Int))), some (.ref p), some (.ref S), some (.ref t), some (.ref B), x7, x8, x9])
      ⟨eL, pan0, st0, past0, x9, IL.less (by omega), by rw [hys, show max (past0.length + 1 - 0) 1 = ys.length by omega, List.take_length], by omega, rfl⟩ (fun i σ H3 _ hP => .inl (.inl hP.1)) (fun i x σ H3 hx hP => ?_) (fun σ H3 hP => ?_)
    · obtain ⟨eL3, pan, st, past, x9, I3, hst', pl3, rfl⟩ := hP
      have hi : i < past0.length + 1 := by
        have := (List.getElem?_eq_some_iff.mp hx).1
        rw [List.length_reverse, vl] at this; exact this
      have hm : max (past0.length + 1 - i) 1 = past0.length + 1 - i := by omega
      rw [hm] at hst'
      have pl4 : past.length = past0.length - i := by
        have := congrArg List.length hst'
        rw [stD_len, List.length_take, yl] at this; omega
      have dx : Dp K H3 x (dNow pan st) := by
        have e1 : vs[past.length]? = some x := by
          rw [← hx, List.getElem?_reverse (by omega)]
          congr 1; omega
        have e3 : (stD pan st past)[past.length]? = some (dNow pan st) := by
          unfold stD
          rw [List.getElem?_append_right (by rw [List.length_map]; exact Nat.le_refl _), List.length_map, Nat.sub_self]; rfl
        rw [hst', List.getElem?_take, if_pos (by omega)] at e3
        obtain ⟨x', e2, hd⟩ := I3.dv.get _ _ e3
        rw [e1] at e2
        cases e2
        exact hd
      refine gs_no (gvt_not (b := true) (gvt_b (K := K) (gv_asked (i := 6) I3 rfl (gv_var (i := 9) rfl dx)))) rfl fun H4 s4 => ?_
      have I4 := I3.same s4
      have eL4 := s4 _ _ eL3
      refine (gvt_test (K := K) (gv_gt (any_len (i := 5) rfl I4.ds (by omega)) gv_int)).at fun H5 s5 => ?_
      have I5 := I4.same s5
      have eL5 := s5 _ _ eL4
      rcases List.eq_nil_or_concat past with rfl | ⟨past', y, rfl⟩
      · rw [decide_eq_false (by simp)]
        refine iteF (iteF (next_of ⟨eL5, pan, st, [], _, I5, ?_, Nat.zero_le _, rfl⟩))
        rw [hst']
        have : (0 : Nat) = past0.length - i := pl4
        congr 1; omega
      · rw [List.concat_eq_append] at *
        rw [List.length_append] at pl3 pl4
        have one : ([y] : List (PyData × List (List Int) × List Int)).length = 1 := rfl
        rw [decide_eq_true (by rw [List.length_append]; simp)]
        obtain ⟨dx2, e2⟩ := I5.h2
        obtain ⟨C', dx', fs', e', _⟩ := I5.ds.ins
        refine iteT ⟨.ref B, rfl, B, _, 1, .ref s2, rfl, rfl, .inl (.inl I5.lb), rfl, s2, dx2, _, rfl, e2, rfl, s2, t, "undo", pan, st, _, rfl, ⟨dx2, e2⟩, I5.ds, .inr ⟨rfl, past', y, rfl, by omega, fun H6 k6 hN => ?_⟩⟩
        have I6 := I5.desk k6 hN
        have eL6 := k6 _ _ (lst_ne eL5 e') eL5
        have fw : past'.length ≤ 1000 := by omega
        have n3 := K64D.len_num past'.length fw
        refine (gv_addS (K := K) gv_str (gv_strI (any_len (i := 5) rfl I6.ds fw) fw) (by have : ("ok " : Str).length = 3 := (by decide +kernel); omega) rfl).at fun v H7 s7 dv => ?_
        cases dv
        refine ⟨rfl, _, rfl, ?_⟩
        rw [decide_eq_true (show V.str (okT past'.length) = V.str (("ok " : Str) ++ Str.ofString (toString (past'.length : Int))) from rfl)]
        refine iteF (next_of ⟨s7 _ _ eL6, y.2.1, y.2.2, past', _, I6.same s7, ?_, by omega, rfl⟩)
        rw [← stD_drop pan st, hst', List.dropLast_eq_take, List.length_take, List.take_take]
        congr 1; omega
    · obtain ⟨eL3, pan, st, past, x9, I3, hst', pl3, rfl⟩ := hP
      rw [List.length_reverse, vl, show max (past0.length + 1 - (past0.length + 1)) 1 = 1 by omega] at hst'
      have pe : past = [] := by
        have := congrArg List.length hst'
        rw [stD_len, List.length_take, yl] at this
        exact List.length_eq_zero_iff.mp (by omega)
      subst pe
      have e0 : ys[0]? = some (dNow pan st) := by
        have h0 : (stD pan st [])[0]? = some (dNow pan st) := rfl
        rw [hst', List.getElem?_take, if_pos (by decide)] at h0
        exact h0
      refine gs_noN (gvt_or (gvt_test (K := K) (gv_neI (any_len (i := 5) rfl I3.ds (Nat.zero_le _)) gv_int)) (fun Hb sb _ => gvt_not (b := true) (gvt_b (gv_asked (i := 6) (I3.same sb) rfl (gv_ixL (j := 0) (gv_var (i := 4) rfl (I3.same sb).dS) gv_int rfl e0))))) (by simp) fun H4 s4 => ?_
      exact ⟨(I3.same s4).dk.less (by omega), _, _, _, _, _, _, _, _, rfl⟩
end
end K64
namespace K64
open PySem PySem.Spec PyProof.Rows L2 Pr
theorem all_mk {l : PySem.W.OpenLaw} {w : World} {K : PySem.W.Frag} {h : Heap} {mg : Str → Option Value} {fa f1 f2 f3 f4 f5 f6 f7 f8 f9 f10 f11 f12 f13 f14 f15 f16 f17 f18 f19 f20 f21 f22 f23 f24 f25 f26 f27 f28 f29 f30 f31 f32 f33 f34 f35 f36 f37 f38 f39 : Addr} (X : K.In h) (G : h.Ns mainGlobals mg) (hfa : mg "law" = some (.ref fa))
    {od1 an1 od2 an2 od3 an3 od4 an4 od5 an5 od6 an6 od7 an7 od8 an8 od9 an9 od10 an10 od11 an11 od12 an12 od13 an13 od14 an14 od15 an15 od16 an16 od17 an17 od18 an18 od19 an19 od20 an20 od21 an21 od22 an22 od23 an23 od24 an24 od25 an25 od26 an26 od27 an27 od28 an28 od29 an29 od30 an30 od31 an31 od32 an32 od33 an33 od34 an34 od35 an35 od36 an36 od37 an37 od38 an38 od39 an39 : Option Addr} {sl1 sl2 sl3 sl4 sl5 sl6 sl7 sl8 sl9 sl10 sl11 sl12 sl13 sl14 sl15 sl16 sl17 sl18 sl19 sl20 sl21 sl22 sl23 sl24 sl25 sl26 sl27 sl28 sl29 sl30 sl31 sl32 sl33 sl34 sl35 sl36 sl37 sl38 sl39 : Array (Option Value)} {oc1 kV1 dc1 pm1 cd1 ct1 oc2 kV2 dc2 pm2 cd2 ct2 oc3 kV3 dc3 pm3 cd3 ct3 oc4 kV4 dc4 pm4 cd4 ct4 oc5 kV5 dc5 pm5 cd5 ct5 oc6 kV6 dc6 pm6 cd6 ct6 oc7 kV7 dc7 pm7 cd7 ct7 oc8 kV8 dc8 pm8 cd8 ct8 oc9 kV9 dc9 pm9 cd9 ct9 oc10 kV10 dc10 pm10 cd10 ct10 oc11 kV11 dc11 pm11 cd11 ct11 oc12 kV12 dc12 pm12 cd12 ct12 oc13 kV13 dc13 pm13 cd13 ct13 oc14 kV14 dc14 pm14 cd14 ct14 oc15 kV15 dc15 pm15 cd15 ct15 oc16 kV16 dc16 pm16 cd16 ct16 oc17 kV17 dc17 pm17 cd17 ct17 oc18 kV18 dc18 pm18 cd18 ct18 oc19 kV19 dc19 pm19 cd19 ct19 oc20 kV20 dc20 pm20 cd20 ct20 oc21 kV21 dc21 pm21 cd21 ct21 oc22 kV22 dc22 pm22 cd22 ct22 oc23 kV23 dc23 pm23 cd23 ct23 oc24 kV24 dc24 pm24 cd24 ct24 oc25 kV25 dc25 pm25 cd25 ct25 oc26 kV26 dc26 pm26 cd26 ct26 oc27 kV27 dc27 pm27 cd27 ct27 oc28 kV28 dc28 pm28 cd28 ct28 oc29 kV29 dc29 pm29 cd29 ct29 oc30 kV30 dc30 pm30 cd30 ct30 oc31 kV31 dc31 pm31 cd31 ct31 oc32 kV32 dc32 pm32 cd32 ct32 oc33 kV33 dc33 pm33 cd33 ct33 oc34 kV34 dc34 pm34 cd34 ct34 oc35 kV35 dc35 pm35 cd35 ct35 oc36 kV36 dc36 pm36 cd36 ct36 oc37 kV37 dc37 pm37 cd37 ct37 oc38 kV38 dc38 pm38 cd38 ct38 oc39 kV39 dc39 pm39 cd39 ct39 : Value}
    (a1 : PySem.W.nsIn K mainGlobals "with_list" = some (some (.ref f1))) (l1 : K.lookup f1 = some ⟨oc1, od1, .func (PySem.W.fnOf "with_list" "with_list" (defArgs sWl) (defBody sWl) (defScope sWl) .none kV1 dc1 pm1 an1 cd1 ct1), sl1⟩) (c1 : PySem.W.codeIn K cd1 "with_list" = true) (k1 : PySem.W.keepIn K (.ref f1) = true)
    (a2 : PySem.W.nsIn K mainGlobals "linked" = some (some (.ref f2))) (l2 : K.lookup f2 = some ⟨oc2, od2, .func (PySem.W.fnOf "linked" "linked" (defArgs sLi) (defBody sLi) (defScope sLi) .none kV2 dc2 pm2 an2 cd2 ct2), sl2⟩) (c2 : PySem.W.codeIn K cd2 "linked" = true) (k2 : PySem.W.keepIn K (.ref f2) = true)
    (a3 : PySem.W.nsIn K mainGlobals "unlinked" = some (some (.ref f3))) (l3 : K.lookup f3 = some ⟨oc3, od3, .func (PySem.W.fnOf "unlinked" "unlinked" (defArgs sUn) (defBody sUn) (defScope sUn) .none kV3 dc3 pm3 an3 cd3 ct3), sl3⟩) (c3 : PySem.W.codeIn K cd3 "unlinked" = true) (k3 : PySem.W.keepIn K (.ref f3) = true)
    (a4 : PySem.W.nsIn K mainGlobals "no_effect" = some (some (.ref f4))) (l4 : K.lookup f4 = some ⟨oc4, od4, .func (PySem.W.fnOf "no_effect" "no_effect" (defArgs sNo) (defBody sNo) (defScope sNo) .none kV4 dc4 pm4 an4 cd4 ct4), sl4⟩) (c4 : PySem.W.codeIn K cd4 "no_effect" = true) (k4 : PySem.W.keepIn K (.ref f4) = true)
    (a5 : PySem.W.nsIn K mainGlobals "press_effect" = some (some (.ref f5))) (l5 : K.lookup f5 = some ⟨oc5, od5, .func (PySem.W.fnOf "press_effect" "press_effect" (defArgs sPressE) (defBody sPressE) (defScope sPressE) .none kV5 dc5 pm5 an5 cd5 ct5), sl5⟩) (c5 : PySem.W.codeIn K cd5 "press_effect" = true) (k5 : PySem.W.keepIn K (.ref f5) = true)
    (a6 : PySem.W.nsIn K mainGlobals "joined_effect" = some (some (.ref f6))) (l6 : K.lookup f6 = some ⟨oc6, od6, .func (PySem.W.fnOf "joined_effect" "joined_effect" (defArgs sJoin) (defBody sJoin) (defScope sJoin) .none kV6 dc6 pm6 an6 cd6 ct6), sl6⟩) (c6 : PySem.W.codeIn K cd6 "joined_effect" = true) (k6 : PySem.W.keepIn K (.ref f6) = true)
    (a7 : PySem.W.nsIn K mainGlobals "effect_with_press" = some (some (.ref f7))) (l7 : K.lookup f7 = some ⟨oc7, od7, .func (PySem.W.fnOf "effect_with_press" "effect_with_press" (defArgs sWith) (defBody sWith) (defScope sWith) .none kV7 dc7 pm7 an7 cd7 ct7), sl7⟩) (c7 : PySem.W.codeIn K cd7 "effect_with_press" = true) (k7 : PySem.W.keepIn K (.ref f7) = true)
    (a8 : PySem.W.nsIn K mainGlobals "is_button" = some (some (.ref f8))) (l8 : K.lookup f8 = some ⟨oc8, od8, .func (PySem.W.fnOf "is_button" "is_button" (defArgs sBtn) (defBody sBtn) (defScope sBtn) .none kV8 dc8 pm8 an8 cd8 ct8), sl8⟩) (c8 : PySem.W.codeIn K cd8 "is_button" = true) (k8 : PySem.W.keepIn K (.ref f8) = true)
    (a9 : PySem.W.nsIn K mainGlobals "is_button_tuple" = some (some (.ref f9))) (l9 : K.lookup f9 = some ⟨oc9, od9, .func (PySem.W.fnOf "is_button_tuple" "is_button_tuple" (defArgs sBtnT) (defBody sBtnT) (defScope sBtnT) .none kV9 dc9 pm9 an9 cd9 ct9), sl9⟩) (c9 : PySem.W.codeIn K cd9 "is_button_tuple" = true) (k9 : PySem.W.keepIn K (.ref f9) = true)
    (a10 : PySem.W.nsIn K mainGlobals "panel_error" = some (some (.ref f10))) (l10 : K.lookup f10 = some ⟨oc10, od10, .func (PySem.W.fnOf "panel_error" "panel_error" (defArgs sPErr) (defBody sPErr) (defScope sPErr) .none kV10 dc10 pm10 an10 cd10 ct10), sl10⟩) (c10 : PySem.W.codeIn K cd10 "panel_error" = true) (k10 : PySem.W.keepIn K (.ref f10) = true)
    (a11 : PySem.W.nsIn K mainGlobals "press_button" = some (some (.ref f11))) (l11 : K.lookup f11 = some ⟨oc11, od11, .func (PySem.W.fnOf "press_button" "press_button" (defArgs sPress) (defBody sPress) (defScope sPress) .none kV11 dc11 pm11 an11 cd11 ct11), sl11⟩) (c11 : PySem.W.codeIn K cd11 "press_button" = true) (k11 : PySem.W.keepIn K (.ref f11) = true)
    (a12 : PySem.W.nsIn K mainGlobals "releases_any" = some (some (.ref f12))) (l12 : K.lookup f12 = some ⟨oc12, od12, .func (PySem.W.fnOf "releases_any" "releases_any" (defArgs sAny) (defBody sAny) (defScope sAny) .none kV12 dc12 pm12 an12 cd12 ct12), sl12⟩) (c12 : PySem.W.codeIn K cd12 "releases_any" = true) (k12 : PySem.W.keepIn K (.ref f12) = true)
    (a13 : PySem.W.nsIn K mainGlobals "held_buttons" = some (some (.ref f13))) (l13 : K.lookup f13 = some ⟨oc13, od13, .func (PySem.W.fnOf "held_buttons" "held_buttons" (defArgs sHeld) (defBody sHeld) (defScope sHeld) .none kV13 dc13 pm13 an13 cd13 ct13), sl13⟩) (c13 : PySem.W.codeIn K cd13 "held_buttons" = true) (k13 : PySem.W.keepIn K (.ref f13) = true)
    (a14 : PySem.W.nsIn K mainGlobals "check_panel" = some (some (.ref f14))) (l14 : K.lookup f14 = some ⟨oc14, od14, .func (PySem.W.fnOf "check_panel" "check_panel" (defArgs sChkP) (defBody sChkP) (defScope sChkP) .none kV14 dc14 pm14 an14 cd14 ct14), sl14⟩) (c14 : PySem.W.codeIn K cd14 "check_panel" = true) (k14 : PySem.W.keepIn K (.ref f14) = true)
    (a15 : PySem.W.nsIn K mainGlobals "check_state" = some (some (.ref f15))) (l15 : K.lookup f15 = some ⟨oc15, od15, .func (PySem.W.fnOf "check_state" "check_state" (defArgs sChkS) (defBody sChkS) (defScope sChkS) .none kV15 dc15 pm15 an15 cd15 ct15), sl15⟩) (c15 : PySem.W.codeIn K cd15 "check_state" = true) (k15 : PySem.W.keepIn K (.ref f15) = true)
    (a16 : PySem.W.nsIn K mainGlobals "check_button" = some (some (.ref f16))) (l16 : K.lookup f16 = some ⟨oc16, od16, .func (PySem.W.fnOf "check_button" "check_button" (defArgs sChkB) (defBody sChkB) (defScope sChkB) .none kV16 dc16 pm16 an16 cd16 ct16), sl16⟩) (c16 : PySem.W.codeIn K cd16 "check_button" = true) (k16 : PySem.W.keepIn K (.ref f16) = true)
    (a17 : PySem.W.nsIn K mainGlobals "known_after" = some (some (.ref f17))) (l17 : K.lookup f17 = some ⟨oc17, od17, .func (PySem.W.fnOf "known_after" "known_after" (defArgs sKAft) (defBody sKAft) (defScope sKAft) .none kV17 dc17 pm17 an17 cd17 ct17), sl17⟩) (c17 : PySem.W.codeIn K cd17 "known_after" = true) (k17 : PySem.W.keepIn K (.ref f17) = true)
    (a18 : PySem.W.nsIn K mainGlobals "list_text" = some (some (.ref f18))) (l18 : K.lookup f18 = some ⟨oc18, od18, .func (PySem.W.fnOf "list_text" "list_text" (defArgs sListT) (defBody sListT) (defScope sListT) .none kV18 dc18 pm18 an18 cd18 ct18), sl18⟩) (c18 : PySem.W.codeIn K cd18 "list_text" = true) (k18 : PySem.W.keepIn K (.ref f18) = true)
    (a19 : PySem.W.nsIn K mainGlobals "panel_text" = some (some (.ref f19))) (l19 : K.lookup f19 = some ⟨oc19, od19, .func (PySem.W.fnOf "panel_text" "panel_text" (defArgs sPanT) (defBody sPanT) (defScope sPanT) .none kV19 dc19 pm19 an19 cd19 ct19), sl19⟩) (c19 : PySem.W.codeIn K cd19 "panel_text" = true) (k19 : PySem.W.keepIn K (.ref f19) = true)
    (a20 : PySem.W.nsIn K mainGlobals "row_text" = some (some (.ref f20))) (l20 : K.lookup f20 = some ⟨oc20, od20, .func (PySem.W.fnOf "row_text" "row_text" (defArgs sRowT) (defBody sRowT) (defScope sRowT) .none kV20 dc20 pm20 an20 cd20 ct20), sl20⟩) (c20 : PySem.W.codeIn K cd20 "row_text" = true) (k20 : PySem.W.keepIn K (.ref f20) = true)
    (a21 : PySem.W.nsIn K mainGlobals "is_change" = some (some (.ref f21))) (l21 : K.lookup f21 = some ⟨oc21, od21, .func (PySem.W.fnOf "is_change" "is_change" (defArgs sIsCh) (defBody sIsCh) (defScope sIsCh) .none kV21 dc21 pm21 an21 cd21 ct21), sl21⟩) (c21 : PySem.W.codeIn K cd21 "is_change" = true) (k21 : PySem.W.keepIn K (.ref f21) = true)
    (a22 : PySem.W.nsIn K mainGlobals "change" = some (some (.ref f22))) (l22 : K.lookup f22 = some ⟨oc22, od22, .func (PySem.W.fnOf "change" "change" (defArgs sChng) (defBody sChng) (defScope sChng) .none kV22 dc22 pm22 an22 cd22 ct22), sl22⟩) (c22 : PySem.W.codeIn K cd22 "change" = true) (k22 : PySem.W.keepIn K (.ref f22) = true)
    (a23 : PySem.W.nsIn K mainGlobals "change_answer" = some (some (.ref f23))) (l23 : K.lookup f23 = some ⟨oc23, od23, .func (PySem.W.fnOf "change_answer" "change_answer" (defArgs sChAns) (defBody sChAns) (defScope sChAns) .none kV23 dc23 pm23 an23 cd23 ct23), sl23⟩) (c23 : PySem.W.codeIn K cd23 "change_answer" = true) (k23 : PySem.W.keepIn K (.ref f23) = true)
    (a24 : PySem.W.nsIn K mainGlobals "query_answer" = some (some (.ref f24))) (l24 : K.lookup f24 = some ⟨oc24, od24, .func (PySem.W.fnOf "query_answer" "query_answer" (defArgs sQAns) (defBody sQAns) (defScope sQAns) .none kV24 dc24 pm24 an24 cd24 ct24), sl24⟩) (c24 : PySem.W.codeIn K cd24 "query_answer" = true) (k24 : PySem.W.keepIn K (.ref f24) = true)
    (a25 : PySem.W.nsIn K mainGlobals "_law_draws" = some (some (.ref f25))) (l25 : K.lookup f25 = some ⟨oc25, od25, .func (PySem.W.fnOf "_law_draws" "_law_draws" (defArgs sDraws) (defBody sDraws) (defScope sDraws) .none kV25 dc25 pm25 an25 cd25 ct25), sl25⟩) (c25 : PySem.W.codeIn K cd25 "_law_draws" = true) (k25 : PySem.W.keepIn K (.ref f25) = true)
    (a26 : PySem.W.nsIn K mainGlobals "_law_next" = some (some (.ref f26))) (l26 : K.lookup f26 = some ⟨oc26, od26, .func (PySem.W.fnOf "_law_next" "_law_next" (defArgs sNext) (defBody sNext) (defScope sNext) .none kV26 dc26 pm26 an26 cd26 ct26), sl26⟩) (c26 : PySem.W.codeIn K cd26 "_law_next" = true) (k26 : PySem.W.keepIn K (.ref f26) = true)
    (a27 : PySem.W.nsIn K mainGlobals "_law_panel" = some (some (.ref f27))) (l27 : K.lookup f27 = some ⟨oc27, od27, .func (PySem.W.fnOf "_law_panel" "_law_panel" (defArgs sPanel) (defBody sPanel) (defScope sPanel) .none kV27 dc27 pm27 an27 cd27 ct27), sl27⟩) (c27 : PySem.W.codeIn K cd27 "_law_panel" = true) (k27 : PySem.W.keepIn K (.ref f27) = true)
    (a28 : PySem.W.nsIn K mainGlobals "_law_latched" = some (some (.ref f28))) (l28 : K.lookup f28 = some ⟨oc28, od28, .func (PySem.W.fnOf "_law_latched" "_law_latched" (defArgs sLatch) (defBody sLatch) (defScope sLatch) .none kV28 dc28 pm28 an28 cd28 ct28), sl28⟩) (c28 : PySem.W.codeIn K cd28 "_law_latched" = true) (k28 : PySem.W.keepIn K (.ref f28) = true)
    (a29 : PySem.W.nsIn K mainGlobals "_law_pressed" = some (some (.ref f29))) (l29 : K.lookup f29 = some ⟨oc29, od29, .func (PySem.W.fnOf "_law_pressed" "_law_pressed" (defArgs sPressed) (defBody sPressed) (defScope sPressed) .none kV29 dc29 pm29 an29 cd29 ct29), sl29⟩) (c29 : PySem.W.codeIn K cd29 "_law_pressed" = true) (k29 : PySem.W.keepIn K (.ref f29) = true)
    (a30 : PySem.W.nsIn K mainGlobals "_law_changed" = some (some (.ref f30))) (l30 : K.lookup f30 = some ⟨oc30, od30, .func (PySem.W.fnOf "_law_changed" "_law_changed" (defArgs sChanged) (defBody sChanged) (defScope sChanged) .none kV30 dc30 pm30 an30 cd30 ct30), sl30⟩) (c30 : PySem.W.codeIn K cd30 "_law_changed" = true) (k30 : PySem.W.keepIn K (.ref f30) = true)
    (a31 : PySem.W.nsIn K mainGlobals "_law_after" = some (some (.ref f31))) (l31 : K.lookup f31 = some ⟨oc31, od31, .func (PySem.W.fnOf "_law_after" "_law_after" (defArgs sAfter) (defBody sAfter) (defScope sAfter) .none kV31 dc31 pm31 an31 cd31 ct31), sl31⟩) (c31 : PySem.W.codeIn K cd31 "_law_after" = true) (k31 : PySem.W.keepIn K (.ref f31) = true)
    (a32 : PySem.W.nsIn K mainGlobals "_law_edit" = some (some (.ref f32))) (l32 : K.lookup f32 = some ⟨oc32, od32, .func (PySem.W.fnOf "_law_edit" "_law_edit" (defArgs sEdit) (defBody sEdit) (defScope sEdit) .none kV32 dc32 pm32 an32 cd32 ct32), sl32⟩) (c32 : PySem.W.codeIn K cd32 "_law_edit" = true) (k32 : PySem.W.keepIn K (.ref f32) = true)
    (a33 : PySem.W.nsIn K mainGlobals "_law_do" = some (some (.ref f33))) (l33 : K.lookup f33 = some ⟨oc33, od33, .func (PySem.W.fnOf "_law_do" "_law_do" (defArgs sDo) (defBody sDo) (defScope sDo) .none kV33 dc33 pm33 an33 cd33 ct33), sl33⟩) (c33 : PySem.W.codeIn K cd33 "_law_do" = true) (k33 : PySem.W.keepIn K (.ref f33) = true)
    (a34 : PySem.W.nsIn K mainGlobals "_law_held" = some (some (.ref f34))) (l34 : K.lookup f34 = some ⟨oc34, od34, .func (PySem.W.fnOf "_law_held" "_law_held" (defArgs sLHeld) (defBody sLHeld) (defScope sLHeld) .none kV34 dc34 pm34 an34 cd34 ct34), sl34⟩) (c34 : PySem.W.codeIn K cd34 "_law_held" = true) (k34 : PySem.W.keepIn K (.ref f34) = true)
    (a35 : PySem.W.nsIn K mainGlobals "_law_row_text" = some (some (.ref f35))) (l35 : K.lookup f35 = some ⟨oc35, od35, .func (PySem.W.fnOf "_law_row_text" "_law_row_text" (defArgs sLRowT) (defBody sLRowT) (defScope sLRowT) .none kV35 dc35 pm35 an35 cd35 ct35), sl35⟩) (c35 : PySem.W.codeIn K cd35 "_law_row_text" = true) (k35 : PySem.W.keepIn K (.ref f35) = true)
    (a36 : PySem.W.nsIn K mainGlobals "_law_panel_text" = some (some (.ref f36))) (l36 : K.lookup f36 = some ⟨oc36, od36, .func (PySem.W.fnOf "_law_panel_text" "_law_panel_text" (defArgs sLPanT) (defBody sLPanT) (defScope sLPanT) .none kV36 dc36 pm36 an36 cd36 ct36), sl36⟩) (c36 : PySem.W.codeIn K cd36 "_law_panel_text" = true) (k36 : PySem.W.keepIn K (.ref f36) = true)
    (a37 : PySem.W.nsIn K mainGlobals "_law_asked" = some (some (.ref f37))) (l37 : K.lookup f37 = some ⟨oc37, od37, .func (PySem.W.fnOf "_law_asked" "_law_asked" (defArgs sAsked) (defBody sAsked) (defScope sAsked) .none kV37 dc37 pm37 an37 cd37 ct37), sl37⟩) (c37 : PySem.W.codeIn K cd37 "_law_asked" = true) (k37 : PySem.W.keepIn K (.ref f37) = true)
    (a38 : PySem.W.nsIn K mainGlobals "_law_desk" = some (some (.ref f38))) (l38 : K.lookup f38 = some ⟨oc38, od38, .func (PySem.W.fnOf "_law_desk" "_law_desk" (defArgs sDesk) (defBody sDesk) (defScope sDesk) .none kV38 dc38 pm38 an38 cd38 ct38), sl38⟩) (c38 : PySem.W.codeIn K cd38 "_law_desk" = true) (k38 : PySem.W.keepIn K (.ref f38) = true)
    (a39 : PySem.W.nsIn K mainGlobals "law" = some (some (.ref f39))) (l39 : K.lookup f39 = some ⟨oc39, od39, .func (PySem.W.fnOf "law" "law" (defArgs sLaw) (defBody sLaw) (defScope sLaw) .none kV39 dc39 pm39 an39 cd39 ct39), sl39⟩) (c39 : PySem.W.codeIn K cd39 "law" = true) (k39 : PySem.W.keepIn K (.ref f39) = true)
    {tk_MAX_BUTTONS : Tok} (y_MAX_BUTTONS : PySem.W.nsIn K mainGlobals "MAX_BUTTONS" = some (some (.int 10 tk_MAX_BUTTONS)))
    {CU CD CG CGu CS dV : Addr} {tkD tkG tv1 : Tok} {fShow ccShow cdShow : Addr} {ocShow kVShow dcShow pmShow ctShow : Value} {odShow anShow : Option Addr} {slShow : Array (Option Value)} {occShow ocdShow : Value} {odcShow oddShow : Option Addr} {slcShow sldShow : Array (Option Value)} {vsShow : Array Value} {fileShow : Str} {tfShow : Tok} {fFree : Addr} {ocFree kVFree dcFree pmFree cdFree ctFree : Value} {odFree anFree : Option Addr} {slFree : Array (Option Value)} {fRoom : Addr} {ocRoom kVRoom dcRoom pmRoom cdRoom ctRoom : Value} {odRoom anRoom : Option Addr} {slRoom : Array (Option Value)} {fLink0 : Addr} {ocLink0 kVLink0 dcLink0 pmLink0 cdLink0 ctLink0 : Value} {odLink0 anLink0 : Option Addr} {slLink0 : Array (Option Value)} {fAdd : Addr} {ocAdd kVAdd dcAdd pmAdd cdAdd ctAdd : Value} {odAdd anAdd : Option Addr} {slAdd : Array (Option Value)} {fChg : Addr} {ocChg kVChg dcChg pmChg cdChg ctChg : Value} {odChg anChg : Option Addr} {slChg : Array (Option Value)} {fPressD : Addr} {ocPressD kVPressD dcPressD pmPressD cdPressD ctPressD : Value} {odPressD anPressD : Option Addr} {slPressD : Array (Option Value)} {fLink : Addr} {ocLink kVLink dcLink pmLink cdLink ctLink : Value} {odLink anLink : Option Addr} {slLink : Array (Option Value)} {fUnlink : Addr} {ocUnlink kVUnlink dcUnlink pmUnlink cdUnlink ctUnlink : Value} {odUnlink anUnlink : Option Addr} {slUnlink : Array (Option Value)} {fUndo : Addr} {ocUndo kVUndo dcUndo pmUndo cdUndo ctUndo : Value} {odUndo anUndo : Option Addr} {slUndo : Array (Option Value)} {fLenD : Addr} {ocLenD kVLenD dcLenD pmLenD cdLenD ctLenD : Value} {odLenD anLenD : Option Addr} {slLenD : Array (Option Value)} {fShowB : Addr} {ocShowB kVShowB dcShowB pmShowB cdShowB ctShowB : Value} {odShowB anShowB : Option Addr} {slShowB : Array (Option Value)} {fInitG : Addr} {ocInitG kVInitG dcInitG pmInitG cdInitG ctInitG : Value} {odInitG anInitG : Option Addr} {slInitG : Array (Option Value)} {fInitD : Addr} {ocInitD kVInitD dcInitD pmInitD cdInitD ctInitD : Value} {odInitD anInitD : Option Addr} {slInitD : Array (Option Value)} {fInitU : Addr} {ocInitU kVInitU dcInitU pmInitU cdInitU ctInitU : Value} {odInitU anInitU : Option Addr} {slInitU : Array (Option Value)} {fInitS : Addr} {ocInitS kVInitS dcInitS pmInitS cdInitS ctInitS : Value} {odInitS anInitS : Option Addr} {slInitS : Array (Option Value)} {fExec : Addr} {ocExec kVExec dcExec pmExec cdExec ctExec : Value} {odExec anExec : Option Addr} {slExec : Array (Option Value)} 
    (uND : PySem.W.nsIn K mainGlobals "Desk" = some (some (.ref CD)))
    (pgD : PySem.W.plainGet K CD Str.empty = true)
    (hdD : PySem.W.hasDictIn K CD = true)
    (poD : PySem.W.plainOver K CD = true)
    (saD : PySem.W.findIn K (.ref CD) "__setattr__" = some (some (.builtin "object.__setattr__")))
    (mkD : PySem.W.makesIn K CD = true)
    (kcD : PySem.W.keepIn K (.ref CD) = true)
    (nAD : PySem.W.findIn K (.ref CD) "past" = some none)
    (nWD : PySem.W.findIn K (.ref CD) "watched" = some none)
    (nPD : PySem.W.findIn K (.ref CD) "panel" = some none)
    (nLD : PySem.W.findIn K (.ref CD) "latched" = some none)
    (nHD : PySem.W.findIn K (.ref CD) "held" = some none)
    (cMD : PySem.W.findIn K (.ref CD) "MOST_EDITS" = some (some (.int 60 tkD)))
    (cGD : PySem.W.specialIn K (.int 60 tkD) "__get__" = some none)
    (cCD : PySem.W.copiedNames.contains ("MOST_EDITS" : Str) = false)
    (uNG : PySem.W.nsIn K mainGlobals "GuessDesk" = some (some (.ref CG)))
    (pgG : PySem.W.plainGet K CG Str.empty = true)
    (hdG : PySem.W.hasDictIn K CG = true)
    (poG : PySem.W.plainOver K CG = true)
    (saG : PySem.W.findIn K (.ref CG) "__setattr__" = some (some (.builtin "object.__setattr__")))
    (mkG : PySem.W.makesIn K CG = true)
    (kcG : PySem.W.keepIn K (.ref CG) = true)
    (nAG : PySem.W.findIn K (.ref CG) "past" = some none)
    (nWG : PySem.W.findIn K (.ref CG) "watched" = some none)
    (nPG : PySem.W.findIn K (.ref CG) "panel" = some none)
    (nLG : PySem.W.findIn K (.ref CG) "latched" = some none)
    (nHG : PySem.W.findIn K (.ref CG) "held" = some none)
    (nKG : PySem.W.findIn K (.ref CG) "known" = some none)
    (cMG : PySem.W.findIn K (.ref CG) "MOST_EDITS" = some (some (.int 60 tkG)))
    (cGG : PySem.W.specialIn K (.int 60 tkG) "__get__" = some none)
    (cCG : PySem.W.copiedNames.contains ("MOST_EDITS" : Str) = false)
    (uNS : PySem.W.nsIn K mainGlobals "Shell" = some (some (.ref CS)))
    (pgS : PySem.W.plainGet K CS Str.empty = true)
    (hdS : PySem.W.hasDictIn K CS = true)
    (poS : PySem.W.plainOver K CS = true)
    (saS : PySem.W.findIn K (.ref CS) "__setattr__" = some (some (.builtin "object.__setattr__")))
    (mkS : PySem.W.makesIn K CS = true)
    (kcS : PySem.W.keepIn K (.ref CS) = true)
    (nDS : PySem.W.findIn K (.ref CS) "desk" = some none)
    (uCGu : PySem.W.nsIn K mainGlobals "Guess" = some (some (.ref CGu)))
    (wShow : PySem.W.findIn K (.ref CG) "show" = some (some (.ref fShow)))
    (vfShow : PySem.W.isFn K (.ref fShow) = true)
    (lShow : K.lookup fShow = some ⟨ocShow, odShow, .func (PySem.W.fnX "show" "GuessDesk.show" (defArgs K64G.sShowG) (defBody K64G.sShowG) (defScope K64G.sShowG) [("__class__", ccShow)] .none kVShow dcShow pmShow anShow (.ref cdShow) ctShow), slShow⟩)
    (cShow : PySem.W.codeIn K (.ref cdShow) "GuessDesk.show" = true)
    (kShow : PySem.W.keepIn K (.ref fShow) = true)
    (lcShow : K.lookup ccShow = some ⟨occShow, odcShow, .cell (some (.ref CG)), slcShow⟩)
    (ldShow : K.lookup cdShow = some ⟨ocdShow, oddShow, .fields vsShow, sldShow⟩)
    (vsShow : vsShow[2]? = some (.str fileShow tfShow))
    (fiShow : ((l.prog.main.file : Str) == fileShow) = true)
    (tpShow : (l.prog.main.scope.names.lookup ("super" : Str)).isSome = false)
    (zsShow : PySem.W.nsIn K mainGlobals "super" = some none)
    (icShow : PySem.W.isClsIn K CG = true)
    (wFree : PySem.W.findIn K (.ref CD) "check_free" = some (some (.ref fFree)))
    (vfFree : PySem.W.isFn K (.ref fFree) = true)
    (lFree : K.lookup fFree = some ⟨ocFree, odFree, .func (PySem.W.fnOf "check_free" "Desk.check_free" (defArgs K64D.sFree) (defBody K64D.sFree) (defScope K64D.sFree) .none kVFree dcFree pmFree anFree cdFree ctFree), slFree⟩)
    (cFree : PySem.W.codeIn K cdFree "Desk.check_free" = true)
    (kFree : PySem.W.keepIn K (.ref fFree) = true)
    (wgFree : PySem.W.findIn K (.ref CG) "check_free" = some (some (.ref fFree)))
    (wRoom : PySem.W.findIn K (.ref CD) "check_room" = some (some (.ref fRoom)))
    (vfRoom : PySem.W.isFn K (.ref fRoom) = true)
    (lRoom : K.lookup fRoom = some ⟨ocRoom, odRoom, .func (PySem.W.fnOf "check_room" "Desk.check_room" (defArgs K64D.sRoom) (defBody K64D.sRoom) (defScope K64D.sRoom) .none kVRoom dcRoom pmRoom anRoom cdRoom ctRoom), slRoom⟩)
    (cRoom : PySem.W.codeIn K cdRoom "Desk.check_room" = true)
    (kRoom : PySem.W.keepIn K (.ref fRoom) = true)
    (wgRoom : PySem.W.findIn K (.ref CG) "check_room" = some (some (.ref fRoom)))
    (wLink0 : PySem.W.findIn K (.ref CD) "check_link" = some (some (.ref fLink0)))
    (vfLink0 : PySem.W.isFn K (.ref fLink0) = true)
    (lLink0 : K.lookup fLink0 = some ⟨ocLink0, odLink0, .func (PySem.W.fnOf "check_link" "Desk.check_link" (defArgs K64D.sLink0) (defBody K64D.sLink0) (defScope K64D.sLink0) .none kVLink0 dcLink0 pmLink0 anLink0 cdLink0 ctLink0), slLink0⟩)
    (cLink0 : PySem.W.codeIn K cdLink0 "Desk.check_link" = true)
    (kLink0 : PySem.W.keepIn K (.ref fLink0) = true)
    (wgLink0 : PySem.W.findIn K (.ref CG) "check_link" = some (some (.ref fLink0)))
    (wAdd : PySem.W.findIn K (.ref CD) "add_edit" = some (some (.ref fAdd)))
    (vfAdd : PySem.W.isFn K (.ref fAdd) = true)
    (lAdd : K.lookup fAdd = some ⟨ocAdd, odAdd, .func (PySem.W.fnOf "add_edit" "Desk.add_edit" (defArgs K64D.sAdd) (defBody K64D.sAdd) (defScope K64D.sAdd) .none kVAdd dcAdd pmAdd anAdd cdAdd ctAdd), slAdd⟩)
    (cAdd : PySem.W.codeIn K cdAdd "Desk.add_edit" = true)
    (kAdd : PySem.W.keepIn K (.ref fAdd) = true)
    (wgAdd : PySem.W.findIn K (.ref CG) "add_edit" = some (some (.ref fAdd)))
    (wChg : PySem.W.findIn K (.ref CD) "change_panel" = some (some (.ref fChg)))
    (vfChg : PySem.W.isFn K (.ref fChg) = true)
    (lChg : K.lookup fChg = some ⟨ocChg, odChg, .func (PySem.W.fnOf "change_panel" "Desk.change_panel" (defArgs K64D.sChg) (defBody K64D.sChg) (defScope K64D.sChg) .none kVChg dcChg pmChg anChg cdChg ctChg), slChg⟩)
    (cChg : PySem.W.codeIn K cdChg "Desk.change_panel" = true)
    (kChg : PySem.W.keepIn K (.ref fChg) = true)
    (wgChg : PySem.W.findIn K (.ref CG) "change_panel" = some (some (.ref fChg)))
    (wPressD : PySem.W.findIn K (.ref CD) "press" = some (some (.ref fPressD)))
    (vfPressD : PySem.W.isFn K (.ref fPressD) = true)
    (lPressD : K.lookup fPressD = some ⟨ocPressD, odPressD, .func (PySem.W.fnOf "press" "Desk.press" (defArgs K64D.sPressD) (defBody K64D.sPressD) (defScope K64D.sPressD) .none kVPressD dcPressD pmPressD anPressD cdPressD ctPressD), slPressD⟩)
    (cPressD : PySem.W.codeIn K cdPressD "Desk.press" = true)
    (kPressD : PySem.W.keepIn K (.ref fPressD) = true)
    (wgPressD : PySem.W.findIn K (.ref CG) "press" = some (some (.ref fPressD)))
    (wLink : PySem.W.findIn K (.ref CD) "link" = some (some (.ref fLink)))
    (vfLink : PySem.W.isFn K (.ref fLink) = true)
    (lLink : K.lookup fLink = some ⟨ocLink, odLink, .func (PySem.W.fnOf "link" "Desk.link" (defArgs K64D.sLink) (defBody K64D.sLink) (defScope K64D.sLink) .none kVLink dcLink pmLink anLink cdLink ctLink), slLink⟩)
    (cLink : PySem.W.codeIn K cdLink "Desk.link" = true)
    (kLink : PySem.W.keepIn K (.ref fLink) = true)
    (wgLink : PySem.W.findIn K (.ref CG) "link" = some (some (.ref fLink)))
    (wUnlink : PySem.W.findIn K (.ref CD) "unlink" = some (some (.ref fUnlink)))
    (vfUnlink : PySem.W.isFn K (.ref fUnlink) = true)
    (lUnlink : K.lookup fUnlink = some ⟨ocUnlink, odUnlink, .func (PySem.W.fnOf "unlink" "Desk.unlink" (defArgs K64D.sUnlink) (defBody K64D.sUnlink) (defScope K64D.sUnlink) .none kVUnlink dcUnlink pmUnlink anUnlink cdUnlink ctUnlink), slUnlink⟩)
    (cUnlink : PySem.W.codeIn K cdUnlink "Desk.unlink" = true)
    (kUnlink : PySem.W.keepIn K (.ref fUnlink) = true)
    (wgUnlink : PySem.W.findIn K (.ref CG) "unlink" = some (some (.ref fUnlink)))
    (wUndo : PySem.W.findIn K (.ref CD) "undo" = some (some (.ref fUndo)))
    (vfUndo : PySem.W.isFn K (.ref fUndo) = true)
    (lUndo : K.lookup fUndo = some ⟨ocUndo, odUndo, .func (PySem.W.fnOf "undo" "Desk.undo" (defArgs K64D.sUndo) (defBody K64D.sUndo) (defScope K64D.sUndo) .none kVUndo dcUndo pmUndo anUndo cdUndo ctUndo), slUndo⟩)
    (cUndo : PySem.W.codeIn K cdUndo "Desk.undo" = true)
    (kUndo : PySem.W.keepIn K (.ref fUndo) = true)
    (wgUndo : PySem.W.findIn K (.ref CG) "undo" = some (some (.ref fUndo)))
    (wLenD : PySem.W.findIn K (.ref CD) "__len__" = some (some (.ref fLenD)))
    (vfLenD : PySem.W.isFn K (.ref fLenD) = true)
    (lLenD : K.lookup fLenD = some ⟨ocLenD, odLenD, .func (PySem.W.fnOf "__len__" "Desk.__len__" (defArgs K64D.sLenD) (defBody K64D.sLenD) (defScope K64D.sLenD) .none kVLenD dcLenD pmLenD anLenD cdLenD ctLenD), slLenD⟩)
    (cLenD : PySem.W.codeIn K cdLenD "Desk.__len__" = true)
    (kLenD : PySem.W.keepIn K (.ref fLenD) = true)
    (wgLenD : PySem.W.findIn K (.ref CG) "__len__" = some (some (.ref fLenD)))
    (wShowB : PySem.W.findIn K (.ref CD) "show" = some (some (.ref fShowB)))
    (vfShowB : PySem.W.isFn K (.ref fShowB) = true)
    (lShowB : K.lookup fShowB = some ⟨ocShowB, odShowB, .func (PySem.W.fnOf "show" "Desk.show" (defArgs K64G.sShow) (defBody K64G.sShow) (defScope K64G.sShow) .none kVShowB dcShowB pmShowB anShowB cdShowB ctShowB), slShowB⟩)
    (cShowB : PySem.W.codeIn K cdShowB "Desk.show" = true)
    (kShowB : PySem.W.keepIn K (.ref fShowB) = true)
    (smB : PySem.W.mroIn K CG (.ref CG) = some true)
    (saB : PySem.W.ks_superIn K CG CG "show" = some (some (.ref fShowB)))
    (stB : PySem.W.typeIn K (.ref fShowB) = some (.type "function"))
    (sfB : PySem.W.fnIn K fShowB = true)
    (soB : PySem.W.nsIn K PySem.cStatics "thirdparty.any" = some none)
    (wInitG : PySem.W.findIn K (.ref CG) "__init__" = some (some (.ref fInitG)))
    (vfInitG : PySem.W.isFn K (.ref fInitG) = true)
    (lInitG : K.lookup fInitG = some ⟨ocInitG, odInitG, .func (PySem.W.fnOf "__init__" "GuessDesk.__init__" (defArgs K64G.sInitG) (defBody K64G.sInitG) (defScope K64G.sInitG) .none kVInitG dcInitG pmInitG anInitG cdInitG ctInitG), slInitG⟩)
    (cInitG : PySem.W.codeIn K cdInitG "GuessDesk.__init__" = true)
    (kInitG : PySem.W.keepIn K (.ref fInitG) = true)
    (rdInitD : PySem.W.readsIn K CD (.type "type") = true)
    (gaInitD : PySem.W.specialIn K (.ref CD) "__getattribute__" = some (some (.builtin "type.__getattribute__")))
    (fcInitD : PySem.W.findCls K (.ref CD) (.type "type") "__init__" = some (.val (.ref fInitD)))
    (lInitD : K.lookup fInitD = some ⟨ocInitD, odInitD, .func (PySem.W.fnOf "__init__" "Desk.__init__" (defArgs K64G.sInitD) (defBody K64G.sInitD) (defScope K64G.sInitD) .none kVInitD dcInitD pmInitD anInitD cdInitD ctInitD), slInitD⟩)
    (cInitD : PySem.W.codeIn K cdInitD "Desk.__init__" = true)
    (kInitD : PySem.W.keepIn K (.ref fInitD) = true)
    (wInitD : PySem.W.findIn K (.ref CD) "__init__" = some (some (.ref fInitD)))
    (vfInitD : PySem.W.isFn K (.ref fInitD) = true)
    (rdInitU : PySem.W.readsIn K CGu (.type "type") = true)
    (gaInitU : PySem.W.specialIn K (.ref CGu) "__getattribute__" = some (some (.builtin "type.__getattribute__")))
    (fcInitU : PySem.W.findCls K (.ref CGu) (.type "type") "__init__" = some (.val (.ref fInitU)))
    (lInitU : K.lookup fInitU = some ⟨ocInitU, odInitU, .func (PySem.W.fnOf "__init__" "Guess.__init__" (defArgs K64G.sInitU) (defBody K64G.sInitU) (defScope K64G.sInitU) .none kVInitU dcInitU pmInitU anInitU cdInitU ctInitU), slInitU⟩)
    (cInitU : PySem.W.codeIn K cdInitU "Guess.__init__" = true)
    (kInitU : PySem.W.keepIn K (.ref fInitU) = true)
    (wInitS : PySem.W.findIn K (.ref CS) "__init__" = some (some (.ref fInitS)))
    (vfInitS : PySem.W.isFn K (.ref fInitS) = true)
    (lInitS : K.lookup fInitS = some ⟨ocInitS, odInitS, .func (PySem.W.fnOf "__init__" "Shell.__init__" (defArgs sInitS) (defBody sInitS) (defScope sInitS) .none kVInitS dcInitS pmInitS anInitS cdInitS ctInitS), slInitS⟩)
    (cInitS : PySem.W.codeIn K cdInitS "Shell.__init__" = true)
    (kInitS : PySem.W.keepIn K (.ref fInitS) = true)
    (wExec : PySem.W.findIn K (.ref CS) "execute" = some (some (.ref fExec)))
    (vfExec : PySem.W.isFn K (.ref fExec) = true)
    (lExec : K.lookup fExec = some ⟨ocExec, odExec, .func (PySem.W.fnOf "execute" "Shell.execute" (defArgs sExec) (defBody sExec) (defScope sExec) .none kVExec dcExec pmExec anExec cdExec ctExec), slExec⟩)
    (cExec : PySem.W.codeIn K cdExec "Shell.execute" = true)
    (kExec : PySem.W.keepIn K (.ref fExec) = true)
    (u_NothingToUndo : PySem.W.nsIn K mainGlobals "NothingToUndo" = some (some (.ref CU)))
    (q_NothingToUndo : PySem.W.excIn K CU [.type "ValueError", .type "Exception", .type "BaseException", .type "object"] "ValueError.__new__" = true)
    (kp_NothingToUndo : PySem.W.keepIn K (.ref CU) = true)
    (s_NothingToUndo : PySem.W.subIn K (.ref CU) (.type "BaseException") = some true)
    (t_NothingToUndo : PySem.W.typeIn K (.ref CU) = some (.type "type"))
    (uNU : PySem.W.nsIn K mainGlobals "NUMBERS" = some (some (.ref dV)))
    (kNU : He.dicW K dV = some (He.keysIn w.params ["press", "link", "unlink", "undo"]))
    (v1N : PySem.W.nsIn K dV "undo" = some (some (.int 0 tv1)))
    (n1N : PySem.W.nsIn K dV "latched" = some none)
    (n2N : PySem.W.nsIn K dV "held" = some none)
    (n3N : PySem.W.nsIn K dV "panel" = some none)
    (z1 : PySem.W.nsIn K mainGlobals "abs" = some none) (z2 : PySem.W.nsIn K mainGlobals "all" = some none) (z3 : PySem.W.nsIn K mainGlobals "any" = some none) (z4 : PySem.W.nsIn K mainGlobals "bool" = some none) (z5 : PySem.W.nsIn K mainGlobals "enumerate" = some none) (z6 : PySem.W.nsIn K mainGlobals "int" = some none) (z7 : PySem.W.nsIn K mainGlobals "isinstance" = some none) (z8 : PySem.W.nsIn K mainGlobals "len" = some none) (z9 : PySem.W.nsIn K mainGlobals "list" = some none) (z10 : PySem.W.nsIn K mainGlobals "range" = some none) (z11 : PySem.W.nsIn K mainGlobals "set" = some none) (z12 : PySem.W.nsIn K mainGlobals "sorted" = some none) (z13 : PySem.W.nsIn K mainGlobals "str" = some none) (z14 : PySem.W.nsIn K mainGlobals "tuple" = some none) (z15 : PySem.W.nsIn K mainGlobals "zip" = some none) :
    ∃ fd : FuncData, (∀ (s : Shared) (v : Value), BindsTo s fd ⟨[v], []⟩ [("_law_script", v)]) ∧ ∀ base : Heap, K.In base → base.Ns mainGlobals mg → FnG l.prog w K mg base 30 fa fd ["_law_script"] (spLaw K) := by
  have e := hfa.symm.trans (PySem.W.mg_of X G a39)
  cases e
  have F1 := fun_mk (st := sWl) l1 c1 k1
  have F2 := fun_mk (st := sLi) l2 c2 k2
  have F3 := fun_mk (st := sUn) l3 c3 k3
  have F4 := fun_mk (st := sNo) l4 c4 k4
  have F5 := fun_mk (st := sPressE) l5 c5 k5
  have F6 := fun_mk (st := sJoin) l6 c6 k6
  have F7 := fun_mk (st := sWith) l7 c7 k7
  have F8 := fun_mk (st := sBtn) l8 c8 k8
  have F9 := fun_mk (st := sBtnT) l9 c9 k9
  have F10 := fun_mk (st := sPErr) l10 c10 k10
  have F11 := fun_mk (st := sPress) l11 c11 k11
  have F12 := fun_mk (st := sAny) l12 c12 k12
  have F13 := fun_mk (st := sHeld) l13 c13 k13
  have F14 := fun_mk (st := sChkP) l14 c14 k14
  have F15 := fun_mk (st := sChkS) l15 c15 k15
  have F16 := fun_mk (st := sChkB) l16 c16 k16
  have F17 := fun_mk (st := sKAft) l17 c17 k17
  have F18 := fun_mk (st := sListT) l18 c18 k18
  have F19 := fun_mk (st := sPanT) l19 c19 k19
  have F20 := fun_mk (st := sRowT) l20 c20 k20
  have F21 := fun_mk (st := sIsCh) l21 c21 k21
  have F22 := fun_mk (st := sChng) l22 c22 k22
  have F23 := fun_mk (st := sChAns) l23 c23 k23
  have F24 := fun_mk (st := sQAns) l24 c24 k24
  have F25 := fun_mk (st := sDraws) l25 c25 k25
  have F26 := fun_mk (st := sNext) l26 c26 k26
  have F27 := fun_mk (st := sPanel) l27 c27 k27
  have F28 := fun_mk (st := sLatch) l28 c28 k28
  have F29 := fun_mk (st := sPressed) l29 c29 k29
  have F30 := fun_mk (st := sChanged) l30 c30 k30
  have F31 := fun_mk (st := sAfter) l31 c31 k31
  have F32 := fun_mk (st := sEdit) l32 c32 k32
  have F33 := fun_mk (st := sDo) l33 c33 k33
  have F34 := fun_mk (st := sLHeld) l34 c34 k34
  have F35 := fun_mk (st := sLRowT) l35 c35 k35
  have F36 := fun_mk (st := sLPanT) l36 c36 k36
  have F37 := fun_mk (st := sAsked) l37 c37 k37
  have F38 := fun_mk (st := sDesk) l38 c38 k38
  have F39 := fun_mk (st := sLaw) l39 c39 k39
  have b1 := F1.binds (ps := ["panel", "button", "released"]) fun _ _ _ _ _ _ us hl => match us, hl with | [_, _, _], _ => rfl
  have b2 := F2.binds (ps := ["panel", "one", "other"]) fun _ _ _ _ _ _ us hl => match us, hl with | [_, _, _], _ => rfl
  have b3 := F3.binds (ps := ["panel", "one", "other"]) fun _ _ _ _ _ _ us hl => match us, hl with | [_, _, _], _ => rfl
  have b4 := F4.binds (ps := ["panel"]) fun _ _ _ _ _ _ us hl => match us, hl with | [_], _ => rfl
  have b5 := F5.binds (ps := ["panel", "button"]) fun _ _ _ _ _ _ us hl => match us, hl with | [_, _], _ => rfl
  have b6 := F6.binds (ps := ["first", "second"]) fun _ _ _ _ _ _ us hl => match us, hl with | [_, _], _ => rfl
  have b7 := F7.binds (ps := ["panel", "effect", "button"]) fun _ _ _ _ _ _ us hl => match us, hl with | [_, _, _], _ => rfl
  have b8 := F8.binds (ps := ["value", "many"]) fun _ _ _ _ _ _ us hl => match us, hl with | [_, _], _ => rfl
  have b9 := F9.binds (ps := ["value", "many"]) fun _ _ _ _ _ _ us hl => match us, hl with | [_, _], _ => rfl
  have b10 := F10.binds (ps := ["value"]) fun _ _ _ _ _ _ us hl => match us, hl with | [_], _ => rfl
  have b11 := F11.binds (ps := ["panel", "state", "button"]) fun _ _ _ _ _ _ us hl => match us, hl with | [_, _, _], _ => rfl
  have b12 := F12.binds (ps := ["panel", "button", "others"]) fun _ _ _ _ _ _ us hl => match us, hl with | [_, _, _], _ => rfl
  have b13 := F13.binds (ps := ["panel", "state"]) fun _ _ _ _ _ _ us hl => match us, hl with | [_, _], _ => rfl
  have b14 := F14.binds (ps := ["value"]) fun _ _ _ _ _ _ us hl => match us, hl with | [_], _ => rfl
  have b15 := F15.binds (ps := ["panel", "value"]) fun _ _ _ _ _ _ us hl => match us, hl with | [_, _], _ => rfl
  have b16 := F16.binds (ps := ["panel", "value"]) fun _ _ _ _ _ _ us hl => match us, hl with | [_, _], _ => rfl
  have b17 := F17.binds (ps := ["panel", "past"]) fun _ _ _ _ _ _ us hl => match us, hl with | [_, _], _ => rfl
  have b18 := F18.binds (ps := ["button", "released"]) fun _ _ _ _ _ _ us hl => match us, hl with | [_, _], _ => rfl
  have b19 := F19.binds (ps := ["panel"]) fun _ _ _ _ _ _ us hl => match us, hl with | [_], _ => rfl
  have b20 := F20.binds (ps := ["row"]) fun _ _ _ _ _ _ us hl => match us, hl with | [_], _ => rfl
  have b21 := F21.binds (ps := ["words"]) fun _ _ _ _ _ _ us hl => match us, hl with | [_], _ => rfl
  have b22 := F22.binds (ps := ["desk", "name", "numbers"]) fun _ _ _ _ _ _ us hl => match us, hl with | [_, _, _], _ => rfl
  have b23 := F23.binds (ps := ["desk", "words"]) fun _ _ _ _ _ _ us hl => match us, hl with | [_, _], _ => rfl
  have b24 := F24.binds (ps := ["desk", "line"]) fun _ _ _ _ _ _ us hl => match us, hl with | [_, _], _ => rfl
  have b25 := F25.binds (ps := ["_law_script"]) fun _ _ _ _ _ _ us hl => match us, hl with | [_], _ => rfl
  have b26 := F26.binds (ps := ["_law_state", "_law_many"]) fun _ _ _ _ _ _ us hl => match us, hl with | [_, _], _ => rfl
  have b27 := F27.binds (ps := ["_law_state", "_law_most"]) fun _ _ _ _ _ _ us hl => match us, hl with | [_, _], _ => rfl
  have b28 := F28.binds (ps := ["_law_state", "_law_many"]) fun _ _ _ _ _ _ us hl => match us, hl with | [_, _], _ => rfl
  have b29 := F29.binds (ps := ["_law_panel_here", "_law_latched_here", "_law_button"]) fun _ _ _ _ _ _ us hl => match us, hl with | [_, _, _], _ => rfl
  have b30 := F30.binds (ps := ["_law_panel_here", "_law_one", "_law_other", "_law_is_linked"]) fun _ _ _ _ _ _ us hl => match us, hl with | [_, _, _, _], _ => rfl
  have b31 := F31.binds (ps := ["_law_now", "_law_edit_here"]) fun _ _ _ _ _ _ us hl => match us, hl with | [_, _], _ => rfl
  have b32 := F32.binds (ps := ["_law_state", "_law_now"]) fun _ _ _ _ _ _ us hl => match us, hl with | [_, _], _ => rfl
  have b33 := F33.binds (ps := ["_law_desk_here", "_law_edit_here"]) fun _ _ _ _ _ _ us hl => match us, hl with | [_, _], _ => rfl
  have b34 := F34.binds (ps := ["_law_panel_here", "_law_latched_here"]) fun _ _ _ _ _ _ us hl => match us, hl with | [_, _], _ => rfl
  have b35 := F35.binds (ps := ["_law_row"]) fun _ _ _ _ _ _ us hl => match us, hl with | [_], _ => rfl
  have b36 := F36.binds (ps := ["_law_panel_here"]) fun _ _ _ _ _ _ us hl => match us, hl with | [_], _ => rfl
  have b37 := F37.binds (ps := ["_law_shells", "_law_now"]) fun _ _ _ _ _ _ us hl => match us, hl with | [_, _], _ => rfl
  have b38 := F38.binds (ps := ["_law_kind", "_law_panel_here", "_law_latched_here"]) fun _ _ _ _ _ _ us hl => match us, hl with | [_, _, _], _ => rfl
  have FShow : SFun K "show" "GuessDesk.show" K64G.sShowG ccShow cdShow fShow _ := sfun_mk (st := K64G.sShowG) lShow cShow kShow
  have SShow : SCls l.prog K mg ccShow cdShow CG := ⟨⟨_, _, _, lcShow⟩, ⟨_, _, _, _, _, _, ldShow, vsShow, fiShow⟩, Option.isSome_iff_exists.mp icShow, tpShow, PySem.W.mg_none_of X G zsShow⟩
  have TD : K64D.TxtD K mg CD := ⟨⟨pgD, hdD, poD, saD⟩, nAD, nWD, nPD, nLD, nHD, ⟨_, cMD, ⟨tkD, rfl⟩, cGD, cCD⟩, PySem.W.mg_of X G uND⟩
  have TG : K64G.TxtD K mg CG := ⟨⟨pgG, hdG, poG, saG⟩, nAG, nWG, nPG, nLG, nHG, nKG, ⟨_, cMG, ⟨tkG, rfl⟩, cGG, cCG⟩, PySem.W.mg_of X G uNG⟩
  have TS : TxtS K mg CS := ⟨⟨pgS, hdS, poS, saS⟩, nDS, PySem.W.mg_of X G uNS⟩
  have FFree := fun_mk (st := K64D.sFree) lFree cFree kFree
  have bFree := FFree.binds (ps := ["self"]) fun _ _ _ _ _ _ us hl => match us, hl with | [_], _ => rfl
  have hD_Free : Meth K CD "check_free" fFree := ⟨wFree, vfFree, kFree⟩
  have hG_Free : Meth K CG "check_free" fFree := ⟨wgFree, vfFree, kFree⟩
  have FRoom := fun_mk (st := K64D.sRoom) lRoom cRoom kRoom
  have bRoom := FRoom.binds (ps := ["self"]) fun _ _ _ _ _ _ us hl => match us, hl with | [_], _ => rfl
  have hD_Room : Meth K CD "check_room" fRoom := ⟨wRoom, vfRoom, kRoom⟩
  have hG_Room : Meth K CG "check_room" fRoom := ⟨wgRoom, vfRoom, kRoom⟩
  have FLink0 := fun_mk (st := K64D.sLink0) lLink0 cLink0 kLink0
  have bLink0 := FLink0.binds (ps := ["self", "one", "other"]) fun _ _ _ _ _ _ us hl => match us, hl with | [_, _, _], _ => rfl
  have hD_Link0 : Meth K CD "check_link" fLink0 := ⟨wLink0, vfLink0, kLink0⟩
  have hG_Link0 : Meth K CG "check_link" fLink0 := ⟨wgLink0, vfLink0, kLink0⟩
  have FAdd := fun_mk (st := K64D.sAdd) lAdd cAdd kAdd
  have bAdd := FAdd.binds (ps := ["self", "edit", "panel", "latched"]) fun _ _ _ _ _ _ us hl => match us, hl with | [_, _, _, _], _ => rfl
  have hD_Add : Meth K CD "add_edit" fAdd := ⟨wAdd, vfAdd, kAdd⟩
  have hG_Add : Meth K CG "add_edit" fAdd := ⟨wgAdd, vfAdd, kAdd⟩
  have FChg := fun_mk (st := K64D.sChg) lChg cChg kChg
  have bChg := FChg.binds (ps := ["self", "edit", "panel"]) fun _ _ _ _ _ _ us hl => match us, hl with | [_, _, _], _ => rfl
  have hD_Chg : Meth K CD "change_panel" fChg := ⟨wChg, vfChg, kChg⟩
  have hG_Chg : Meth K CG "change_panel" fChg := ⟨wgChg, vfChg, kChg⟩
  have FPressD := fun_mk (st := K64D.sPressD) lPressD cPressD kPressD
  have bPressD := FPressD.binds (ps := ["self", "button"]) fun _ _ _ _ _ _ us hl => match us, hl with | [_, _], _ => rfl
  have hD_PressD : Meth K CD "press" fPressD := ⟨wPressD, vfPressD, kPressD⟩
  have hG_PressD : Meth K CG "press" fPressD := ⟨wgPressD, vfPressD, kPressD⟩
  have FLink := fun_mk (st := K64D.sLink) lLink cLink kLink
  have bLink := FLink.binds (ps := ["self", "one", "other"]) fun _ _ _ _ _ _ us hl => match us, hl with | [_, _, _], _ => rfl
  have hD_Link : Meth K CD "link" fLink := ⟨wLink, vfLink, kLink⟩
  have hG_Link : Meth K CG "link" fLink := ⟨wgLink, vfLink, kLink⟩
  have FUnlink := fun_mk (st := K64D.sUnlink) lUnlink cUnlink kUnlink
  have bUnlink := FUnlink.binds (ps := ["self", "one", "other"]) fun _ _ _ _ _ _ us hl => match us, hl with | [_, _, _], _ => rfl
  have hD_Unlink : Meth K CD "unlink" fUnlink := ⟨wUnlink, vfUnlink, kUnlink⟩
  have hG_Unlink : Meth K CG "unlink" fUnlink := ⟨wgUnlink, vfUnlink, kUnlink⟩
  have FUndo := fun_mk (st := K64D.sUndo) lUndo cUndo kUndo
  have bUndo := FUndo.binds (ps := ["self"]) fun _ _ _ _ _ _ us hl => match us, hl with | [_], _ => rfl
  have hD_Undo : Meth K CD "undo" fUndo := ⟨wUndo, vfUndo, kUndo⟩
  have hG_Undo : Meth K CG "undo" fUndo := ⟨wgUndo, vfUndo, kUndo⟩
  have FLenD := fun_mk (st := K64D.sLenD) lLenD cLenD kLenD
  have bLenD := FLenD.binds (ps := ["self"]) fun _ _ _ _ _ _ us hl => match us, hl with | [_], _ => rfl
  have FShowB := fun_mk (st := K64G.sShow) lShowB cShowB kShowB
  have bShowB := FShowB.binds (ps := ["self", "panel", "latched"]) fun _ _ _ _ _ _ us hl => match us, hl with | [_, _, _], _ => rfl
  have hD_ShowB : Meth K CD "show" fShowB := ⟨wShowB, vfShowB, kShowB⟩
  have SMg : SMeth K CG CG "show" fShowB := ⟨smB, saB, stB, sfB, soB⟩
  have FInitG := fun_mk (st := K64G.sInitG) lInitG cInitG kInitG
  have bInitG := FInitG.binds (ps := ["self", "panel", "state"]) fun _ _ _ _ _ _ us hl => match us, hl with | [_, _, _], _ => rfl
  have FInitD := fun_mk (st := K64G.sInitD) lInitD cInitD kInitD
  have bInitD := FInitD.binds (ps := ["self", "panel", "state"]) fun _ _ _ _ _ _ us hl => match us, hl with | [_, _, _], _ => rfl
  have FInitU := fun_mk (st := K64G.sInitU) lInitU cInitU kInitU
  have bInitU := FInitU.binds (ps := ["self", "panel"]) fun _ _ _ _ _ _ us hl => match us, hl with | [_, _], _ => rfl
  have FInitS := fun_mk (st := sInitS) lInitS cInitS kInitS
  have bInitS := FInitS.binds (ps := ["self", "desk"]) fun _ _ _ _ _ _ us hl => match us, hl with | [_, _], _ => rfl
  have FExec := fun_mk (st := sExec) lExec cExec kExec
  have bExec := FExec.binds (ps := ["self", "line"]) fun _ _ _ _ _ _ us hl => match us, hl with | [_, _], _ => rfl
  have T_NothingToUndo : Ex0 K mg "NothingToUndo" CU := ⟨q_NothingToUndo, PySem.W.mg_of X G u_NothingToUndo, kp_NothingToUndo, s_NothingToUndo, t_NothingToUndo⟩
  have NU : KNum K w mg dV := ⟨PySem.W.mg_of X G uNU, He.dicW_ok kNU, ⟨_, v1N⟩, n1N, n2N, n3N⟩
  have FWl := F1
  have bWl := b1
  have gWl := PySem.W.mg_of X G a1
  have FLi := F2
  have bLi := b2
  have gLi := PySem.W.mg_of X G a2
  have FUn := F3
  have bUn := b3
  have gUn := PySem.W.mg_of X G a3
  have FNo := F4
  have bNo := b4
  have gNo := PySem.W.mg_of X G a4
  have FPressE := F5
  have bPressE := b5
  have gPressE := PySem.W.mg_of X G a5
  have FJoin := F6
  have bJoin := b6
  have gJoin := PySem.W.mg_of X G a6
  have FWith := F7
  have bWith := b7
  have gWith := PySem.W.mg_of X G a7
  have FBtn := F8
  have bBtn := b8
  have gBtn := PySem.W.mg_of X G a8
  have FBtnT := F9
  have bBtnT := b9
  have gBtnT := PySem.W.mg_of X G a9
  have FPErr := F10
  have bPErr := b10
  have gPErr := PySem.W.mg_of X G a10
  have FPress := F11
  have bPress := b11
  have gPress := PySem.W.mg_of X G a11
  have FAny := F12
  have bAny := b12
  have gAny := PySem.W.mg_of X G a12
  have FHeld := F13
  have bHeld := b13
  have gHeld := PySem.W.mg_of X G a13
  have FChkP := F14
  have bChkP := b14
  have gChkP := PySem.W.mg_of X G a14
  have FChkS := F15
  have bChkS := b15
  have gChkS := PySem.W.mg_of X G a15
  have FChkB := F16
  have bChkB := b16
  have gChkB := PySem.W.mg_of X G a16
  have FKAft := F17
  have bKAft := b17
  have gKAft := PySem.W.mg_of X G a17
  have FListT := F18
  have bListT := b18
  have gListT := PySem.W.mg_of X G a18
  have FPanT := F19
  have bPanT := b19
  have gPanT := PySem.W.mg_of X G a19
  have FRowT := F20
  have bRowT := b20
  have gRowT := PySem.W.mg_of X G a20
  have FIsCh := F21
  have bIsCh := b21
  have gIsCh := PySem.W.mg_of X G a21
  have FChng := F22
  have bChng := b22
  have gChng := PySem.W.mg_of X G a22
  have FChAns := F23
  have bChAns := b23
  have gChAns := PySem.W.mg_of X G a23
  have FQAns := F24
  have bQAns := b24
  have gQAns := PySem.W.mg_of X G a24
  have FDraws := F25
  have bDraws := b25
  have gDraws := PySem.W.mg_of X G a25
  have FNext := F26
  have bNext := b26
  have gNext := PySem.W.mg_of X G a26
  have FPanel := F27
  have bPanel := b27
  have gPanel := PySem.W.mg_of X G a27
  have FLatch := F28
  have bLatch := b28
  have gLatch := PySem.W.mg_of X G a28
  have FPressed := F29
  have bPressed := b29
  have gPressed := PySem.W.mg_of X G a29
  have FChanged := F30
  have bChanged := b30
  have gChanged := PySem.W.mg_of X G a30
  have FAfter := F31
  have bAfter := b31
  have gAfter := PySem.W.mg_of X G a31
  have FEdit := F32
  have bEdit := b32
  have gEdit := PySem.W.mg_of X G a32
  have FDo := F33
  have bDo := b33
  have gDo := PySem.W.mg_of X G a33
  have FLHeld := F34
  have bLHeld := b34
  have gLHeld := PySem.W.mg_of X G a34
  have FLRowT := F35
  have bLRowT := b35
  have gLRowT := PySem.W.mg_of X G a35
  have FLPanT := F36
  have bLPanT := b36
  have gLPanT := PySem.W.mg_of X G a36
  have FAsked := F37
  have bAsked := b37
  have gAsked := PySem.W.mg_of X G a37
  have FDesk := F38
  have bDesk := b38
  have gDesk := PySem.W.mg_of X G a38
  have m_abs := PySem.W.mg_none_of X G z1
  have m_all := PySem.W.mg_none_of X G z2
  have m_any := PySem.W.mg_none_of X G z3
  have m_bool := PySem.W.mg_none_of X G z4
  have m_enumerate := PySem.W.mg_none_of X G z5
  have m_int := PySem.W.mg_none_of X G z6
  have m_isinstance := PySem.W.mg_none_of X G z7
  have m_len := PySem.W.mg_none_of X G z8
  have m_list := PySem.W.mg_none_of X G z9
  have m_range := PySem.W.mg_none_of X G z10
  have m_set := PySem.W.mg_none_of X G z11
  have m_sorted := PySem.W.mg_none_of X G z12
  have m_str := PySem.W.mg_none_of X G z13
  have m_tuple := PySem.W.mg_none_of X G z14
  have m_zip := PySem.W.mg_none_of X G z15
  have y_MAX := PySem.W.mg_of X G y_MAX_BUTTONS
  have bShow := FShow.binds (ps := ["self", "panel", "latched"]) fun _ _ _ _ _ us hl => match us, hl with | [_, _, _], _ => rfl
  have hG_Show : Meth K CG "show" fShow := ⟨wShow, vfShow, kShow⟩
  refine ⟨PySem.W.fnOf "law" "law" (defArgs sLaw) (defBody sLaw) (defScope sLaw) .none kV39 dc39 pm39 an39 cd39 ct39, fun s v => .of_eq rfl, fun base _ _ => ?_⟩
  have GShow0 : ∀ k0 : Nat, FnOk l.prog w K mg base CX0 (k0 + 6) fShow _ ["self", "panel", "latched"] (K64G.spShow K CG) := fun k0 => K64G.ok_ShowG FShow SShow SMg FShowB bShowB TG FNo bNo gNo FPressE bPressE gPressE FJoin bJoin gJoin FWith bWith gWith FAny bAny gAny FHeld bHeld gHeld FKAft bKAft gKAft m_any m_len m_list m_tuple m_zip
  obtain ⟨DXD⟩ : Nonempty (K64D.DM l.prog w K mg base CD CU) := ⟨⟨fInitD, _, bInitD, ⟨mkD, wInitD, vfInitD, kcD⟩, K64D.ok_InitD FInitD TD FBtn bBtn gBtn FBtnT bBtnT gBtnT FPErr bPErr gPErr FAny bAny gAny FHeld bHeld gHeld FChkP bChkP gChkP FChkS bChkS gChkS FShowB bShowB hD_ShowB m_any m_bool m_enumerate m_int m_isinstance m_len m_tuple y_MAX, fPressD, _, bPressD, hD_PressD, K64D.ok_PressD FPressD TD FBtn bBtn gBtn FPress bPress gPress FAny bAny gAny FHeld bHeld gHeld FChkB bChkB gChkB FFree bFree hD_Free FRoom bRoom hD_Room FShowB bShowB hD_ShowB FAdd bAdd hD_Add m_any m_bool m_int m_isinstance m_len m_sorted m_tuple, fLink, _, bLink, hD_Link, K64D.ok_Link FLink TD FWl bWl gWl FLi bLi gLi FBtn bBtn gBtn FAny bAny gAny FHeld bHeld gHeld FChkB bChkB gChkB FFree bFree hD_Free FRoom bRoom hD_Room FLink0 bLink0 hD_Link0 FShowB bShowB hD_ShowB FAdd bAdd hD_Add FChg bChg hD_Chg m_any m_bool m_enumerate m_int m_isinstance m_len m_sorted m_tuple, fUnlink, _, bUnlink, hD_Unlink, K64D.ok_Unlink FUnlink TD FWl bWl gWl FUn bUn gUn FBtn bBtn gBtn FAny bAny gAny FHeld bHeld gHeld FChkB bChkB gChkB FFree bFree hD_Free FRoom bRoom hD_Room FLink0 bLink0 hD_Link0 FShowB bShowB hD_ShowB FAdd bAdd hD_Add FChg bChg hD_Chg m_any m_bool m_enumerate m_int m_isinstance m_len m_tuple, fUndo, _, bUndo, hD_Undo, K64D.ok_Undo FUndo TD T_NothingToUndo FAny bAny gAny FHeld bHeld gHeld FFree bFree hD_Free FShowB bShowB hD_ShowB m_any m_len m_tuple, fLenD, _, bLenD, wLenD, vfLenD, K64D.ok_LenD FLenD TD   m_len⟩⟩
  obtain ⟨DXG⟩ : Nonempty (K64G.DM l.prog w K mg base CG CU) := ⟨⟨fInitG, _, bInitG, ⟨mkG, wInitG, vfInitG, kcG⟩, K64G.ok_InitG FInitG TG (PySem.W.mg_of X G uND) (PySem.W.mg_of X G uCGu) ⟨⟨rdInitD, gaInitD⟩, ⟨fcInitD, rfl⟩⟩ ⟨⟨rdInitU, gaInitU⟩, ⟨fcInitU, rfl⟩⟩ FInitD bInitD FInitU bInitU GShow0 bShow hG_Show FNo bNo gNo FBtn bBtn gBtn FBtnT bBtnT gBtnT FPErr bPErr gPErr FChkP bChkP gChkP FChkS bChkS gChkS m_bool m_enumerate m_int m_isinstance m_len m_tuple y_MAX, fPressD, _, bPressD, hG_PressD, K64G.ok_PressD FPressD TG FBtn bBtn gBtn FPress bPress gPress FChkB bChkB gChkB FFree bFree hG_Free FRoom bRoom hG_Room GShow0 bShow hG_Show FAdd bAdd hG_Add m_bool m_int m_isinstance m_len m_sorted m_tuple, fLink, _, bLink, hG_Link, K64G.ok_Link FLink TG FWl bWl gWl FLi bLi gLi FBtn bBtn gBtn FChkB bChkB gChkB FFree bFree hG_Free FRoom bRoom hG_Room FLink0 bLink0 hG_Link0 GShow0 bShow hG_Show FAdd bAdd hG_Add FChg bChg hG_Chg m_bool m_enumerate m_int m_isinstance m_len m_sorted m_tuple, fUnlink, _, bUnlink, hG_Unlink, K64G.ok_Unlink FUnlink TG FWl bWl gWl FUn bUn gUn FBtn bBtn gBtn FChkB bChkB gChkB FFree bFree hG_Free FRoom bRoom hG_Room FLink0 bLink0 hG_Link0 GShow0 bShow hG_Show FAdd bAdd hG_Add FChg bChg hG_Chg m_bool m_enumerate m_int m_isinstance m_len m_tuple, fUndo, _, bUndo, hG_Undo, K64G.ok_Undo FUndo TG T_NothingToUndo  FFree bFree hG_Free GShow0 bShow hG_Show m_len, fLenD, _, bLenD, wgLenD, vfLenD, K64G.ok_LenD FLenD TG   m_len⟩⟩
  obtain ⟨SX⟩ : Nonempty (SM l.prog w K mg base CS CD CG) := ⟨⟨TS, fInitS, _, bInitS, ⟨mkS, wInitS, vfInitS, kcS⟩, ok_InitS (k := 0) FInitS TS, fExec, _, bExec, ⟨wExec, vfExec, kExec⟩, ok_Exec (k := 0) FExec FListT bListT gListT FPanT bPanT gPanT FRowT bRowT gRowT FIsCh bIsCh gIsCh FChng bChng gChng FChAns bChAns gChAns FQAns bQAns gQAns m_all m_enumerate m_isinstance m_len m_str TD TG DXD DXG TS NU⟩⟩
  exact Pr.FnG.of (ok_law F39 F1 b1 (PySem.W.mg_of X G a1) F2 b2 (PySem.W.mg_of X G a2) F3 b3 (PySem.W.mg_of X G a3) F4 b4 (PySem.W.mg_of X G a4) F5 b5 (PySem.W.mg_of X G a5) F6 b6 (PySem.W.mg_of X G a6) F7 b7 (PySem.W.mg_of X G a7) F8 b8 (PySem.W.mg_of X G a8) F9 b9 (PySem.W.mg_of X G a9) F10 b10 (PySem.W.mg_of X G a10) F11 b11 (PySem.W.mg_of X G a11) F12 b12 (PySem.W.mg_of X G a12) F13 b13 (PySem.W.mg_of X G a13) F14 b14 (PySem.W.mg_of X G a14) F15 b15 (PySem.W.mg_of X G a15) F16 b16 (PySem.W.mg_of X G a16) F17 b17 (PySem.W.mg_of X G a17) F18 b18 (PySem.W.mg_of X G a18) F19 b19 (PySem.W.mg_of X G a19) F20 b20 (PySem.W.mg_of X G a20) F21 b21 (PySem.W.mg_of X G a21) F22 b22 (PySem.W.mg_of X G a22) F23 b23 (PySem.W.mg_of X G a23) F24 b24 (PySem.W.mg_of X G a24) F25 b25 (PySem.W.mg_of X G a25) F26 b26 (PySem.W.mg_of X G a26) F27 b27 (PySem.W.mg_of X G a27) F28 b28 (PySem.W.mg_of X G a28) F29 b29 (PySem.W.mg_of X G a29) F30 b30 (PySem.W.mg_of X G a30) F31 b31 (PySem.W.mg_of X G a31) F32 b32 (PySem.W.mg_of X G a32) F33 b33 (PySem.W.mg_of X G a33) F34 b34 (PySem.W.mg_of X G a34) F35 b35 (PySem.W.mg_of X G a35) F36 b36 (PySem.W.mg_of X G a36) F37 b37 (PySem.W.mg_of X G a37) F38 b38 (PySem.W.mg_of X G a38) (PySem.W.mg_none_of X G z1) (PySem.W.mg_none_of X G z2) (PySem.W.mg_none_of X G z3) (PySem.W.mg_none_of X G z4) (PySem.W.mg_none_of X G z5) (PySem.W.mg_none_of X G z6) (PySem.W.mg_none_of X G z7) (PySem.W.mg_none_of X G z8) (PySem.W.mg_none_of X G z9) (PySem.W.mg_none_of X G z10) (PySem.W.mg_none_of X G z11) (PySem.W.mg_none_of X G z12) (PySem.W.mg_none_of X G z13) (PySem.W.mg_none_of X G z14) (PySem.W.mg_none_of X G z15) TD TG DXD DXG SX)
end K64
open PySem PySem.W PyProof.Rows
theorem PySem.Challenge.cw_pressrelease_k64_shell_queries_holds : PySem.Challenge.rw_pressrelease_k64_shell_queries.Holds := by
  w_on; o_law; k_head; (case hw => w_witness2)
  k_fill
  refine Pr.walkG (l := PySem.Challenge.rw_pressrelease_k64_shell_queries) (n := 63) (k := 30) (x := "_law_script") (sp := K64.spLaw) rfl (by decide) rfl ⟨rfl, by decide, by decide⟩ (fun w h Y => PySem.W.kIn_of Y) ?F (fun _ _ a ns hl _ _ hS => ⟨a, ns, rfl, hS, hl, fun _ => rfl⟩)
  case F =>
    intro w mg fa h KX G hmg
    refine' K64.all_mk KX G hmg ?a1 ?l1 ?c1 ?k1 ?a2 ?l2 ?c2 ?k2 ?a3 ?l3 ?c3 ?k3 ?a4 ?l4 ?c4 ?k4 ?a5 ?l5 ?c5 ?k5 ?a6 ?l6 ?c6 ?k6 ?a7 ?l7 ?c7 ?k7 ?a8 ?l8 ?c8 ?k8 ?a9 ?l9 ?c9 ?k9 ?a10 ?l10 ?c10 ?k10 ?a11 ?l11 ?c11 ?k11 ?a12 ?l12 ?c12 ?k12 ?a13 ?l13 ?c13 ?k13 ?a14 ?l14 ?c14 ?k14 ?a15 ?l15 ?c15 ?k15 ?a16 ?l16 ?c16 ?k16 ?a17 ?l17 ?c17 ?k17 ?a18 ?l18 ?c18 ?k18 ?a19 ?l19 ?c19 ?k19 ?a20 ?l20 ?c20 ?k20 ?a21 ?l21 ?c21 ?k21 ?a22 ?l22 ?c22 ?k22 ?a23 ?l23 ?c23 ?k23 ?a24 ?l24 ?c24 ?k24 ?a25 ?l25 ?c25 ?k25 ?a26 ?l26 ?c26 ?k26 ?a27 ?l27 ?c27 ?k27 ?a28 ?l28 ?c28 ?k28 ?a29 ?l29 ?c29 ?k29 ?a30 ?l30 ?c30 ?k30 ?a31 ?l31 ?c31 ?k31 ?a32 ?l32 ?c32 ?k32 ?a33 ?l33 ?c33 ?k33 ?a34 ?l34 ?c34 ?k34 ?a35 ?l35 ?c35 ?k35 ?a36 ?l36 ?c36 ?k36 ?a37 ?l37 ?c37 ?k37 ?a38 ?l38 ?c38 ?k38 ?a39 ?l39 ?c39 ?k39 ?y_MAX_BUTTONS ?uND ?pgD ?hdD ?poD ?saD ?mkD ?kcD ?nAD ?nWD ?nPD ?nLD ?nHD ?cMD ?cGD ?cCD ?uNG ?pgG ?hdG ?poG ?saG ?mkG ?kcG ?nAG ?nWG ?nPG ?nLG ?nHG ?nKG ?cMG ?cGG ?cCG ?uNS ?pgS ?hdS ?poS ?saS ?mkS ?kcS ?nDS ?uCGu ?wShow ?vfShow ?lShow ?cShow ?kShow ?lcShow ?ldShow ?vsShow ?fiShow ?tpShow ?zsShow ?icShow ?wFree ?vfFree ?lFree ?cFree ?kFree ?wgFree ?wRoom ?vfRoom ?lRoom ?cRoom ?kRoom ?wgRoom ?wLink0 ?vfLink0 ?lLink0 ?cLink0 ?kLink0 ?wgLink0 ?wAdd ?vfAdd ?lAdd ?cAdd ?kAdd ?wgAdd ?wChg ?vfChg ?lChg ?cChg ?kChg ?wgChg ?wPressD ?vfPressD ?lPressD ?cPressD ?kPressD ?wgPressD ?wLink ?vfLink ?lLink ?cLink ?kLink ?wgLink ?wUnlink ?vfUnlink ?lUnlink ?cUnlink ?kUnlink ?wgUnlink ?wUndo ?vfUndo ?lUndo ?cUndo ?kUndo ?wgUndo ?wLenD ?vfLenD ?lLenD ?cLenD ?kLenD ?wgLenD ?wShowB ?vfShowB ?lShowB ?cShowB ?kShowB ?smB ?saB ?stB ?sfB ?soB ?wInitG ?vfInitG ?lInitG ?cInitG ?kInitG ?rdInitD ?gaInitD ?fcInitD ?lInitD ?cInitD ?kInitD ?wInitD ?vfInitD ?rdInitU ?gaInitU ?fcInitU ?lInitU ?cInitU ?kInitU ?wInitS ?vfInitS ?lInitS ?cInitS ?kInitS ?wExec ?vfExec ?lExec ?cExec ?kExec ?u_NothingToUndo ?q_NothingToUndo ?kp_NothingToUndo ?s_NothingToUndo ?t_NothingToUndo ?uNU ?kNU ?v1N ?n1N ?n2N ?n3N ?z1 ?z2 ?z3 ?z4 ?z5 ?z6 ?z7 ?z8 ?z9 ?z10 ?z11 ?z12 ?z13 ?z14 ?z15
    (case a1 => k_is); (case l1 => k_is); (case c1 => k_is); (case k1 => k_is); (case a2 => k_is); (case l2 => k_is); (case c2 => k_is); (case k2 => k_is); (case a3 => k_is); (case l3 => k_is); (case c3 => k_is); (case k3 => k_is)
    (case a4 => k_is); (case l4 => k_is); (case c4 => k_is); (case k4 => k_is); (case a5 => k_is); (case l5 => k_is); (case c5 => k_is); (case k5 => k_is); (case a6 => k_is); (case l6 => k_is); (case c6 => k_is); (case k6 => k_is)
    (case a7 => k_is); (case l7 => k_is); (case c7 => k_is); (case k7 => k_is); (case a8 => k_is); (case l8 => k_is); (case c8 => k_is); (case k8 => k_is); (case a9 => k_is); (case l9 => k_is); (case c9 => k_is); (case k9 => k_is)
    (case a10 => k_is); (case l10 => k_is); (case c10 => k_is); (case k10 => k_is); (case a11 => k_is); (case l11 => k_is); (case c11 => k_is); (case k11 => k_is); (case a12 => k_is); (case l12 => k_is); (case c12 => k_is); (case k12 => k_is)
    (case a13 => k_is); (case l13 => k_is); (case c13 => k_is); (case k13 => k_is); (case a14 => k_is); (case l14 => k_is); (case c14 => k_is); (case k14 => k_is); (case a15 => k_is); (case l15 => k_is); (case c15 => k_is); (case k15 => k_is)
    (case a16 => k_is); (case l16 => k_is); (case c16 => k_is); (case k16 => k_is); (case a17 => k_is); (case l17 => k_is); (case c17 => k_is); (case k17 => k_is); (case a18 => k_is); (case l18 => k_is); (case c18 => k_is); (case k18 => k_is)
    (case a19 => k_is); (case l19 => k_is); (case c19 => k_is); (case k19 => k_is); (case a20 => k_is); (case l20 => k_is); (case c20 => k_is); (case k20 => k_is); (case a21 => k_is); (case l21 => k_is); (case c21 => k_is); (case k21 => k_is)
    (case a22 => k_is); (case l22 => k_is); (case c22 => k_is); (case k22 => k_is); (case a23 => k_is); (case l23 => k_is); (case c23 => k_is); (case k23 => k_is); (case a24 => k_is); (case l24 => k_is); (case c24 => k_is); (case k24 => k_is)
    (case a25 => k_is); (case l25 => k_is); (case c25 => k_is); (case k25 => k_is); (case a26 => k_is); (case l26 => k_is); (case c26 => k_is); (case k26 => k_is); (case a27 => k_is); (case l27 => k_is); (case c27 => k_is); (case k27 => k_is)
    (case a28 => k_is); (case l28 => k_is); (case c28 => k_is); (case k28 => k_is); (case a29 => k_is); (case l29 => k_is); (case c29 => k_is); (case k29 => k_is); (case a30 => k_is); (case l30 => k_is); (case c30 => k_is); (case k30 => k_is)
    (case a31 => k_is); (case l31 => k_is); (case c31 => k_is); (case k31 => k_is); (case a32 => k_is); (case l32 => k_is); (case c32 => k_is); (case k32 => k_is); (case a33 => k_is); (case l33 => k_is); (case c33 => k_is); (case k33 => k_is)
    (case a34 => k_is); (case l34 => k_is); (case c34 => k_is); (case k34 => k_is); (case a35 => k_is); (case l35 => k_is); (case c35 => k_is); (case k35 => k_is); (case a36 => k_is); (case l36 => k_is); (case c36 => k_is); (case k36 => k_is)
    (case a37 => k_is); (case l37 => k_is); (case c37 => k_is); (case k37 => k_is); (case a38 => k_is); (case l38 => k_is); (case c38 => k_is); (case k38 => k_is); (case a39 => k_is); (case l39 => k_is); (case c39 => k_is); (case k39 => k_is)
    (case y_MAX_BUTTONS => k_is); (case uND => first | k_is | k_exc | rfl | decide +kernel | kernel_rfl); (case pgD => first | k_is | k_exc | rfl | decide +kernel | kernel_rfl); (case hdD => first | k_is | k_exc | rfl | decide +kernel | kernel_rfl); (case poD => first | k_is | k_exc | rfl | decide +kernel | kernel_rfl); (case saD => first | k_is | k_exc | rfl | decide +kernel | kernel_rfl); (case mkD => first | k_is | k_exc | rfl | decide +kernel | kernel_rfl); (case kcD => first | k_is | k_exc | rfl | decide +kernel | kernel_rfl); (case nAD => first | k_is | k_exc | rfl | decide +kernel | kernel_rfl); (case nWD => first | k_is | k_exc | rfl | decide +kernel | kernel_rfl); (case nPD => first | k_is | k_exc | rfl | decide +kernel | kernel_rfl); (case nLD => first | k_is | k_exc | rfl | decide +kernel | kernel_rfl)
    (case nHD => first | k_is | k_exc | rfl | decide +kernel | kernel_rfl); (case cMD => first | k_is | k_exc | rfl | decide +kernel | kernel_rfl); (case cGD => first | k_is | k_exc | rfl | decide +kernel | kernel_rfl); (case cCD => first | k_is | k_exc | rfl | decide +kernel | kernel_rfl); (case uNG => first | k_is | k_exc | rfl | decide +kernel | kernel_rfl); (case pgG => first | k_is | k_exc | rfl | decide +kernel | kernel_rfl); (case hdG => first | k_is | k_exc | rfl | decide +kernel | kernel_rfl); (case poG => first | k_is | k_exc | rfl | decide +kernel | kernel_rfl); (case saG => first | k_is | k_exc | rfl | decide +kernel | kernel_rfl); (case mkG => first | k_is | k_exc | rfl | decide +kernel | kernel_rfl); (case kcG => first | k_is | k_exc | rfl | decide +kernel | kernel_rfl); (case nAG => first | k_is | k_exc | rfl | decide +kernel | kernel_rfl)
    (case nWG => first | k_is | k_exc | rfl | decide +kernel | kernel_rfl); (case nPG => first | k_is | k_exc | rfl | decide +kernel | kernel_rfl); (case nLG => first | k_is | k_exc | rfl | decide +kernel | kernel_rfl); (case nHG => first | k_is | k_exc | rfl | decide +kernel | kernel_rfl); (case nKG => first | k_is | k_exc | rfl | decide +kernel | kernel_rfl); (case cMG => first | k_is | k_exc | rfl | decide +kernel | kernel_rfl); (case cGG => first | k_is | k_exc | rfl | decide +kernel | kernel_rfl); (case cCG => first | k_is | k_exc | rfl | decide +kernel | kernel_rfl); (case uNS => first | k_is | k_exc | rfl | decide +kernel | kernel_rfl); (case pgS => first | k_is | k_exc | rfl | decide +kernel | kernel_rfl); (case hdS => first | k_is | k_exc | rfl | decide +kernel | kernel_rfl); (case poS => first | k_is | k_exc | rfl | decide +kernel | kernel_rfl)
    (case saS => first | k_is | k_exc | rfl | decide +kernel | kernel_rfl); (case mkS => first | k_is | k_exc | rfl | decide +kernel | kernel_rfl); (case kcS => first | k_is | k_exc | rfl | decide +kernel | kernel_rfl); (case nDS => first | k_is | k_exc | rfl | decide +kernel | kernel_rfl); (case uCGu => first | k_is | k_exc | rfl | decide +kernel | kernel_rfl); (case wShow => first | k_is | k_exc | rfl | decide +kernel | kernel_rfl); (case vfShow => first | k_is | k_exc | rfl | decide +kernel | kernel_rfl); (case lShow => first | k_is | k_exc | rfl | decide +kernel | kernel_rfl); (case cShow => first | k_is | k_exc | rfl | decide +kernel | kernel_rfl); (case kShow => first | k_is | k_exc | rfl | decide +kernel | kernel_rfl); (case lcShow => first | k_is | k_exc | rfl | decide +kernel | kernel_rfl); (case ldShow => first | k_is | k_exc | rfl | decide +kernel | kernel_rfl)
    (case vsShow => first | k_is | k_exc | rfl | decide +kernel | kernel_rfl); (case fiShow => first | k_is | k_exc | rfl | decide +kernel | kernel_rfl); (case tpShow => first | k_is | k_exc | rfl | decide +kernel | kernel_rfl); (case zsShow => first | k_is | k_exc | rfl | decide +kernel | kernel_rfl); (case icShow => first | k_is | k_exc | rfl | decide +kernel | kernel_rfl); (case wFree => first | k_is | k_exc | rfl | decide +kernel | kernel_rfl); (case vfFree => first | k_is | k_exc | rfl | decide +kernel | kernel_rfl); (case lFree => first | k_is | k_exc | rfl | decide +kernel | kernel_rfl); (case cFree => first | k_is | k_exc | rfl | decide +kernel | kernel_rfl); (case kFree => first | k_is | k_exc | rfl | decide +kernel | kernel_rfl); (case wgFree => first | k_is | k_exc | rfl | decide +kernel | kernel_rfl); (case wRoom => first | k_is | k_exc | rfl | decide +kernel | kernel_rfl)
    (case vfRoom => first | k_is | k_exc | rfl | decide +kernel | kernel_rfl); (case lRoom => first | k_is | k_exc | rfl | decide +kernel | kernel_rfl); (case cRoom => first | k_is | k_exc | rfl | decide +kernel | kernel_rfl); (case kRoom => first | k_is | k_exc | rfl | decide +kernel | kernel_rfl); (case wgRoom => first | k_is | k_exc | rfl | decide +kernel | kernel_rfl); (case wLink0 => first | k_is | k_exc | rfl | decide +kernel | kernel_rfl); (case vfLink0 => first | k_is | k_exc | rfl | decide +kernel | kernel_rfl); (case lLink0 => first | k_is | k_exc | rfl | decide +kernel | kernel_rfl); (case cLink0 => first | k_is | k_exc | rfl | decide +kernel | kernel_rfl); (case kLink0 => first | k_is | k_exc | rfl | decide +kernel | kernel_rfl); (case wgLink0 => first | k_is | k_exc | rfl | decide +kernel | kernel_rfl); (case wAdd => first | k_is | k_exc | rfl | decide +kernel | kernel_rfl)
    (case vfAdd => first | k_is | k_exc | rfl | decide +kernel | kernel_rfl); (case lAdd => first | k_is | k_exc | rfl | decide +kernel | kernel_rfl); (case cAdd => first | k_is | k_exc | rfl | decide +kernel | kernel_rfl); (case kAdd => first | k_is | k_exc | rfl | decide +kernel | kernel_rfl); (case wgAdd => first | k_is | k_exc | rfl | decide +kernel | kernel_rfl); (case wChg => first | k_is | k_exc | rfl | decide +kernel | kernel_rfl); (case vfChg => first | k_is | k_exc | rfl | decide +kernel | kernel_rfl); (case lChg => first | k_is | k_exc | rfl | decide +kernel | kernel_rfl); (case cChg => first | k_is | k_exc | rfl | decide +kernel | kernel_rfl); (case kChg => first | k_is | k_exc | rfl | decide +kernel | kernel_rfl); (case wgChg => first | k_is | k_exc | rfl | decide +kernel | kernel_rfl); (case wPressD => first | k_is | k_exc | rfl | decide +kernel | kernel_rfl)
    (case vfPressD => first | k_is | k_exc | rfl | decide +kernel | kernel_rfl); (case lPressD => first | k_is | k_exc | rfl | decide +kernel | kernel_rfl); (case cPressD => first | k_is | k_exc | rfl | decide +kernel | kernel_rfl); (case kPressD => first | k_is | k_exc | rfl | decide +kernel | kernel_rfl); (case wgPressD => first | k_is | k_exc | rfl | decide +kernel | kernel_rfl); (case wLink => first | k_is | k_exc | rfl | decide +kernel | kernel_rfl); (case vfLink => first | k_is | k_exc | rfl | decide +kernel | kernel_rfl); (case lLink => first | k_is | k_exc | rfl | decide +kernel | kernel_rfl); (case cLink => first | k_is | k_exc | rfl | decide +kernel | kernel_rfl); (case kLink => first | k_is | k_exc | rfl | decide +kernel | kernel_rfl); (case wgLink => first | k_is | k_exc | rfl | decide +kernel | kernel_rfl); (case wUnlink => first | k_is | k_exc | rfl | decide +kernel | kernel_rfl)
    (case vfUnlink => first | k_is | k_exc | rfl | decide +kernel | kernel_rfl); (case lUnlink => first | k_is | k_exc | rfl | decide +kernel | kernel_rfl); (case cUnlink => first | k_is | k_exc | rfl | decide +kernel | kernel_rfl); (case kUnlink => first | k_is | k_exc | rfl | decide +kernel | kernel_rfl); (case wgUnlink => first | k_is | k_exc | rfl | decide +kernel | kernel_rfl); (case wUndo => first | k_is | k_exc | rfl | decide +kernel | kernel_rfl); (case vfUndo => first | k_is | k_exc | rfl | decide +kernel | kernel_rfl); (case lUndo => first | k_is | k_exc | rfl | decide +kernel | kernel_rfl); (case cUndo => first | k_is | k_exc | rfl | decide +kernel | kernel_rfl); (case kUndo => first | k_is | k_exc | rfl | decide +kernel | kernel_rfl); (case wgUndo => first | k_is | k_exc | rfl | decide +kernel | kernel_rfl); (case wLenD => first | k_is | k_exc | rfl | decide +kernel | kernel_rfl)
    (case vfLenD => first | k_is | k_exc | rfl | decide +kernel | kernel_rfl); (case lLenD => first | k_is | k_exc | rfl | decide +kernel | kernel_rfl); (case cLenD => first | k_is | k_exc | rfl | decide +kernel | kernel_rfl); (case kLenD => first | k_is | k_exc | rfl | decide +kernel | kernel_rfl); (case wgLenD => first | k_is | k_exc | rfl | decide +kernel | kernel_rfl); (case wShowB => first | k_is | k_exc | rfl | decide +kernel | kernel_rfl); (case vfShowB => first | k_is | k_exc | rfl | decide +kernel | kernel_rfl); (case lShowB => first | k_is | k_exc | rfl | decide +kernel | kernel_rfl); (case cShowB => first | k_is | k_exc | rfl | decide +kernel | kernel_rfl); (case kShowB => first | k_is | k_exc | rfl | decide +kernel | kernel_rfl); (case smB => first | k_is | k_exc | rfl | decide +kernel | kernel_rfl); (case saB => first | k_is | k_exc | rfl | decide +kernel | kernel_rfl)
    (case stB => first | k_is | k_exc | rfl | decide +kernel | kernel_rfl); (case sfB => first | k_is | k_exc | rfl | decide +kernel | kernel_rfl); (case soB => first | k_is | k_exc | rfl | decide +kernel | kernel_rfl); (case wInitG => first | k_is | k_exc | rfl | decide +kernel | kernel_rfl); (case vfInitG => first | k_is | k_exc | rfl | decide +kernel | kernel_rfl); (case lInitG => first | k_is | k_exc | rfl | decide +kernel | kernel_rfl); (case cInitG => first | k_is | k_exc | rfl | decide +kernel | kernel_rfl); (case kInitG => first | k_is | k_exc | rfl | decide +kernel | kernel_rfl); (case rdInitD => first | k_is | k_exc | rfl | decide +kernel | kernel_rfl); (case gaInitD => first | k_is | k_exc | rfl | decide +kernel | kernel_rfl); (case fcInitD => first | k_is | k_exc | rfl | decide +kernel | kernel_rfl); (case lInitD => first | k_is | k_exc | rfl | decide +kernel | kernel_rfl)
    (case cInitD => first | k_is | k_exc | rfl | decide +kernel | kernel_rfl); (case kInitD => first | k_is | k_exc | rfl | decide +kernel | kernel_rfl); (case wInitD => first | k_is | k_exc | rfl | decide +kernel | kernel_rfl); (case vfInitD => first | k_is | k_exc | rfl | decide +kernel | kernel_rfl); (case rdInitU => first | k_is | k_exc | rfl | decide +kernel | kernel_rfl); (case gaInitU => first | k_is | k_exc | rfl | decide +kernel | kernel_rfl); (case fcInitU => first | k_is | k_exc | rfl | decide +kernel | kernel_rfl); (case lInitU => first | k_is | k_exc | rfl | decide +kernel | kernel_rfl); (case cInitU => first | k_is | k_exc | rfl | decide +kernel | kernel_rfl); (case kInitU => first | k_is | k_exc | rfl | decide +kernel | kernel_rfl); (case wInitS => first | k_is | k_exc | rfl | decide +kernel | kernel_rfl); (case vfInitS => first | k_is | k_exc | rfl | decide +kernel | kernel_rfl)
    (case lInitS => first | k_is | k_exc | rfl | decide +kernel | kernel_rfl); (case cInitS => first | k_is | k_exc | rfl | decide +kernel | kernel_rfl); (case kInitS => first | k_is | k_exc | rfl | decide +kernel | kernel_rfl); (case wExec => first | k_is | k_exc | rfl | decide +kernel | kernel_rfl); (case vfExec => first | k_is | k_exc | rfl | decide +kernel | kernel_rfl); (case lExec => first | k_is | k_exc | rfl | decide +kernel | kernel_rfl); (case cExec => first | k_is | k_exc | rfl | decide +kernel | kernel_rfl); (case kExec => first | k_is | k_exc | rfl | decide +kernel | kernel_rfl); (case u_NothingToUndo => first | k_is | k_exc | rfl | decide +kernel | kernel_rfl); (case q_NothingToUndo => first | k_is | k_exc | rfl | decide +kernel | kernel_rfl); (case kp_NothingToUndo => first | k_is | k_exc | rfl | decide +kernel | kernel_rfl); (case s_NothingToUndo => first | k_is | k_exc | rfl | decide +kernel | kernel_rfl)
    (case t_NothingToUndo => first | k_is | k_exc | rfl | decide +kernel | kernel_rfl); (case uNU => first | k_is | k_exc | rfl | decide +kernel | kernel_rfl); (case kNU => first | k_is | k_exc | rfl | decide +kernel | kernel_rfl); (case v1N => first | k_is | k_exc | rfl | decide +kernel | kernel_rfl); (case n1N => first | k_is | k_exc | rfl | decide +kernel | kernel_rfl); (case n2N => first | k_is | k_exc | rfl | decide +kernel | kernel_rfl); (case n3N => first | k_is | k_exc | rfl | decide +kernel | kernel_rfl); (case z1 => k_is); (case z2 => k_is); (case z3 => k_is); (case z4 => k_is); (case z5 => k_is)
    (case z6 => k_is); (case z7 => k_is); (case z8 => k_is); (case z9 => k_is); (case z10 => k_is); (case z11 => k_is); (case z12 => k_is); (case z13 => k_is); (case z14 => k_is); (case z15 => k_is)
