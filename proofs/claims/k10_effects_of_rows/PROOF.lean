import PyProof.Rows.All
import Wide.All
import OpenK.AllK
import Wide.FinOn
import HandS.ForMost
import HandS.TupMul
import HandS.TupAny
import HandS.SetFor
import HandS.Walk
import HandS.EndBits
import KE.GoesEnum
import PyProof.ReprRoads
import HandS.Zip
import HandS.NoneIn
import PySem.Challenge.RW_pressrelease_k10_effects_of_rows
set_option Elab.async false
set_option linter.all false
set_option maxRecDepth 100000
set_option maxHeartbeats 4000000
/-! A layer for laws that ask repr: a def's promise that also knows that no repr is under way. -/
namespace Pr
open PySem PySem.Spec PyProof.Rows L2

/-! ### promises of defs that may ask repr -/
structure FnG (P : Program) (w : World) (K : PySem.W.Frag) (mg : Str → Option Value) (base : Heap) (k : Nat) (f : Addr) (fd : FuncData) (ps : List Str) (sp : Sp) : Prop where
  len : ∀ vs H Q E, sp vs H Q E → vs.length = ps.length
  go : ∀ (A : Around) (outer : List Env) (s : Shared) (H : Hp) (args : Args) (us : List Value) (vs : List V) (Q : VK) (E : XK), A.guards = some [] → Room k A →
    Env0 P w K mg base A outer s H → BindsTo s fd args (ps.zip us) → Vals vs us → sp vs H Q E →
    codeAny (model P w) A (.call (.ref f) args) (CR CX0 outer P w H s Q E) s

section
variable {P : Program} {w : World} {K : PySem.W.Frag} {mg : Str → Option Value} {base : Heap}
theorem FnG.of {k : Nat} {f : Addr} {fd : FuncData} {ps : List Str} {sp : Sp} (F : FnOk P w K mg base CX0 k f fd ps sp) : FnG P w K mg base k f fd ps sp :=
  ⟨F.len, fun A outer s H args us vs Q E _ hr => F.run A outer s H args us vs Q E hr⟩

/-- a def by its body, where no repr is under way -/
theorem okG {x qual : Str} {st : Stmt} {f : Addr} {fd : FuncData} {N ps : List Str} {k : Nat} {sp : Sp} (F : Fun K x qual st f fd) (S : FnScope N ps (defScope st))
    (len : ∀ vs H Q E, sp vs H Q E → vs.length = ps.length)
    (body : ∀ (cdv : Value) (A : Around) (outer : List Env) (s : Shared) (H : Hp) (vs : List V) (Q : VK) (E : XK), A.guards = some [] →
      Room k (A.deeper (envOfC qual (defScope st) s.heap.objs.size f cdv)) → sp vs H Q E →
      ∃ t, PSs (cxOf CX0 P w K mg base N qual (defScope st) f cdv A outer s H E).nox (defBody st) t ∧ t { nx := fun _ H' => Q .non H', rt := Q } (start N vs) H) :
    FnG P w K mg base (k + 1) f fd ps sp := by
  obtain ⟨oc, od, kV, doc, pm, an, cdv, ct, osl, rfl, lk, hcd⟩ := F.ex
  refine ⟨len, fun A outer s H args us vs Q E hg hr e0 hb r hsp => ?_⟩
  have hin : K.In s.heap := e0.mod.kin.keeps fun b o e => (e0.bs b o e).1
  have hlm : s.heap.NoLimit := e0.mod.nolimit.keeps fun b o e => (e0.bs b o e).1
  refine codeAny_call_function hr.depth (hin _ _ lk) rfl S.co S.gen rfl (PySem.W.codeRec_of hin hcd) (hb _ _ _ _ ?_)
  refine wpAny_newFunctionEnv_cells S.kind (fun ⟨n, v⟩ hy => ?_) fun env he s1 x => ?_
  · rcases S.par n (List.of_mem_zip hy).1 with q | q
    · exact .inl q
    · exact .inr ⟨q, PySem.W.cellsFrom_some _ _ _ (.inl q)⟩
  · subst he
    refine ⟨hlm.keeps x.toInCall.keep, codeAny_func ?_⟩
    obtain ⟨t, ht, hq⟩ := body cdv A outer s H vs Q E hg (hr.deeper _) hsp
    have I := inv_start (CX := CX0) (E := E) S hr.hd e0 (len _ _ _ _ hsp) r x
    refine wpAny_mono (ht.nox.run [] s1 (start N vs) H _ I hq) (fun fl s' hs => ?_) fun e s' hs => hs
    cases fl with
    | ret u => obtain ⟨v, σ', H', J, rv, q⟩ := hs; exact ⟨v, H', J.os, J.bare, J.base, J.hok, rv, q⟩
    | next => obtain ⟨σ', H', J, q⟩ := hs; exact ⟨V.non, H', J.os, J.bare, J.base, J.hok, rfl, q⟩
    | brk => obtain ⟨_, _, _, q⟩ := hs; exact q.elim
    | cont => obtain ⟨_, _, _, q⟩ := hs; exact q.elim
end

section
variable {X : Cx} {k : Nat} {f : Addr} {fd : FuncData} {ps : List Str} {sp : Sp} {x : Str} {p pos : Pos} {e : Expr} {es : List Expr} {t : TA}
/-- f(e, ..) of such a def -/
theorem pe_callG (F : FnG X.prog X.w X.K X.mg X.base k f fd ps sp) (gd : X.A.guards = some []) (hr : Room k X.A) (hg : Gl X x) (hm : X.mg x = some (.ref f)) (hk : PySem.W.keepIn X.K (.ref f) = true) (hb : Binds X.K fd ps [])
    (ha : PA X (e :: es) t) (hdb : (x == ("__debug__" : Str)) = false := by decide) (he : starEach (e :: es) X.env = (false, eval e X.env) :: starEach es X.env := by rfl)
    (hpl : (backTo pos (starEach es X.env)).any (·.1) = false := by rfl) : PE X (.Call (.Name x p) (e :: es) [] pos) (tCall sp [] E0 t) := by
  refine ⟨fun pins s σ H Q I h => wpAny_Call_Name_kw (ld_glob I hg hm ?_ hdb)⟩
  refine PySem.W.callWith_K (h₀ := X.base) I.ok.mod.kin hk (thn (ha.run pos pins s σ H _ I h) fun us s1 ⟨vs, H1, I1, r, q⟩ => ⟨I1.kIn, ?_⟩) he hpl
  have q1 : sp vs H1 Q E0 := by
    have q0 : sp (vs ++ []) H1 Q E0 := q
    rwa [List.append_nil] at q0
  have hl : us.length = ps.length := by rw [← r.length]; exact F.len _ _ _ _ q1
  have hb1 : BindsTo s1 fd ⟨us, []⟩ (ps.zip us) := by
    have := hb s1 us I1.kIn (by rw [List.append_nil]; exact hl)
    rwa [List.append_nil] at this
  refine wpAny_call (codeAny_mono (F.go X.A X.stack s1 H1 ⟨us, []⟩ us vs Q E0 gd hr I1.env0 hb1 r q1) fun r' s' hq => ?_)
  cases r' with
  | error e' => exact hq.elim
  | ok fl =>
    cases fl with
    | ret u => exact I1.after hq
    | next => exact hq.elim
    | brk => exact hq.elim
    | cont => exact hq.elim
end

/-! ### repr of data that holds no dict -/
def rRepr (K : PySem.W.Frag) : List V → Hp → VK → Prop := fun xs H Q => ∃ (a : Addr) (d : PyData), xs = [.ref a] ∧ Dp K H (.ref a) d ∧ d.showable = true ∧ d.hasDict = false ∧ d.depth ≤ 60 ∧ d.shown.length ≤ sizeLine ∧ Q (.str d.shown) H
theorem call_repr {X : Cx} {k : Nat} (gd : X.A.guards = some []) (hr : Room k X.A) : CallR X (.builtin "repr") (rRepr X.K) := by
  intro pins s σ H xs us Q I rv h
  obtain ⟨a, d, rfl, hd, hs, hn, hdep, hz, q⟩ := h
  obtain ⟨u, rfl, rx⟩ := vals1 rv
  cases rx
  obtain ⟨as, r⟩ := Dp.reads I d _ _ hd rfl
  exact repr_of_reads' r hs (PyData.noDict_hsm hn) gd (by have := hr.un; omega) (fun _ _ e => e) (fun h' t tk hk => ⟨.str d.shown, H, I.kept hk, ⟨t, rfl⟩, q⟩) hz

/-! ### the law's own call -/
theorem lawG {P : Program} {w : World} {K : PySem.W.Frag} {mg mb : Str → Option Value} {k : Nat} {fa a : Addr} {fd : FuncData} {x : Str} {sp : Sp} {s1 : Shared} {vs : List Value} {ns : List Int}
    (kin : K.In s1.heap) (nsg : s1.heap.Ns mainGlobals mg) (nsb : s1.heap.Ns builtinsNs mb) (bb : ∀ y : Str, y ≠ "__name__" → mb y = bootBuiltins y) (lim : s1.heap.NoLimit) (g0 : s1.gens = #[])
    (la : s1.heap.get? a = some { cls := .type "list", data := .seq vs.toArray }) (hints : IntsAre vs ns) (few : ns.length ≤ sizeLine) (rm : Room k callerA)
    (F : ∀ base : Heap, K.In base → base.Ns mainGlobals mg → FnG P w K mg base k fa fd [x] sp) (bd : ∀ (s : Shared) (u : Value), BindsTo s fd ⟨[u], []⟩ [(x, u)])
    (wish : ∀ H : Hp, Only H → SqL K H a (ns.map V.int) → sp [.ref a] H (fun v _ => v = .bl true) E0) :
    codeAny (model P w) callerA (.call (.ref fa) ⟨[.ref a], []⟩) (fun r s' => r = .ok (.ret (.bool true)) ∧ OldK s1.heap s'.heap ∧ s'.os = s1.os ∧ AllBare s'.gens) s1 := by
  have rv := vals_ints hints
  have lv := hints.length
  have main : ∀ H : Hp, Only H → SqL K H a (ns.map V.int) → HOk P w H s1.heap → (∀ b, H b ≠ none → b = a) → (H a ≠ none → K.lookup a = none) →
      codeAny (model P w) callerA (.call (.ref fa) ⟨[.ref a], []⟩) (fun r s' => r = .ok (.ret (.bool true)) ∧ OldK s1.heap s'.heap ∧ s'.os = s1.os ∧ AllBare s'.gens) s1 := by
    intro H hO hS hok hA hK
    have out : ∀ {b : Addr} {o : Obj} {es : Array DictEntry} {ep : Nat}, s1.heap.get? b = some o → o.data = .dict es ep → H b = none := fun {b o es ep} e d => by
      cases q : H b with
      | none => rfl
      | some u =>
        obtain rfl : b = a := hA b (by rw [q]; simp)
        rw [la] at e; cases e
        exact nomatch (show Data.seq vs.toArray _ = Data.dict es ep from d)
    have nsH : ∀ {b : Addr} {m : Str → Option Value}, s1.heap.Ns b m → (hidT s1.heap H).Ns b m := fun {b m} ⟨o, es, ep, e, d, r⟩ => ⟨o, es, ep, hidT_get e (out e d), d, r⟩
    have kinH : K.In (hidT s1.heap H) := fun b o e => hidT_get (kin b o e) (by
      cases q : H b with
      | none => rfl
      | some u =>
        obtain rfl : b = a := hA b (by rw [q]; simp)
        rw [hK (by rw [q]; simp)] at e; cases e)
    have md : Mod K mg (hidT s1.heap H) := ⟨kinH, nsH nsg, ⟨mb, nsH nsb, bb⟩, let ⟨mc, h1, h2⟩ := lim; ⟨mc, nsH h1, h2⟩⟩
    have e0 : Env0 P w K mg (hidT s1.heap H) callerA [] s1 H :=
      ⟨rfl, md, fun b o e => of_hidT e, Nat.le_of_eq (hidT_size _ _), trivial, fun b hb => absurd (show b ∈ ([] : List Addr) from hb) (by simp), hok, .of_eq g0⟩
    refine codeAny_mono ((F _ kinH (nsH nsg)).go callerA [] s1 H ⟨[.ref a], []⟩ [.ref a] [.ref a] _ _ rfl rm e0 (bd s1 (.ref a)) (.cons rfl .nil) (wish H hO hS)) fun r s' h => ?_
    cases r with
    | error e => exact h.elim
    | ok fl =>
      cases fl with
      | next => exact h.elim
      | brk => exact h.elim
      | cont => exact h.elim
      | ret u =>
        obtain ⟨v, H', os, bare, un, hok', r', q⟩ := h
        obtain rfl : v = .bl true := q
        obtain rfl : u = Value.bool true := r'
        refine ⟨rfl, OldK.of_keep fun b o e => ?_, os, bare⟩
        rcases hO b with z | ⟨ob, xs, z⟩
        · exact un.keep b o e z (fun y => absurd (show b ∈ ([] : List Addr) from y) (by simp)) (by simp)
        · have e1 := (hok b _ z).1
          rw [e] at e1; cases e1
          exact (hok' b _ (un.frzs b o _ z)).1
  cases hk : K.lookup a with
  | some o =>
    have e := kin a o hk
    rw [la] at e
    cases e
    exact main (fun _ => none) (fun _ => .inl rfl) (.inr ⟨_, vs.toArray, _, hk, rfl, rfl, rfl, by rw [List.size_toArray, lv]; exact few, by simpa using rv⟩)
      (fun b u z => nomatch (show (none : Option HO) = some u from z)) (fun b z => absurd rfl z) fun z => absurd rfl z
  | none =>
    refine main (upd (fun _ => none) a (.frz { cls := .type "list", data := .seq vs.toArray } (.lst (ns.map V.int)))) (fun b => ?_) (.inl (.inr ⟨_, upd_same⟩)) (fun b u z => ?_) (fun b z => ?_) fun _ => hk
    · by_cases hb : b = a
      · subst hb; exact .inr ⟨_, _, upd_same⟩
      · exact .inl (upd_ne hb)
    · by_cases hb : b = a
      · subst hb
        rw [upd_same] at z
        cases z
        exact ⟨la, by rw [List.length_map]; exact few, vs, _, rv, la⟩
      · rw [upd_ne hb] at z; cases z
    · by_cases hb : b = a
      · exact hb
      · exact absurd (upd_ne hb) z

/-- the goal that k_head leaves, from the law's promise -/
theorem walkG {l : PySem.W.OpenLaw} {n k : Nat} {q : Program} {loose : List Str} {XP : (Str → Option Value) → Heap → Prop} {YP : World → Heap → Prop} {d : DefRec} {K : Params → PySem.W.Frag} {sp : PySem.W.Frag → Sp} {x : Str}
    (hn : l.most = some n) (hn2 : n ≤ sizeLine) (hdf : d.params.defaults = []) (hr : Room k callerA) (hY : ∀ (w : World) (h : Heap), YP w h → (K w.params).In h)
    (F : ∀ (w : World) (mg : Str → Option Value) (fa : Addr) (h : Heap), (K w.params).In h → h.Ns mainGlobals mg → mg d.name = some (.ref fa) →
      ∃ fd : FuncData, (∀ (s : Shared) (u : Value), BindsTo s fd ⟨[u], []⟩ [(x, u)]) ∧ ∀ base : Heap, (K w.params).In base → base.Ns mainGlobals mg → FnG l.prog w (K w.params) mg base k fa fd [x] (sp (K w.params)))
    (hsp : ∀ (K : PySem.W.Frag) (H : Hp) (a : Addr) (ns : List Int), ns.length ≤ n → (∀ z ∈ ns, Builtin.Int.intBits z ≤ 1048576) → Only H → SqL K H a (ns.map V.int) → sp K [.ref a] H (fun v _ => v = .bl true) E0) :
    PySem.W.WalkO q loose XP YP l.row.toRowW d [] (fun f vs => PySem.call f vs) := by
  refine Att.attach_callB hn hdf fun w s0 s1 mg mb fa o pm cd doc a vs ns G Y ho hd hcd hmg hobj hints hlen hbits hg => ?_
  obtain ⟨fd, hb, hF⟩ := F w mg fa _ (hY w _ Y) G.T.g hmg
  exact lawG (hY w _ Y) G.T.g G.T.b G.T.builtins G.T.nolimit hg hobj hints (Nat.le_trans hlen hn2) hr hF hb fun H hO hS => hsp (K w.params) H a ns hlen hbits hO hS
end Pr
namespace Pr
open PySem PySem.Spec PyProof.Rows L2

/-- a tuple of which it is known that it has no attributes of its own -/
def FT (H : Hp) (a : Addr) (xs : List V) : Prop := ∃ o : Obj, H a = some (.frz o (.tup xs)) ∧ o.dict = none
theorem FT.sq {K : PySem.W.Frag} {H : Hp} {a : Addr} {xs : List V} (h : FT H a xs) : SqT K H a xs := let ⟨o, e, _⟩ := h; .inl (.inr ⟨o, e⟩)
theorem FT.same {H H' : Hp} {a : Addr} {xs : List V} (e : Same H H') (h : FT H a xs) : FT H' a xs := let ⟨o, q, z⟩ := h; ⟨o, e _ _ q, z⟩
theorem same_sqT {K : PySem.W.Frag} {H H' : Hp} {a : Addr} {xs : List V} (e : Same H H') (h : SqT K H a xs) : SqT K H' a xs := by
  rcases h with (h | ⟨o, h⟩) | h
  · exact .inl (.inl (e _ _ h))
  · exact .inl (.inr ⟨o, e _ _ h⟩)
  · exact .inr h

section
variable {X : Cx}
/-! ### tuple(list), the tuple known -/
def rTupF (K : PySem.W.Frag) : List V → Hp → VK → Prop := fun xs H Q => ∃ p ys, xs = [.ref p] ∧ SqL K H p ys ∧ ∀ l o, H l = none → o.dict = none → Q (.ref l) (upd H l (.frz o (.tup ys)))
theorem call_tupF : CallR X (.type "tuple") (rTupF X.K) := by
  intro pins s σ H xs us Q I r h
  obtain ⟨p, ys, rfl, hq, q⟩ := h
  obtain ⟨u, rfl, rx⟩ := vals1 r
  cases rx
  obtain ⟨its, r', pl, hz⟩ := I.list hq
  have hlen := r'.length
  refine call_tuple_list pl.isList (fun h' kp => ?_) (by simp only [List.size_toArray] <;> omega)
  have I1 : Inv X pins σ H { s with heap := h' } := I.kept (t' := s.toks) kp
  have I2 := I1.laid (t' := s.toks) (h' := h'.push { cls := .type "tuple", data := .seq its.toArray }) (a := h'.objs.size)
    (o := .frz { cls := .type "tuple", data := .seq its.toArray } (.tup ys)) (fun b o e => Heap.get?_push_of_some _ e) (Nat.le_refl _) ⟨Heap.get?_push_size _ rfl, hz, its, r', IsTup.new _ _⟩
  exact ⟨.ref h'.objs.size, _, I2, rfl, q _ _ (I1.hok.fresh (Nat.le_refl _)) rfl⟩

/-! ### t.count(k) -/
def rCntT (K : PySem.W.Frag) : V → List V → Hp → VK → Prop := fun x xs H Q => ∃ (p : Addr) (ns : List Int) (k : Int), x = .ref p ∧ xs = [.int k] ∧ SqT K H p (ns.map V.int) ∧ Q (.int (ns.count k : Nat)) H
theorem mt_tcount : MtR X "tuple.count" (rCntT X.K) := by
  intro pins s σ H x xs v us Q I rx rxs h
  obtain ⟨p, ns, k, rfl, rfl, hs, q⟩ := h
  cases rx
  obtain ⟨u, rfl, t, rfl⟩ := rxs.one
  obtain ⟨its, rv, ⟨⟨cls, dd, data, sl⟩, ho, hc, n, hd⟩, hlen⟩ := I.tuple hs
  simp only at hc hd
  subst hc hd
  have hi := ints_of_vals rv
  refine call_meets PySem.F.slot_tuple_count ⟨_, ho, rfl⟩ PySem.F.entry_tuple_count (PySem.F.args_tuple_count_2 _ _)
    (SeqAt.tuple_countAt p its.toArray n dd sl (.int k t) (eqk k)) ⟨ho, fun y hy => (eqk_gives hi y (by simpa using hy)).at _ _, ?_⟩
  have ec : its.toArray.toList.countP (eqk k) = ns.count k := eqk_count hi
  rw [ec]
  exact ⟨.int (ns.count k : Nat), H, I.tok _, ⟨s.toks, rfl⟩, q⟩

/-- o.m(e, ..), o a tuple that is known -/
def tTM (r : V → List V → Hp → VK → Prop) (to : TE) (t : TA) : TE := fun σ H Q => to σ H fun x H1 => (∃ p xs, x = .ref p ∧ FT H1 p xs) ∧ t σ H1 fun vs H2 => r x vs H2 Q
theorem pe_tm {name : Str} {id : String} {r : V → List V → Hp → VK → Prop} {o e : Expr} {es : List Expr} {apos cpos : Pos} {to : TE} {t : TA} (slot : Slot "tuple" name id) (hty : typeOf (.builtin id) = pure (.type "method_descriptor")) (hm : MtR X id r) (ho : PE X o to) (ha : PA X (e :: es) t)
    (hbase : attributeBase o name X.env (eval o X.env) = eval o X.env := by rfl)
    (hfew : ((backTo cpos (starEach (e :: es) X.env)).all (fun x => !x.1) && (backToKw cpos (keywordEach [] X.env)).all (fun x => x.1.isSome) && decide ((e :: es).length + ([] : List Keyword).length + (if ([] : List Keyword).isEmpty then 0 else 1) < 30)) = true := by rfl)
    (hline : (apos.endLine == cpos.line) = true := by rfl) (hs : starEach (e :: es) X.env = (false, eval e X.env) :: starEach es X.env := by rfl)
    (hplain : (backTo cpos (starEach es X.env)).any (·.1) = false := by rfl) : PE X (.Call (.Attribute o name apos) (e :: es) [] cpos) (tTM r to t) := by
  refine ⟨fun pins s σ H Q I h => wpAny_Call_method_late hbase hfew hline rfl (thn (ho.run pins s σ H _ I h) fun v s1 ⟨x, H1, I1, r1, ⟨p, xs, ex, ob, hp, hdn⟩, q1⟩ => ?_)⟩
  subst ex
  cases r1
  obtain ⟨g1, _, its, _, ⟨o2, g2, hc, _⟩⟩ := I1.hok p _ hp
  rw [g1] at g2
  cases g2
  refine ⟨"tuple", id, PySem.F.plainAttrs_tuple, slot, hty, ⟨ob, g1, hc⟩, fun a e => by cases e; exact ⟨ob, g1, hdn⟩, ?_⟩
  have hA := ha.run cpos pins s1 σ H1 _ I1 q1
  rw [hs] at hA ⊢
  refine Calls.callWith_builtin (by show (false || (backTo cpos (starEach es X.env)).any (·.1)) = false; rw [hplain] <;> rfl) (Calls.evalArgs_plain ?_)
  exact thn hA fun us s2 ⟨vs, H2, I2, r2, q2⟩ => hm pins s2 σ H2 (.ref p) vs (.ref p) us Q I2 rfl r2 q2
end

/-! ### (x,) * 0 and (x,) * 1 -/
theorem tup_mul0 (l : Addr) (y : Value) (n : Nat) (dd : Option Addr) (sl : Array (Option Value)) (u : Tok) :
    Meets (Builtin.«tuple.__mul__» ⟨[.ref l, .int 0 u], []⟩) (fun _ R s => s.heap.get? l = some { cls := .type "tuple", dict := dd, data := .seq #[y] n, slots := sl } ∧
      R (.ok (.ret (Value.ref s.heap.objs.size))) { s with heap := s.heap.push { cls := Value.type "tuple", data := Data.seq #[] }, toks := s.toks }) :=
  .of_wp fun prog w A R s h => by
    obtain ⟨hp, g, d, tk, os⟩ := s
    obtain ⟨hl, h⟩ := h
    have f1 := AutoSeq1.idx_int
    wp_walk using AutoSeq1.wpAny_loadPart' hl
    exact ⟨_, rfl, h⟩
theorem tup_mul1 (l : Addr) (y : Value) (n : Nat) (dd : Option Addr) (sl : Array (Option Value)) (u : Tok) :
    Meets (Builtin.«tuple.__mul__» ⟨[.ref l, .int 1 u], []⟩) (fun _ R s => s.heap.get? l = some { cls := .type "tuple", dict := dd, data := .seq #[y] n, slots := sl } ∧ R (.ok (.ret (.ref l))) s) :=
  .of_wp fun prog w A R s h => by
    obtain ⟨hp, g, d, tk, os⟩ := s
    obtain ⟨hl, h⟩ := h
    have f1 := AutoSeq1.idx_int
    wp_walk using AutoSeq1.wpAny_loadPart' hl
    exact ⟨_, rfl, h⟩
section
variable {X : Cx}
def rRep1 (K : PySem.W.Frag) : R2 := fun x y H Q => ∃ l v, x = .ref l ∧ SqT K H l [v] ∧ ((y = .int 1 ∧ Q (.ref l) H) ∨ (y = .int 0 ∧ ∀ p, H p = none → Q (.ref p) (upd H p (.tup []))))
theorem op_rep1 : OpR X (binaryOp .Mult) (rRep1 X.K) := by
  intro pins s σ H x y v u Q I rx ry h
  obtain ⟨l, z, rfl, hT, h⟩ := h
  cases rx
  obtain ⟨its, r, ⟨⟨cls, dd, data, sl⟩, ho, hc, n, hd⟩, hs⟩ := I.tuple hT
  simp only at hc hd
  subst hc hd
  obtain ⟨a, rfl, ra⟩ := vals1 r
  rcases h with ⟨rfl, q⟩ | ⟨rfl, q⟩
  · obtain ⟨t, rfl⟩ := ry
    refine wpAny_binaryOp_repeat_ref (T := "tuple") (U := "int") (by decide) ⟨_, ho, rfl⟩ (fun s' => typeIs_int s' 1 t) noFill_tuple_mul F.fills_int_mul F.slot_int_rmul repeat_tuple F.slot_int_index.lookup
      (call_meets F.slot_int_rmul (typeIs_int s 1 t) F.entry_int_rmul (F.args_int_rmul_2 _ _) (int_rmul_tuple 1 t l #[a] n dd sl)
        ⟨ho, rfl, ⟨_, ho, rfl⟩, call_meets F.slot_tuple_mul ⟨_, ho, rfl⟩ F.entry_tuple_mul (F.args_tuple_mul_2 _ _) (tup_mul1 l a n dd sl t) ⟨ho, ?_⟩⟩)
    exact ⟨.ref l, H, I, rfl, q⟩
  · obtain ⟨t, rfl⟩ := ry
    refine wpAny_binaryOp_repeat_ref (T := "tuple") (U := "int") (by decide) ⟨_, ho, rfl⟩ (fun s' => typeIs_int s' 0 t) noFill_tuple_mul F.fills_int_mul F.slot_int_rmul repeat_tuple F.slot_int_index.lookup
      (call_meets F.slot_int_rmul (typeIs_int s 0 t) F.entry_int_rmul (F.args_int_rmul_2 _ _) (int_rmul_tuple 0 t l #[a] n dd sl)
        ⟨ho, rfl, ⟨_, ho, rfl⟩, call_meets F.slot_tuple_mul ⟨_, ho, rfl⟩ F.entry_tuple_mul (F.args_tuple_mul_2 _ _) (tup_mul0 l a n dd sl t) ⟨ho, ?_⟩⟩)
    refine ⟨.ref s.heap.objs.size, _, I.laid (t' := s.toks) (o := .tup []) (fun b ob q => Heap.get?_push_of_some _ q) (Nat.le_refl _) ?_, rfl, q _ (I.hok.fresh (Nat.le_refl _))⟩
    exact ⟨Nat.zero_le _, [], .nil, IsTup.new _ _⟩
end

/-! ### enumerate(tuple) -/
theorem enum_newT (l : Addr) (items : Array Value) (n : Nat) (dct : Option Addr) (sl : Array (Option Value)) :
    Meets (Builtin.«enumerate.__new__» ⟨[.type "enumerate", .ref l], []⟩) (fun _ R s => s.heap.get? l = some { cls := .type "tuple", dict := dct, data := .seq items n, slots := sl } ∧
      R (.ok (.ret (.ref (s.heap.push { cls := .type "tuple_iterator", data := .fields #[.ref l, .int 0 0] }).objs.size)))
        { s with heap := (s.heap.push { cls := .type "tuple_iterator", data := .fields #[.ref l, .int 0 0] }).push { cls := .type "enumerate", data := .fields #[.none, .bool false, .ref s.heap.objs.size, rawInt 0, .none, .none] } }) :=
  .of_wp fun prog w A R s h => by
    obtain ⟨hp, g, d, tk, os⟩ := s; obtain ⟨hl, h⟩ := h
    have hsub := sub_enumerate
    have hL : Heap.IsTuple (Shared.heap ⟨hp, g, d, tk, os⟩) l items := ⟨_, hl, rfl, n, rfl⟩
    wp_walk using AutoSeq1.wpAny_loadPart' hl
    refine wpAny_stack_any fun st => wpAny_pure ?_
    split
    · rename_i c _ _ _ _ _
      cases (c == Value.type "enumerate") <;> (wp_walk using AutoSeq1.wpAny_loadPart' hl, wpAny_pyIter_tuple hL; exact ⟨_, rfl, h⟩)
    · wp_walk using AutoSeq1.wpAny_loadPart' hl, wpAny_pyIter_tuple hL
      exact ⟨_, rfl, h⟩
theorem call_enumT {prog : Program} {w : World} {A : Around} {E : Value → Shared → Prop} {s : Shared} {l : Addr} {items : Array Value} {Q : Value → Shared → Prop} (hL : s.heap.IsTuple l items)
    (h : ∀ h', IsEnum h' (s.heap.objs.size + 1) s.heap.objs.size 0 .none → h'.IsTupleIter s.heap.objs.size l 0 → h'.objs.size = s.heap.objs.size + 2 →
      (∀ b o, s.heap.get? b = some o → h'.get? b = some o) → Q (.ref (s.heap.objs.size + 1)) { s with heap := h' }) :
    wpAny (model prog w) A (call (.type "enumerate") [.ref l]) Q E s := by
  obtain ⟨⟨c, dct, dt, sl⟩, hl, hc, n, hd⟩ := hL
  simp only at hc hd
  subst hc hd
  refine callType_new F.called_enumerate (by decide) (F.typeCall_enumerate_1 _) (F.newCall_enumerate_1 _) (fun obj => F.args_object_init_2 obj _) F.entry_enumerate_new (enum_newT l items n dct sl) ⟨hl, ?_⟩
  generalize ho : ({ cls := .type "tuple_iterator", data := .fields #[.ref l, .int 0 0] } : Obj) = o1
  have f1 : o1.isFreed = false := by rw [← ho]; rfl
  generalize hp : ({ cls := .type "enumerate", data := .fields #[.none, .bool false, .ref s.heap.objs.size, rawInt 0, .none, .none] } : Obj) = o2
  have f2 : o2.isFreed = false := by rw [← hp]; rfl
  have hz : (s.heap.push o1).objs.size = s.heap.objs.size + 1 := Heap.size_push ..
  have hg := Heap.get?_push_size (s.heap.push o1) (o := o2) f2
  show _ ∧ _
  rw [hz] at hg ⊢
  have he : IsEnum ((s.heap.push o1).push o2) (s.heap.objs.size + 1) s.heap.objs.size 0 .none := by rw [hp.symm] at hg ⊢; exact hg
  refine ⟨⟨_, he, rfl⟩, h _ he ⟨_, Heap.get?_push_of_some _ (Heap.get?_push_size _ f1), by rw [← ho], by rw [← ho]; rfl⟩ (by rw [Heap.size_push, hz]) fun b o x => Heap.get?_push_of_some _ (Heap.get?_push_of_some _ x)⟩
/-- the tuple at a, each item in a new pair -/
def Itet (K : PySem.W.Frag) (a : Addr) : It :=
  ⟨fun i H => ∃ (xs : List V) (x : V), SqT K H a xs ∧ xs[i]? = some x, fun i H v H' => ∃ T x, v = .ref T ∧ H T = none ∧ H' = upd H T (.tup [.int (i : Nat), x]) ∧ ∀ xs, SqT K H a xs → xs[i]? = some x,
    fun i H => ∃ xs : List V, SqT K H a xs ∧ xs.length ≤ i⟩
theorem turn_enumT {P : Program} {w : World} {K : PySem.W.Frag} {elts : List Expr} {kk : Nat} {tpos : Pos} (a e it : Addr) :
    Turn P w K (.Tuple elts kk tpos) (Itet K a) [e, it] e (fun i h => (∃ old, IsEnum h e it ((i : Nat) : Int) old) ∧ h.IsTupleIter it a i ∧ e ≠ it) where
  mem := by simp
  obj := fun i h st b hb => by
    obtain ⟨⟨old, he⟩, ⟨o, ho, hc, hd⟩, _⟩ := st
    rcases (show b = e ∨ b = it by simpa using hb) with rfl | rfl
    · exact ⟨_, he, fun v q => nomatch q⟩
    · exact ⟨o, ho, fun v q => by rw [hd] at q; cases q⟩
  keep := fun i h h' st k => let ⟨⟨old, he⟩, hi, hne⟩ := st; ⟨⟨old, k e (by simp) _ he⟩, hi.at fun o q => k it (by simp) o q, hne⟩
  item := by
    intro X hP hw hK hc i pins s σ H E I hf st hg
    subst hP hw hK
    obtain ⟨⟨old, he⟩, hit, hne⟩ := st
    obtain ⟨xs, x, hq, hx⟩ := hg
    obtain ⟨its, rv, pt, hz⟩ := I.tuple hq
    have hT : s.heap.IsTuple a its.toArray := pt
    obtain ⟨u, hu, ru⟩ := rv.get hx
    have hel : e < s.heap.objs.size := Heap.lt_size he
    have hil : it < s.heap.objs.size := by obtain ⟨_, q, _⟩ := hit; exact Heap.lt_size q
    have nai : a ≠ it := fun z => by
      subst z
      obtain ⟨o1, q1, c1, _⟩ := hit
      obtain ⟨o2, q2, c2, _⟩ := hT
      rw [q1] at q2; cases q2
      rw [c1] at c2; exact absurd c2 (by decide)
    have nea : e ≠ a := fun z => by
      subst z
      obtain ⟨o2, q2, c2, _⟩ := hT
      have he' : s.heap.get? e = _ := he
      rw [he'] at q2; cases q2
      exact absurd (show Value.type "enumerate" = Value.type "tuple" from c2) (by decide)
    have hi : i < its.toArray.size := by
      have := (List.getElem?_eq_some_iff.mp hu).1
      simpa using this
    refine wpAny_pyNext_enum_itemD (Draws.tuple (A := X.A.in1) (I.ok.hd hc) it a nai its.toArray) he ⟨hit, hT⟩ hi hne (by simp [hne, nea]) fun y h' tk hy ho hit' hT' hsz hk => ?_
    obtain rfl : y = u := by
      have hy' : its.toArray[i]? = some y := hy
      rw [List.getElem?_toArray, hu] at hy'
      exact (Option.some.inj hy').symm
    refine ⟨_, rfl, wpAny_letOwnedTupleGo_enum (s := { s with heap := h', toks := tk + 1 }) ho fun h'' he' sb => ?_⟩
    have hT2 : h''.get? s.heap.objs.size = some { cls := .type "tuple", data := .seq #[.int i tk, y] } := (sb.2 _ (Nat.ne_of_gt hel)).trans hT'
    have new : ObjOk X.prog X.w (upd H s.heap.objs.size (.tup [.int (i : Nat), x])) h'' s.heap.objs.size (.tup [.int (i : Nat), x]) :=
      ⟨by show 2 ≤ sizeLine; decide, [.int i tk, y], .cons ⟨_, rfl⟩ (.cons ru .nil), ⟨_, hT2, rfl, _, rfl⟩⟩
    have I1 := I.turnedNew (t' := tk + 1) (ch := [e, it]) (fun b ob hb q => (sb.2 b (fun z => hb (by simp [z]))).trans (hk b ob (fun z => hb (by simp [z])) (fun z => hb (by simp [z])) q)) hf (Nat.le_refl _) new
    refine ⟨.ref s.heap.objs.size, _, I1, rfl, ⟨_, x, rfl, I.hok.fresh (Nat.le_refl _), rfl, fun ys hys => by rw [I.tuple_inj hys hq]; exact hx⟩, ⟨⟨y, ?_⟩, hit'.1.at fun o q => (sb.2 it (Ne.symm hne)).trans q, hne⟩, fun b hb => ?_⟩
    · rw [show ((i + 1 : Nat) : Int) = (i : Int) + 1 by omega]; exact he'
    · have hb' : b < s.heap.objs.size := by
        rcases (show b = e ∨ b = it by simpa using hb) with rfl | rfl
        · exact hel
        · exact hil
      rw [upd_ne (Nat.ne_of_lt hb')]
      exact (hf b hb).1
  done := by
    intro X hP hw hK hc i pins s σ H E I hf st hg
    subst hP hw hK
    obtain ⟨⟨old, he⟩, hit, hne⟩ := st
    obtain ⟨xs, hq, hx⟩ := hg
    obtain ⟨its, rv, pt, hz⟩ := I.tuple hq
    have hT : s.heap.IsTuple a its.toArray := pt
    obtain ⟨f0, f1, f2, f3, f4, f5⟩ := hf it (by simp)
    have hl := rv.length
    have hT : s.TypeIs (.ref e) "enumerate" := ⟨_, he, rfl⟩
    unfold pyNext
    refine wpAny_bind (wpAny_attempt (wpAny_callSpecial?_slot (name := Str.ofString "__next__") hT F.slot_enumerate_next (wpAny_call_entry F.slot_enumerate_next hT F.entry_enumerate_next ?_ (F.args_enumerate_next_1 _))))
    show wpAny _ _ (field (.ref e) 2 >>= _) _ _ _
    refine wpAny_bind (wpAny_field he rfl (x := .ref it) rfl ?_)
    refine wpAny_bind (wpAny_nextOf_tuple_end (I.ok.hd hc) hit pt (by simp; omega) fun h' x eb hx' => ?_)
    obtain ⟨o, ho, hcx⟩ := hx'
    refine wpAny_bind (wpAny_isInstance (T := "StopIteration") (b := true) ⟨o, ho, hcx⟩ isSubtype_stop ?_)
    exact wpAny_pure ⟨rfl, I.turned (t' := s.toks) (fun b o hb q => eb b o hb q) f0 f1 f3 f4 f5⟩
  self := fun A i s Q E st h => let ⟨⟨_, he⟩, _⟩ := st; wpAny_pyIter_enum he h
def iEnumT (K : PySem.W.Frag) (ta : TA) : TI := fun σ H R => ta σ H fun vs H1 => ∃ a xs, vs = [.ref a] ∧ SqT K H1 a xs ∧ R (Itet K a) H1
theorem pi_enumT {X : Cx} {e : Expr} {ta : TA} {p pos tpos : Pos} {elts : List Expr} {kk : Nat} (hg : Gl X "enumerate") (hm : X.mg "enumerate" = none) (ha : PA X [e] ta)
    (hs : starEach [e] X.env = [(false, eval e X.env)] := by rfl) : PI X (.Tuple elts kk tpos) (.Call (.Name "enumerate" p) [e] [] pos) (iEnumT X.K ta) := by
  refine ⟨fun pins s σ H R I h => Call_ (ld_blt I hg hm boot_enumerate (PyProof.Rows.callWith_type1 (thn (ha.run pos pins s σ H _ I h) fun us s1 ⟨vs, H1, I1, r1, a, xs, ex, hq, q⟩ => ?_) hs rfl))⟩
  subst ex
  obtain ⟨u, rfl, rx⟩ := vals1 r1
  cases rx
  obtain ⟨its, rv, pt, hz⟩ := I1.tuple hq
  refine call_enumT pt fun h' he hit hsz hk => wpAny_pyIter_enum he ?_
  refine ⟨s1.heap.objs.size + 1, [s1.heap.objs.size + 1, s1.heap.objs.size], _, _, H1, rfl, I1.kept (t' := s1.toks) hk, turn_enumT a (s1.heap.objs.size + 1) s1.heap.objs.size, ⟨⟨.none, he⟩, hit, Nat.succ_ne_self _⟩, fun b hb => ?_, q⟩
  have hle : s1.heap.objs.size ≤ b := by
    rcases (show b = s1.heap.objs.size + 1 ∨ b = s1.heap.objs.size by simpa using hb) with rfl | rfl
    · exact Nat.le_add_right _ _
    · exact Nat.le_refl _
  exact I1.fpOk hle (I1.hok.fresh hle)
theorem walk_enumT {K : PySem.W.Frag} {a : Addr} {xs : List V} : Walk (Itet K a) xs.length (fun H => SqT K H a xs) (YPair (fun i => some (.int (i : Nat))) (fun i => xs[i]?)) := by
  refine ⟨fun i _ hi q => ⟨xs, xs[i], q, by simp [hi]⟩, fun _ q => ⟨xs, q, Nat.le_refl _⟩, fun i H v H' _ q y => ?_⟩
  obtain ⟨T, x, h1, h2, h3, h4⟩ := y
  exact ⟨T, .int (i : Nat), x, h1, h2, h3, rfl, h4 xs q⟩
end Pr
namespace Pr
open PySem PySem.Spec PyProof.Rows L2
/-! ### data that repr can show: how deep, how long -/
structure Shw (dep n : Nat) (d : PyData) : Prop where
  sh : d.showable = true
  nd : d.hasDict = false
  dp : d.depth ≤ dep
  ln : d.shown.length ≤ n
theorem Shw.mono {dep dep' n n' : Nat} {d : PyData} (h : Shw dep n d) (h1 : dep ≤ dep') (h2 : n ≤ n') : Shw dep' n' d := ⟨h.sh, h.nd, Nat.le_trans h.dp h1, Nat.le_trans h.ln h2⟩
theorem Shw.int {i : Int} {k : Nat} (h0 : 0 ≤ i) (hk : 0 < k) (hk2 : k ≤ 100) (h : i < 10 ^ k) : Shw 0 k (.int i) := by
  refine ⟨?_, by simp only [PyData.hasDict], by simp [PyData.depth], ?_⟩
  · simp only [PyData.showable, decide_eq_true_eq]
    by_cases hz : i.natAbs = 0
    · rw [hz]; decide
    · refine (Nat.log2_lt hz).mpr ?_
      have h1 : (i.natAbs : Int) < ((10 ^ k : Nat) : Int) := by
        rw [Int.natCast_pow]
        have : ((i.natAbs : Nat) : Int) = i := Int.natAbs_of_nonneg h0
        rw [this]; exact h
      have h2 : i.natAbs < 10 ^ k := by exact_mod_cast h1
      have h3 : (10 : Nat) ^ k ≤ 10 ^ 100 := Nat.pow_le_pow_right (by decide) hk2
      have h4 : (10 : Nat) ^ 100 < 2 ^ 1920 := by decide +kernel
      omega
  · simp only [PyData.shown]
    exact toString_length_le h0 hk h
theorem shownAll_map : ∀ ds : List PyData, PyData.shownAll ds = ds.map PyData.shown
  | [] => rfl
  | d :: r => by simp only [PyData.shownAll, List.map_cons, shownAll_map r]
theorem piled_le {n : Nat} : ∀ {ds : List PyData}, (∀ d ∈ ds, d.shown.length ≤ n) → piled (ds.map PyData.shown) ≤ ds.length * (n + 2)
  | [], _ => by simp [piled_nil]
  | d :: r, h => by
    have h1 := piled_le (ds := r) fun x hx => h x (List.mem_cons_of_mem _ hx)
    have h2 := h d List.mem_cons_self
    rw [List.map_cons, piled_cons, List.length_cons, Nat.succ_mul]
    omega
theorem showAll_of {dep n : Nat} : ∀ {ds : List PyData}, (∀ d ∈ ds, Shw dep n d) → PyData.showableAll ds = true ∧ PyData.hasDictAll ds = false ∧ PyData.depthAll ds ≤ dep
  | [], _ => ⟨by simp only [PyData.showableAll], by simp only [PyData.hasDictAll], by simp [PyData.depthAll]⟩
  | d :: r, h => by
    obtain ⟨h1, h2, h3⟩ := showAll_of (ds := r) fun x hx => h x (List.mem_cons_of_mem _ hx)
    have g := h d List.mem_cons_self
    refine ⟨by simp only [PyData.showableAll, g.sh, h1, Bool.and_self], by simp only [PyData.hasDictAll, g.nd, h2, Bool.or_self], ?_⟩
    simp only [PyData.depthAll]
    exact Nat.max_le.mpr ⟨g.dp, h3⟩
theorem tupleText_len (ts : List Str) : (tupleText ts).length ≤ piled ts + 3 := by
  unfold tupleText
  rw [strLen_append, strLen_append]
  have e1 : (("(" : Str)).length = 1 := by decide +kernel
  have e2 : ((if ts.length == 1 then ",)" else ")" : String) : Str).length ≤ 2 := by
    cases ts.length == 1 <;> decide +kernel
  by_cases h : ts = []
  · subst h
    have : (Str.join ", " ([] : List Str)).length = 0 := by decide +kernel
    omega
  · have := join_length_add ts h
    omega
theorem textFrom_le : ∀ (ts : List Str) (k : Nat) (acc : Str), (textFrom k acc ts).length ≤ acc.length + piled ts
  | [], k, acc => by simp [textFrom, piled_nil]
  | t :: r, k, acc => by
    have h := textFrom_le r (k + 1) (acc ++ (if k > 0 then ", " else "" : String) ++ t)
    rw [piled_cons]
    show (textFrom (k + 1) _ r).length ≤ _
    have e : ((if k > 0 then ", " else "" : String) : Str).length ≤ 2 := by split <;> decide +kernel
    rw [strLen_append, strLen_append] at h
    omega
theorem listText_len (ts : List Str) : (listText ts).length ≤ piled ts + 2 := by
  unfold listText
  rw [strLen_append]
  have h := textFrom_le ts 0 "["
  have e1 : (("[" : Str)).length = 1 := by decide +kernel
  have e2 : (("]" : Str)).length = 1 := by decide +kernel
  omega
theorem Shw.tuple {dep n m : Nat} {ds : List PyData} (h : ∀ d ∈ ds, Shw dep n d) (hm : ds.length ≤ m) : Shw (dep + 1) (m * (n + 2) + 3) (.tuple ds) := by
  obtain ⟨h1, h2, h3⟩ := showAll_of h
  refine ⟨by simp only [PyData.showable, h1], by simp only [PyData.hasDict, h2], by simp only [PyData.depth]; omega, ?_⟩
  simp only [PyData.shown]
  rw [shownAll_map]
  have a1 := tupleText_len (ds.map PyData.shown)
  have a2 := piled_le fun d hd => (h d hd).ln
  have a3 : ds.length * (n + 2) ≤ m * (n + 2) := Nat.mul_le_mul_right _ hm
  omega
theorem Shw.list {dep n m : Nat} {ds : List PyData} (h : ∀ d ∈ ds, Shw dep n d) (hm : ds.length ≤ m) : Shw (dep + 1) (m * (n + 2) + 3) (.list ds) := by
  obtain ⟨h1, h2, h3⟩ := showAll_of h
  refine ⟨by simp only [PyData.showable, h1], by simp only [PyData.hasDict, h2], by simp only [PyData.depth]; omega, ?_⟩
  simp only [PyData.shown]
  rw [shownAll_map]
  have a1 := listText_len (ds.map PyData.shown)
  have a2 := piled_le fun d hd => (h d hd).ln
  have a3 : ds.length * (n + 2) ≤ m * (n + 2) := Nat.mul_le_mul_right _ hm
  omega

/-! ### the deck, panels -/
/-- only what stands at a and c may have changed -/
def But (a c : Addr) (H H' : Hp) : Prop := ∀ b o, b ≠ a → b ≠ c → H b = some o → H' b = some o
theorem But.refl (a c : Addr) (H : Hp) : But a c H H := fun _ _ _ _ h => h
theorem But.trans {a c : Addr} {H H1 H2 : Hp} (x : But a c H H1) (y : But a c H1 H2) : But a c H H2 := fun b o h1 h2 h => y b o h1 h2 (x b o h1 h2 h)
theorem But.of {a c : Addr} {H H' : Hp} (x : Same H H') : But a c H H' := fun b o _ _ h => x b o h
theorem same_new {H : Hp} {p : Addr} {o : HO} (h : H p = none) : Same H (upd H p o) := fun b x e => by
  rw [upd_ne (ne_of_none e h)]; exact e
/-- the deck at a, its cells at c, m draws may still be made -/
def Deck (H : Hp) (a c : Addr) (m : Nat) : Prop :=
  ∃ (cells : List Int) (n : Nat), H a = some (.lst [.ref c, .int (n : Int)]) ∧ H c = some (.lst (cells.map V.int)) ∧ a ≠ c ∧ cells.length ≤ 63 ∧ n + m ≤ 1000000
theorem Deck.same {H H' : Hp} {a c : Addr} {m : Nat} (e : Same H H') (h : Deck H a c m) : Deck H' a c m :=
  let ⟨cs, n, h1, h2, h3⟩ := h; ⟨cs, n, e _ _ h1, e _ _ h2, h3⟩
theorem Deck.less {H : Hp} {a c : Addr} {m m' : Nat} (h : Deck H a c m) (z : m' ≤ m) : Deck H a c m' :=
  let ⟨cs, n, h1, h2, h3, h4, h5⟩ := h; ⟨cs, n, h1, h2, h3, h4, by omega⟩
theorem Deck.apart {H : Hp} {a c : Addr} {m : Nat} (h : Deck H a c m) {b : Addr} {o : HO} (e : H b = some o) (ho : ∀ xs, o ≠ .lst xs) : b ≠ a ∧ b ≠ c := by
  obtain ⟨cs, n, h1, h2, _⟩ := h
  exact ⟨ne_of e h1 (ho _), ne_of e h2 (ho _)⟩
theorem Deck.fresh {H : Hp} {a c : Addr} {m : Nat} (h : Deck H a c m) {b : Addr} (e : H b = none) : b ≠ a ∧ b ≠ c := by
  obtain ⟨cs, n, h1, h2, _⟩ := h
  exact ⟨Ne.symm (ne_of_none h1 e), Ne.symm (ne_of_none h2 e)⟩
theorem FT.but {H H' : Hp} {a c p : Addr} {m : Nat} {xs : List V} (d : Deck H a c m) (b : But a c H H') (h : FT H p xs) : FT H' p xs := by
  obtain ⟨o, e, z⟩ := h
  have q := d.apart e (fun _ => by intro z; cases z)
  exact ⟨o, b _ _ q.1 q.2 e, z⟩
theorem tup_but {H H' : Hp} {a c p : Addr} {m : Nat} {xs : List V} (d : Deck H a c m) (b : But a c H H') (h : H p = some (.tup xs)) : H' p = some (.tup xs) := by
  have q := d.apart h (fun _ => by intro z; cases z)
  exact b _ _ q.1 q.2 h
/-- a panel at p -/
def PanAt (H : Hp) (p : Addr) (pan : List (List Int)) : Prop := ∃ qs : List Addr, FT H p (qs.map V.ref) ∧ Paired (fun q l => FT H q (l.map V.int)) qs pan
theorem PanAt.same {H H' : Hp} {p : Addr} {pan : List (List Int)} (e : Same H H') (h : PanAt H p pan) : PanAt H' p pan :=
  let ⟨qs, h1, h2⟩ := h; ⟨qs, h1.same e, h2.mono fun _ _ x => x.same e⟩
theorem PanAt.but {H H' : Hp} {a c p : Addr} {m : Nat} {pan : List (List Int)} (d : Deck H a c m) (b : But a c H H') (h : PanAt H p pan) : PanAt H' p pan :=
  let ⟨qs, h1, h2⟩ := h; ⟨qs, h1.but d b, h2.mono fun _ _ x => x.but d b⟩
theorem paired_get {α β : Type} {F : α → β → Prop} : ∀ {l1 : List α} {l2 : List β}, Paired F l1 l2 → ∀ (i : Nat) (y : β), l2[i]? = some y → ∃ x, l1[i]? = some x ∧ F x y
  | _, _, .nil, i, y, h => by simp at h
  | _, _, .cons r t, 0, y, h => by simp at h; subst h; exact ⟨_, rfl, r⟩
  | _, _, .cons r t, i + 1, y, h => by
    obtain ⟨x, h1, h2⟩ := paired_get t i y (by simpa using h)
    exact ⟨x, by simpa using h1, h2⟩
/-- what the document calls a panel of at most ten buttons -/
structure Good (pan : List (List Int)) : Prop where
  pos : 1 ≤ pan.length
  few : pan.length ≤ 10
  up : ∀ l ∈ pan, l.Pairwise (· < ·)
  rng : ∀ l ∈ pan, ∀ x ∈ l, 0 ≤ x ∧ x < (pan.length : Int)
  own : ∀ (i : Nat) (l : List Int), pan[i]? = some l → (i : Int) ∉ l
def dInts (l : List Int) : PyData := .tuple (l.map PyData.int)
def dPan (pan : List (List Int)) : PyData := .tuple (pan.map dInts)
section
variable {K : PySem.W.Frag} {H : Hp}
theorem dpAll_ints : ∀ l : List Int, DpAll K H (l.map V.int) (l.map PyData.int)
  | [] => .nil
  | x :: r => .cons (.int x) (dpAll_ints r)
theorem dp_ints {q : Addr} {l : List Int} (h : SqT K H q (l.map V.int)) : Dp K H (.ref q) (dInts l) := .tup h (dpAll_ints l)
theorem dpAll_pan : ∀ {qs : List Addr} {pan : List (List Int)}, Paired (fun q l => FT H q (l.map V.int)) qs pan → DpAll K H (qs.map V.ref) (pan.map dInts)
  | _, _, .nil => .nil
  | _, _, .cons r t => .cons (dp_ints r.sq) (dpAll_pan t)
theorem PanAt.dp {p : Addr} {pan : List (List Int)} (h : PanAt H p pan) : Dp K H (.ref p) (dPan pan) := by
  obtain ⟨qs, h1, h2⟩ := h
  exact .tup h1.sq (dpAll_pan h2)
end
theorem pw_length {n : Nat} : ∀ {l : List Int} {lo : Int}, l.Pairwise (· < ·) → (∀ x ∈ l, lo ≤ x ∧ x < lo + n) → l.length ≤ n := by
  induction n with
  | zero =>
    intro l lo _ h
    cases l with
    | nil => exact Nat.le_refl _
    | cons x r => have := h x List.mem_cons_self; omega
  | succ n ih =>
    intro l lo hp h
    cases l with
    | nil => exact Nat.zero_le _
    | cons x r =>
      have hx := h x List.mem_cons_self
      rw [List.pairwise_cons] at hp
      have := ih (l := r) (lo := lo + 1) hp.2 fun y hy => by
        have h1 := hp.1 y hy
        have h2 := h y (List.mem_cons_of_mem _ hy)
        omega
      rw [List.length_cons]; omega
theorem shw_ints {l : List Int} {m : Nat} (hl : l.length ≤ m) (h : ∀ x ∈ l, 0 ≤ x ∧ x < 10) : Shw 1 (m * 3 + 3) (dInts l) := by
  refine Shw.tuple (fun d hd => ?_) (by rw [List.length_map]; exact hl)
  obtain ⟨x, hx, rfl⟩ := List.mem_map.mp hd
  exact Shw.int (h x hx).1 (by decide) (by decide) (h x hx).2
theorem Good.shw {pan : List (List Int)} (g : Good pan) : Shw 2 353 (dPan pan) := by
  have := Shw.tuple (dep := 1) (n := 33) (m := 10) (ds := pan.map dInts) (fun d hd => ?_) (by rw [List.length_map]; exact g.few)
  · exact this
  · obtain ⟨l, hl, rfl⟩ := List.mem_map.mp hd
    have hf := g.few
    refine shw_ints (m := 10) (pw_length (n := 10) (lo := 0) (g.up l hl) fun x hx => ?_) fun x hx => ?_
    · have := g.rng l hl x hx; omega
    · have := g.rng l hl x hx; omega
end Pr
/-! Presses, as plain functions. -/
namespace Pr
open PySem PySem.Spec PyProof.Rows L2
def intL (n : Nat) : List Int := (List.range n).map fun i : Nat => (i : Int)
theorem mem_intL {n : Nat} {x : Int} : x ∈ intL n ↔ 0 ≤ x ∧ x < (n : Int) := by
  unfold intL
  rw [List.mem_map]
  constructor
  · rintro ⟨i, hi, rfl⟩
    have := List.mem_range.mp hi
    omega
  · rintro ⟨h0, h1⟩
    exact ⟨x.toNat, List.mem_range.mpr (by omega), Int.toNat_of_nonneg h0⟩
theorem intL_up (n : Nat) : (intL n).Pairwise (· < ·) := by
  unfold intL
  rw [List.pairwise_map]
  exact List.pairwise_lt_range.imp fun {a b} (h : a < b) => by omega
theorem intL_len (n : Nat) : (intL n).length = n := by unfold intL; rw [List.length_map, List.length_range]
theorem intL_succ (n : Nat) : intL (n + 1) = intL n ++ [(n : Int)] := by unfold intL; rw [List.range_succ, List.map_append]; rfl
/-- a state of n buttons -/
structure Asc (n : Nat) (st : List Int) : Prop where
  up : st.Pairwise (· < ·)
  rng : ∀ x ∈ st, 0 ≤ x ∧ x < (n : Int)
theorem Asc.nil (n : Nat) : Asc n [] := ⟨List.Pairwise.nil, fun _ h => by cases h⟩
theorem Asc.full (n : Nat) : Asc n (intL n) := ⟨intL_up n, fun _ h => mem_intL.mp h⟩
theorem Asc.filter (n : Nat) (f : Int → Bool) : Asc n ((intL n).filter f) := ⟨(intL_up n).filter f, fun _ h => mem_intL.mp (List.mem_filter.mp h).1⟩
theorem Asc.len {n : Nat} {st : List Int} (h : Asc n st) : st.length ≤ n := pw_length (lo := 0) h.up fun x hx => by have := h.rng x hx; omega
theorem asc_ext : ∀ {l1 l2 : List Int}, l1.Pairwise (· < ·) → l2.Pairwise (· < ·) → (∀ x, x ∈ l1 ↔ x ∈ l2) → l1 = l2
  | [], [], _, _, _ => rfl
  | [], y :: r, _, _, h => absurd ((h y).mpr List.mem_cons_self) (by simp)
  | x :: r, [], _, _, h => absurd ((h x).mp List.mem_cons_self) (by simp)
  | x :: r, y :: t, h1, h2, h => by
    rw [List.pairwise_cons] at h1 h2
    have exy : x = y := by
      rcases List.mem_cons.mp ((h x).mp List.mem_cons_self) with e | e
      · exact e
      · rcases List.mem_cons.mp ((h y).mpr List.mem_cons_self) with e' | e'
        · exact e'.symm
        · have a1 := h2.1 x e
          have a2 := h1.1 y e'
          omega
    subst exy
    have : r = t := asc_ext h1.2 h2.2 fun z => by
      constructor
      · intro hz
        rcases List.mem_cons.mp ((h z).mp (List.mem_cons_of_mem _ hz)) with e | e
        · have := h1.1 z hz; omega
        · exact e
      · intro hz
        rcases List.mem_cons.mp ((h z).mpr (List.mem_cons_of_mem _ hz)) with e | e
        · have := h2.1 z hz; omega
        · exact e
    rw [this]
theorem Asc.eq {n : Nat} {st : List Int} (h : Asc n st) : (intL n).filter (fun x => decide (x ∈ st)) = st :=
  asc_ext ((intL_up n).filter _) h.up fun x => by
    rw [List.mem_filter, decide_eq_true_eq, mem_intL]
    exact ⟨fun q => q.2, fun q => ⟨h.rng x q, q⟩⟩
def pressM (pan : List (List Int)) (st : List Int) (b : Int) : List Int := (intL pan.length).filter fun x => decide (x = b ∨ (x ∈ st ∧ x ∉ pan.getD b.toNat []))
def runM (pan : List (List Int)) (st : List Int) (row : List Int) : List Int := row.foldl (pressM pan) st
theorem pressM_asc (pan : List (List Int)) (st : List Int) (b : Int) : Asc pan.length (pressM pan st b) := Asc.filter _ _
theorem runM_asc {pan : List (List Int)} : ∀ {row st : List Int}, Asc pan.length st → Asc pan.length (runM pan st row)
  | [], _, h => h
  | b :: r, st, _ => runM_asc (row := r) (pressM_asc pan st b)
theorem mem_pressM {pan : List (List Int)} {st : List Int} {b x : Int} : x ∈ pressM pan st b ↔ (0 ≤ x ∧ x < (pan.length : Int)) ∧ (x = b ∨ (x ∈ st ∧ x ∉ pan.getD b.toNat [])) := by
  unfold pressM
  rw [List.mem_filter, decide_eq_true_eq, mem_intL]
theorem runM_take {pan : List (List Int)} {st row : List Int} {k : Nat} {b : Int} (h : row[k]? = some b) : runM pan st (row.take (k + 1)) = pressM pan (runM pan st (row.take k)) b := by
  unfold runM
  rw [List.take_add_one, h, List.foldl_append]; rfl
/-- what press_button makes: the kept ones and the button, sorted -/
theorem press_sorted {pan : List (List Int)} {st : List Int} {b : Int} {ns : List Int} (hs : Asc pan.length st) (h0 : 0 ≤ b) (h1 : b < (pan.length : Int))
    (hp : ns.Perm (st.filter (fun x => decide (x ≠ b ∧ x ∉ pan.getD b.toNat [])) ++ [b])) (hle : ns.Pairwise (· ≤ ·)) : ns = pressM pan st b := by
  have nd0 : (st.filter (fun x => decide (x ≠ b ∧ x ∉ pan.getD b.toNat [])) ++ [b]).Nodup := by
    refine List.nodup_append.mpr ⟨(hs.up.imp fun {x y} (q : x < y) => by omega : st.Nodup).filter _, by simp, fun x hx y hy e => ?_⟩
    rw [List.mem_singleton] at hy
    have := (List.mem_filter.mp hx).2
    rw [decide_eq_true_eq] at this
    exact this.1 (e.trans hy)
  have nd : ns.Nodup := hp.nodup_iff.mpr nd0
  have up : ns.Pairwise (· < ·) := (hle.and nd).imp fun {x y} (q : x ≤ y ∧ x ≠ y) => by omega
  refine asc_ext up (pressM_asc pan st b).up fun x => ?_
  rw [hp.mem_iff, mem_pressM, List.mem_append, List.mem_filter, decide_eq_true_eq, List.mem_singleton]
  constructor
  · rintro (⟨a1, a2⟩ | a)
    · exact ⟨hs.rng x a1, .inr ⟨a1, a2.2⟩⟩
    · subst a; exact ⟨⟨h0, h1⟩, .inl rfl⟩
  · rintro ⟨_, a | a⟩
    · exact .inr a
    · by_cases e : x = b
      · exact .inr e
      · exact .inl ⟨a.1, e, a.2⟩
/-- marks -/
def marks (n : Nat) (st : List Int) : List Bool := (List.range n).map fun i : Nat => decide ((i : Int) ∈ st)
theorem marks_len (n : Nat) (st : List Int) : (marks n st).length = n := by unfold marks; rw [List.length_map, List.length_range]
theorem marks_get {n : Nat} {st : List Int} {i : Nat} (h : i < n) : (marks n st)[i]? = some (decide ((i : Int) ∈ st)) := by
  unfold marks
  rw [List.getElem?_map, List.getElem?_range h]; rfl
theorem marks_set {pan : List (List Int)} {st : List Int} {b : Nat} (hb : b < pan.length) :
    ((List.range pan.length).map fun i : Nat => (decide ((i : Int) ∈ st) && !decide ((i : Int) ∈ pan.getD b []))).set b true = marks pan.length (pressM pan st (b : Int)) := by
  refine List.ext_getElem? fun i => ?_
  by_cases hi : i < pan.length
  · rw [marks_get hi, List.getElem?_set]
    by_cases e : b = i
    · subst e
      rw [if_pos rfl, if_pos (by rw [List.length_map, List.length_range]; exact hi)]
      congr 1
      exact (decide_eq_true (mem_pressM.mpr ⟨⟨by omega, by omega⟩, .inl rfl⟩)).symm
    · rw [if_neg e, List.getElem?_map, List.getElem?_range hi]
      show some _ = some _
      congr 1
      rw [Bool.eq_iff_iff, Bool.and_eq_true, decide_eq_true_eq, Bool.not_eq_true', decide_eq_false_iff_not, decide_eq_true_eq, mem_pressM, Int.toNat_natCast]
      constructor
      · rintro ⟨a, a'⟩
        exact ⟨⟨by omega, by omega⟩, .inr ⟨a, a'⟩⟩
      · rintro ⟨_, a | a⟩
        · omega
        · exact a
  · rw [List.getElem?_eq_none (by rw [List.length_set, List.length_map, List.length_range]; omega), List.getElem?_eq_none (by rw [marks_len]; omega)]
end Pr
/-! Effects, as plain functions; a tuple repeated; zip of two tuples. -/
namespace Pr
open PySem PySem.Spec PyProof.Rows L2
abbrev wSame : Str := "same"
abbrev wOn : Str := "on"
abbrev wOff : Str := "off"
/-- a press of b behind, where c had the word w -/
def wordM (pan : List (List Int)) (c : Int) (w : Str) (b : Int) : Str := if b = c then wOn else if c ∈ pan.getD b.toNat [] then wOff else w
def wordsM (pan : List (List Int)) (row : List Int) (c : Int) : Str := row.foldl (wordM pan c) wSame
def effM (pan : List (List Int)) (row : List Int) : List Str := (List.range pan.length).map fun c : Nat => wordsM pan row (c : Int)
def onM (l : List Int) (b : Int) (c : Nat) : Str := if (c : Int) ∈ l then wOff else if (c : Int) = b then wOn else wSame
def pressW (pan : List (List Int)) (b : Int) : List Str := (List.range pan.length).map (onM (pan.getD b.toNat []) b)
def joinM (xs ys : List Str) : List Str := List.zipWith (fun e l => if l = wSame then e else l) xs ys
theorem effM_len (pan : List (List Int)) (row : List Int) : (effM pan row).length = pan.length := by unfold effM; rw [List.length_map, List.length_range]
theorem pressW_len (pan : List (List Int)) (b : Int) : (pressW pan b).length = pan.length := by unfold pressW; rw [List.length_map, List.length_range]
theorem joinM_len {xs ys : List Str} (h : xs.length = ys.length) : (joinM xs ys).length = ys.length := by unfold joinM; rw [List.length_zipWith, h, Nat.min_self]
theorem effM_nil (pan : List (List Int)) : effM pan [] = List.replicate pan.length wSame := by
  unfold effM
  show (List.range pan.length).map (fun _ => wSame) = _
  rw [List.map_const', List.length_range]
theorem same_ne_on : wSame ≠ wOn := by decide +kernel
theorem same_ne_off : wSame ≠ wOff := by decide +kernel
theorem on_ne_off : wOn ≠ wOff := by decide +kernel
theorem Good.own' {pan : List (List Int)} (g : Good pan) {b : Int} (h0 : 0 ≤ b) (h1 : b < (pan.length : Int)) : b ∉ pan.getD b.toNat [] := by
  have hb : b.toNat < pan.length := by omega
  have := g.own b.toNat pan[b.toNat] (List.getElem?_eq_getElem hb)
  rw [List.getD_eq_getElem?_getD, List.getElem?_eq_getElem hb]
  rw [Int.toNat_of_nonneg h0] at this
  exact this
theorem wordM_join {pan : List (List Int)} (g : Good pan) {b : Int} (h0 : 0 ≤ b) (h1 : b < (pan.length : Int)) (c : Nat) (w : Str) :
    (if onM (pan.getD b.toNat []) b c = wSame then w else onM (pan.getD b.toNat []) b c) = wordM pan (c : Int) w b := by
  unfold onM wordM
  by_cases e : (c : Int) ∈ pan.getD b.toNat []
  · have hne : b ≠ (c : Int) := fun z => g.own' h0 h1 (z ▸ e)
    rw [if_pos e, if_neg hne, if_pos e, if_neg (Ne.symm same_ne_off)]
  · rw [if_neg e, if_neg e]
    by_cases e2 : (c : Int) = b
    · rw [if_pos e2, if_pos e2.symm, if_neg (Ne.symm same_ne_on)]
    · rw [if_neg e2, if_pos rfl, if_neg (Ne.symm e2)]
theorem eff_step {pan : List (List Int)} (g : Good pan) {b : Int} (h0 : 0 ≤ b) (h1 : b < (pan.length : Int)) (row : List Int) : joinM (effM pan row) (pressW pan b) = effM pan (row ++ [b]) := by
  unfold joinM effM pressW
  rw [List.zipWith_map, List.zipWith_self]
  refine List.map_congr_left fun c _ => ?_
  rw [wordM_join g h0 h1]
  unfold wordsM
  rw [List.foldl_append]; rfl
theorem eff_take {pan : List (List Int)} (g : Good pan) {row : List Int} {k : Nat} {b : Int} (hk : row[k]? = some b) (h0 : 0 ≤ b) (h1 : b < (pan.length : Int)) : joinM (effM pan (row.take k)) (pressW pan b) = effM pan (row.take (k + 1)) := by
  rw [eff_step g h0 h1, List.take_add_one, hk]; rfl
theorem word3 (pan : List (List Int)) (c : Int) : ∀ row : List Int, wordsM pan row c = wSame ∨ wordsM pan row c = wOn ∨ wordsM pan row c = wOff := by
  intro row
  unfold wordsM
  have : ∀ (l : List Int) (w : Str), (w = wSame ∨ w = wOn ∨ w = wOff) → (l.foldl (wordM pan c) w = wSame ∨ l.foldl (wordM pan c) w = wOn ∨ l.foldl (wordM pan c) w = wOff) := by
    intro l
    induction l with
    | nil => exact fun w h => h
    | cons b r ih =>
      intro w h
      rw [List.foldl_cons]
      refine ih _ ?_
      unfold wordM
      split
      · exact .inr (.inl rfl)
      · split
        · exact .inr (.inr rfl)
        · exact h
  exact this row _ (.inl rfl)
theorem eff3 {pan : List (List Int)} {row : List Int} {x : Str} (h : x ∈ effM pan row) : x = wSame ∨ x = wOn ∨ x = wOff := by
  unfold effM at h
  obtain ⟨c, _, rfl⟩ := List.mem_map.mp h
  exact word3 pan c row
theorem set_map_range {α : Type} (f : Nat → α) (n j : Nat) (v : α) : ((List.range n).map f).set j v = (List.range n).map fun c => if c = j then v else f c := by
  refine List.ext_getElem? fun i => ?_
  rw [List.getElem?_set, List.getElem?_map]
  by_cases h : i < n
  · rw [List.getElem?_map, List.getElem?_range h, List.length_map, List.length_range]
    by_cases e : j = i
    · subst e; rw [if_pos rfl, if_pos h]; simp
    · rw [if_neg e]; simp [Ne.symm e]
  · rw [List.getElem?_map, List.getElem?_eq_none (by rw [List.length_range]; omega), List.length_map, List.length_range]
    by_cases e : j = i
    · subst e; rw [if_pos rfl, if_neg h]; rfl
    · rw [if_neg e]; rfl
theorem replicate_map_range {α : Type} (n : Nat) (v : α) : List.replicate n v = (List.range n).map fun _ => v := by
  rw [List.map_const', List.length_range]
/-! ### data -/
def dStrs (l : List Str) : PyData := .tuple (l.map PyData.str)
theorem dpAll_strs {K : PySem.W.Frag} {H : Hp} : ∀ l : List Str, DpAll K H (l.map V.str) (l.map PyData.str)
  | [] => .nil
  | x :: r => .cons (.str x) (dpAll_strs r)
theorem dp_strs {K : PySem.W.Frag} {H : Hp} {q : Addr} {l : List Str} (h : SqT K H q (l.map V.str)) : Dp K H (.ref q) (dStrs l) := .tup h (dpAll_strs l)
theorem shw_word {x : Str} (h : x = wSame ∨ x = wOn ∨ x = wOff) : Shw 0 6 (.str x) := by
  refine ⟨by simp only [PyData.showable], by simp only [PyData.hasDict], by simp [PyData.depth], ?_⟩
  simp only [PyData.shown]
  rcases h with rfl | rfl | rfl <;> decide +kernel
theorem shw_words {l : List Str} {m : Nat} (hl : l.length ≤ m) (h : ∀ x ∈ l, x = wSame ∨ x = wOn ∨ x = wOff) : Shw 1 (m * 8 + 3) (dStrs l) := by
  refine Shw.tuple (fun d hd => ?_) (by rw [List.length_map]; exact hl)
  obtain ⟨x, hx, rfl⟩ := List.mem_map.mp hd
  exact shw_word (h x hx)
theorem shw_eff {pan : List (List Int)} (g : Good pan) (row : List Int) : Shw 1 83 (dStrs (effM pan row)) :=
  shw_words (m := 10) (by rw [effM_len]; exact g.few) fun _ h => eff3 h
/-! ### (x,) * n -/
section
variable {X : Cx}
def rRepS (K : PySem.W.Frag) : R2 := fun x y H Q => rRep1 K x y H Q ∨ rRepT K x y H Q
theorem op_repS : OpR X (binaryOp .Mult) (rRepS X.K) := by
  intro pins s σ H x y v u Q I rx ry h
  rcases h with h | h
  · exact op_rep1 pins s σ H x y v u Q I rx ry h
  · exact op_repT pins s σ H x y v u Q I rx ry h
end
theorem rep_flat {α : Type} (n : Nat) (v : α) : (List.replicate n [v]).flatten = List.replicate n v := by
  induction n with
  | zero => rfl
  | succ n ih => rw [List.replicate_succ, List.flatten_cons, ih]; rfl
/-! ### zip of tuples -/
theorem walk_zipT {K : PySem.W.Frag} {a b : Addr} {xs ys : List V} {n : Nat} (hn : n = min xs.length ys.length) : Walk (RZ.ItzT K a b) n (fun H => SqT K H a xs ∧ SqT K H b ys) (YPair (fun i => xs[i]?) (fun i => ys[i]?)) := by
  subst hn
  refine ⟨fun i _ hi q => ?_, fun _ q => ⟨xs, ys, q.1, q.2, by omega⟩, fun i H v H' _ q y => ?_⟩
  · have h1 : i < xs.length := by omega
    have h2 : i < ys.length := by omega
    exact ⟨xs, ys, xs[i], ys[i], q.1, q.2, by simp [h1], by simp [h2]⟩
  · obtain ⟨T, x, z, h1, h2, h3, h4, h5⟩ := y
    exact ⟨T, x, z, h1, h2, h3, h4 xs q.1, h5 ys q.2⟩
theorem str_get {os : List Str} {k : Nat} {x : V} (h : (os.map V.str)[k]? = some x) : ∃ z, os[k]? = some z ∧ x = .str z := by
  rw [List.getElem?_map] at h
  cases e : os[k]? with
  | none => rw [e] at h; cases h
  | some z => rw [e] at h; exact ⟨z, rfl, (Option.some.inj h).symm⟩
theorem int_get {os : List Int} {k : Nat} {x : V} (h : (os.map V.int)[k]? = some x) : ∃ z, os[k]? = some z ∧ x = .int z := by
  rw [List.getElem?_map] at h
  cases e : os[k]? with
  | none => rw [e] at h; cases h
  | some z => rw [e] at h; exact ⟨z, rfl, (Option.some.inj h).symm⟩
theorem joinM_get {xs ys : List Str} {i : Nat} {x y : Str} (hx : xs[i]? = some x) (hy : ys[i]? = some y) : (joinM xs ys)[i]? = some (if y = wSame then x else y) := by
  unfold joinM
  rw [List.getElem?_zipWith, hx, hy]
theorem ixN_nat {n j : Nat} (h : j < n) : ixN n (j : Int) = some j := by
  unfold ixN
  rw [if_pos (by omega), if_pos (by omega)]; rfl
theorem gen_heap {X : Hp} {R : Hp → Prop} (C : Hp → Prop) (hX : C X) (h : ∀ H', C H' → R H') : R X := h X hX
theorem gen_name {i : Nat} {v : V} {σ : L2.St} {X : Hp} {D : L2.St → Hp → Prop} (C : Hp → Prop) (hX : C X) (h : ∀ H', C H' → gName i v σ H' D) : gName i v σ X D := h X hX
theorem tyes {σ : L2.St} {H : Hp} {Q : Bool → Hp → Prop} (h : Q true H) : tYes σ H Q := h
theorem pan_at {H : Hp} {p : Addr} {pan : List (List Int)} (h : PanAt H p pan) {b : Int} (h0 : 0 ≤ b) (h1 : b < (pan.length : Int)) :
    ∃ (qs : List Addr) (q : Addr), FT H p (qs.map V.ref) ∧ atI (qs.map V.ref) b = some (.ref q) ∧ FT H q ((pan.getD b.toNat []).map V.int) ∧ qs.length = pan.length := by
  obtain ⟨qs, hq, hqs⟩ := h
  obtain ⟨n, rfl⟩ : ∃ n : Nat, b = (n : Int) := ⟨b.toNat, (Int.toNat_of_nonneg h0).symm⟩
  have hn : n < pan.length := by omega
  obtain ⟨q', g1, g2⟩ := paired_get hqs n pan[n] (List.getElem?_eq_getElem hn)
  refine ⟨qs, q', hq, atI_nat (by rw [List.getElem?_map, g1]; rfl), ?_, hqs.length⟩
  rw [Int.toNat_natCast, List.getD_eq_getElem?_getD, List.getElem?_eq_getElem hn]
  exact g2
theorem inV_ints {b : Int} (l : List Int) : inV (.int b) (l.map V.int) = decide (b ∈ l) := by
  unfold inV
  rw [List.any_map, Bool.eq_iff_iff, List.any_eq_true, decide_eq_true_eq]
  constructor
  · rintro ⟨x, hx, e⟩
    have e' : x = b := by simpa [eqV] using e
    rw [← e']; exact hx
  · intro h
    exact ⟨b, h, by simp [eqV]⟩
theorem flat_ints : ∀ l : List Int, (l.map V.int).all flatV = true
  | [] => rfl
  | x :: r => by rw [List.map_cons, List.all_cons, flat_ints r]; rfl
end Pr
/-! Draws kept in a list of three: the cells, how many were drawn, what is left of the large ones. -/
namespace Pr
open PySem PySem.Spec PyProof.Rows L2
def Dk3 (H : Hp) (a c r : Addr) (m : Nat) : Prop :=
  ∃ (cells rests : List Int) (n : Nat), H a = some (.lst [.ref c, .int (n : Int), .ref r]) ∧ H c = some (.lst (cells.map V.int)) ∧ H r = some (.lst (rests.map V.int)) ∧ a ≠ c ∧ a ≠ r ∧ c ≠ r ∧
    1 ≤ cells.length ∧ cells.length ≤ 63 ∧ rests.length = cells.length ∧ n + m ≤ 1000000
theorem Dk3.same {H H' : Hp} {a c r : Addr} {m : Nat} (e : Same H H') (h : Dk3 H a c r m) : Dk3 H' a c r m :=
  let ⟨cs, rs, n, h1, h2, h3, h4⟩ := h; ⟨cs, rs, n, e _ _ h1, e _ _ h2, e _ _ h3, h4⟩
theorem Dk3.less {H : Hp} {a c r : Addr} {m m' : Nat} (h : Dk3 H a c r m) (z : m' ≤ m) : Dk3 H a c r m' :=
  let ⟨cs, rs, n, h1, h2, h3, h4, h5, h6, h7, h8, h9, h10⟩ := h; ⟨cs, rs, n, h1, h2, h3, h4, h5, h6, h7, h8, h9, by omega⟩
theorem Dk3.apart {H : Hp} {a c r : Addr} {m : Nat} (h : Dk3 H a c r m) {b : Addr} {o : HO} (e : H b = some o) (ho : ∀ xs, o ≠ .lst xs) : b ≠ a ∧ b ≠ r := by
  obtain ⟨cs, rs, n, h1, h2, h3, _⟩ := h
  exact ⟨ne_of e h1 (ho _), ne_of e h3 (ho _)⟩
theorem Dk3.fresh {H : Hp} {a c r : Addr} {m : Nat} (h : Dk3 H a c r m) {b : Addr} (e : H b = none) : b ≠ a ∧ b ≠ r ∧ b ≠ c := by
  obtain ⟨cs, rs, n, h1, h2, h3, _⟩ := h
  exact ⟨Ne.symm (ne_of_none h1 e), Ne.symm (ne_of_none h3 e), Ne.symm (ne_of_none h2 e)⟩
theorem FT.but3 {H H' : Hp} {a c r p : Addr} {m : Nat} {xs : List V} (d : Dk3 H a c r m) (b : But a r H H') (h : FT H p xs) : FT H' p xs := by
  obtain ⟨o, e, z⟩ := h
  have q := d.apart e (fun _ => by intro z; cases z)
  exact ⟨o, b _ _ q.1 q.2 e, z⟩
theorem tup_but3 {H H' : Hp} {a c r p : Addr} {m : Nat} {xs : List V} (d : Dk3 H a c r m) (b : But a r H H') (h : H p = some (.tup xs)) : H' p = some (.tup xs) := by
  have q := d.apart h (fun _ => by intro z; cases z)
  exact b _ _ q.1 q.2 h
theorem PanAt.but3 {H H' : Hp} {a c r p : Addr} {m : Nat} {pan : List (List Int)} (d : Dk3 H a c r m) (b : But a r H H') (h : PanAt H p pan) : PanAt H' p pan :=
  let ⟨qs, h1, h2⟩ := h; ⟨qs, h1.but3 d b, h2.mono fun _ _ x => x.but3 d b⟩
/-- a store at a place that is none of the deck's -/
theorem Dk3.upd {H : Hp} {a c r : Addr} {m : Nat} {b : Addr} {o : HO} (h : Dk3 H a c r m) (n : b ≠ a ∧ b ≠ r ∧ b ≠ c) : Dk3 (upd H b o) a c r m := by
  obtain ⟨cs, rs, n', h1, h2, h3, h4⟩ := h
  exact ⟨cs, rs, n', by rw [upd_ne (Ne.symm n.1)]; exact h1, by rw [upd_ne (Ne.symm n.2.2)]; exact h2, by rw [upd_ne (Ne.symm n.2.1)]; exact h3, h4⟩
theorem But.free {a c : Addr} {H H' : Hp} {b : Addr} (x : But a c H H') (h1 : b ≠ a) (h2 : b ≠ c) (e : H' b = none) : H b = none := by
  cases q : H b with
  | none => rfl
  | some o => have := x b o h1 h2 q; rw [e] at this; cases this
theorem cut_ints (ns : List Int) (lo hi : Option Int) : ∃ ms : List Int, cutV (ns.map V.int) lo hi = ms.map V.int ∧ ms.length ≤ ns.length := by
  refine ⟨(ns.drop (HT.sIx ns.length 0 lo)).take (HT.sIx ns.length ns.length hi - HT.sIx ns.length 0 lo), ?_, ?_⟩
  · unfold cutV
    rw [List.length_map, List.map_take, List.map_drop]
  · rw [List.length_take, List.length_drop]; omega
/-- the first 63 of at most 63 -/
theorem cut63 (ns : List Int) (h : ns.length ≤ 63) : cutV (ns.map V.int) none (some 63) = ns.map V.int := by
  unfold cutV
  rw [List.length_map]
  have e1 : HT.sIx ns.length 0 none = 0 := rfl
  rw [e1, List.drop_zero]
  refine List.take_of_length_le ?_
  rw [List.length_map]
  have e2 : HT.sIx ns.length ns.length (some 63) = ns.length := by
    rw [show (63 : Int) = ((63 : Nat) : Int) from rfl, HT.sIx_nat]; omega
  rw [e2]; omega
end Pr
namespace K10
open PySem PySem.Spec PyProof.Rows L2 Pr
def topS (i : Nat) : Stmt := PySem.Challenge.pw_pressrelease_k10_effects_of_rows.main.body.getD i (.Pass ⟨0, 0, 0, 0⟩)
abbrev sNo : Stmt := topS 1
abbrev sPressE : Stmt := topS 2
abbrev sJoin : Stmt := topS 3
abbrev sWith : Stmt := topS 4
abbrev sEff : Stmt := topS 5
abbrev sDraws : Stmt := topS 7
abbrev sNext : Stmt := topS 8
abbrev sPanel : Stmt := topS 9
abbrev sRow : Stmt := topS 10
abbrev sOwn : Stmt := topS 11
abbrev sLaw : Stmt := topS 12
def nDraws : List Str := ["_law_script", "_law_cells", "_law_cell"]
theorem scDraws : FnScope nDraws ["_law_script"] (defScope sDraws) := ⟨rfl, rfl, rfl, by decide +kernel, rfl, by decide +kernel, by decide +kernel⟩
def nNext : List Str := ["_law_drawn", "_law_many", "_law_cells", "_law_nth", "_law_rests", "_law_spot", "_law_digit", "_law_mixed", "_law_more"]
theorem scNext : FnScope nNext ["_law_drawn", "_law_many"] (defScope sNext) := ⟨rfl, rfl, rfl, by decide +kernel, rfl, by decide +kernel, by decide +kernel⟩
section
variable {P : Program} {w : World} {K : PySem.W.Frag} {mg : Str → Option Value} {base : Heap}
def spDraws (K : PySem.W.Frag) : Sp := fun vs H Q _ => ∃ (s : Addr) (ns : List Int), vs = [.ref s] ∧ SqL K H s (ns.map V.int) ∧ ns.length ≤ 63 ∧
  ∀ H' a c r, Same H H' → Dk3 H' a c r 1000000 → Q (.ref a) H'
theorem ok_draws {f : Addr} {fd : FuncData} {k : Nat} (F : Fun K "_law_draws" "_law_draws" sDraws f fd) (ml : mg "len" = none) (mli : mg "list" = none) (mi : mg "int" = none) : FnOk P w K mg base CX0 (k + 1) f fd ["_law_script"] (spDraws K) := by
  refine F.ok scDraws (fun vs H Q E h => ?_) (fun cdv A outer s H vs Q E hr h => ?_)
  · obtain ⟨s, ns, rfl, _⟩ := h
    rfl
  · obtain ⟨sa, ns, rfl, hS, hlen, q⟩ := h
    refine ⟨_, pss_cons (ps_set (i := 1) scDraws.nd rfl (.inl rfl) (pe_op op_cat (pe_callTy call_list_of (by rfl) mli (by decide +kernel) (pa_cons (pe_slice sl_list (pv 0) po_none (po_some pe_int)) pa_nil))
        (pe_op op_rep (pe_lst (pa_cons pe_int pa_nil)) (pe_callTy call_int1 (by rfl) mi (by decide +kernel) (pa_cons (pe_cmpR op_eq (pe_callB call_len_seq (by rfl) ml PySem.boot_len (pa_cons (pv 0) pa_nil)) pe_int (nomark _)) pa_nil)))))
      (pss_one (ps_ret (pe_lst (pa_cons (pv 1) (pa_cons pe_int (pa_cons
        (pe_lc (own := [("_law_cell", 2)]) (g := gName 2) (tt := tYes) rfl scDraws.nd (pi_list (pv 1))
          (blkOk_by (own := [("_law_cell", 2)]) (N := nDraws) (sc := defScope sDraws) (by decide +kernel))
          (fun _ _ _ _ _ => pg_name (i := 2) scDraws.nd rfl (Or.inl rfl)) (fun _ _ _ _ _ => pts_nil)
          (fun _ _ _ _ _ => pe_op op_mul (pv 2) (pe_callTy call_int1 (by rfl) mi (by decide +kernel) (pa_cons (pe_cmpR op_ge (pv 2) (pe_op op_pow pe_int pe_int) (nomark _)) pa_nil))))
        pa_nil)))))), ?_⟩
    refine ⟨.ref sa, rfl, 63, rfl, sa, ns.map V.int, rfl, hS, fun l nl => ?_⟩
    rw [cut63 ns hlen]
    have s1 : Same H (upd H l (.lst (ns.map V.int))) := same_new nl
    refine ⟨l, _, rfl, .inl (.inl (.inl upd_same)), fun l2 nl2 => ?_⟩
    have s2 := s1.trans (same_new (o := .lst (ns.map V.int)) nl2)
    refine ⟨by show 1 ≤ sizeLine; decide, fun L nL => ?_⟩
    have s3 := s2.trans (same_new (o := .lst [.int 0]) nL)
    refine ⟨.ref sa, rfl, sa, _, rfl, .inl (s3.seq hS), rfl, .inr ⟨_, rfl, L, _, _, rfl, rfl, upd_same, ?_, ?_, ?_, fun p np => ?_⟩⟩
    · split <;> omega
    · split <;> omega
    · split <;> (show 1 * _ ≤ sizeLine; decide)
    · obtain ⟨ex, hex, lex⟩ : ∃ ex : List Int, (List.replicate (if decide (V.int ((ns.map V.int).length : Nat) = V.int 0) = true then (1 : Int) else 0).toNat [V.int 0]).flatten = ex.map V.int ∧ (1 ≤ (ns ++ ex).length ∧ (ns ++ ex).length ≤ 63) := by
        by_cases e : ns = []
        · subst e
          exact ⟨[0], rfl, by decide, by decide⟩
        · have hl : 0 < ns.length := List.length_pos_iff.mpr e
          have hne : ¬ (V.int ((ns.map V.int).length : Nat) = V.int 0) := fun z => by
            have := V.int.inj z
            rw [List.length_map] at this; omega
          refine ⟨[], ?_, by rw [List.append_nil]; exact ⟨hl, hlen⟩⟩
          rw [decide_eq_false hne]; rfl
      rw [hex]
      have s4 := s3.trans (same_new (o := .lst (ex.map V.int)) np)
      have np2 : l2 ≠ L := ne_of_none upd_same nL
      have e2 : (upd (upd (upd (upd H l (.lst (ns.map V.int))) l2 (.lst (ns.map V.int))) L (.lst [.int 0])) p (.lst (ex.map V.int))) l2 = some (.lst (ns.map V.int)) :=
        (same_new np) _ _ ((same_new nL) _ _ upd_same)
      refine ⟨l2, p, _, _, rfl, rfl, e2, upd_same, ?_, fun c nc => ?_⟩
      · rw [List.length_append] at lex
        rw [List.length_map, List.length_map]
        exact Nat.le_of_lt (small1000 (by omega))
      · rw [← List.map_append]
        generalize ns ++ ex = cells at lex ⊢
        have s5 := s4.trans (same_new (o := .lst (cells.map V.int)) nc)
        refine gen_name (fun H5 => Same H H5 ∧ H5 c = some (.lst (cells.map V.int))) ⟨s5, upd_same⟩ fun H5 ⟨s5, ec⟩ => ?_
        refine ⟨.ref c, rfl, .ref c, rfl, c, rfl, ⟨_, .inl (.inl ec)⟩, fun D nD => ?_⟩
        refine lc_list (xs := cells.map V.int) (fun i H6 => Same H5 H6 ∧ ∃ rests : List Int, rests.length = i ∧ H6 D = some (.lst (rests.map V.int)))
          ⟨same_new nD, [], rfl, upd_same⟩ (fun i H6 _ hP => hP.1.seq (.inl (.inl ec))) (fun i x H6 hx hP => ?_) (fun H6 hP => ?_)
        · obtain ⟨s6, rests, hrl, eD⟩ := hP
          obtain ⟨z, hz, rfl⟩ := int_get hx
          have hi : i < cells.length := (List.getElem?_eq_some_iff.mp hz).1
          refine ⟨rfl, tyes (iteT ⟨.int z, rfl, .int z, rfl, 10, 18, rfl, rfl, ⟨by decide, by decide, by decide⟩, z, _, rfl, rfl, .inr ⟨_, rfl, z, _, rfl, rfl, .inr ?_, rests.map V.int, eD, ?_, ?_, rests ++ [z * (if decide (10 ^ Int.toNat 18 ≤ z) = true then 1 else 0)], ?_, ?_⟩⟩)⟩
          · split <;> exact ⟨by decide, by decide⟩
          · rw [List.length_map]; exact small1000 (by omega)
          · intro b o e
            rw [upd_ne (ne_of_none e nD)]
            exact s6 _ _ e
          · rw [List.length_append, hrl]; rfl
          · rw [upd_same, List.map_append]; rfl
        · obtain ⟨s6, rests, hrl, eD⟩ := hP
          rw [List.length_map] at hrl
          refine ⟨by show 3 ≤ sizeLine; decide, fun a na => ?_⟩
          have ec6 := s6 _ _ ec
          refine q _ a c D ((s5.trans s6).trans (same_new na)) ⟨cells, rests, 0, upd_same, (same_new na) _ _ ec6, (same_new na) _ _ eD, Ne.symm (ne_of_none ec6 na), Ne.symm (ne_of_none eD na), ne_of_none ec nD, lex.1, lex.2, hrl, by omega⟩

def spNext : Sp := fun vs H Q _ => ∃ (a c r : Addr) (m : Nat) (lim : Int), vs = [.ref a, .int lim] ∧ Dk3 H a c r (m + 1) ∧ 0 < lim ∧ lim < 1000000 ∧
  ∀ H' x, But a r H H' → Dk3 H' a c r m → 0 ≤ x → x < lim → Q (.int x) H'
theorem ok_next {f : Addr} {fd : FuncData} {k : Nat} (F : Fun K "_law_next" "_law_next" sNext f fd) (ml : mg "len" = none) : FnOk P w K mg base CX0 (k + 1) f fd ["_law_drawn", "_law_many"] spNext := by
  refine F.ok scNext (fun vs H Q E h => ?_) (fun cdv A outer s H vs Q E hr h => ?_)
  · obtain ⟨a, c, r, m, lim, rfl, _⟩ := h
    rfl
  · obtain ⟨a, c, r, m, lim, rfl, hD, l0, l1, q⟩ := h
    refine ⟨_, pss_cons (ps_asg (pv 0) (pg_unl rfl (pgs_cons (pg_name (i := 2) scNext.nd rfl (.inl rfl)) (pgs_cons (pg_name (i := 3) scNext.nd rfl (.inl rfl)) (pgs_cons (pg_name (i := 4) scNext.nd rfl (.inl rfl)) pgs_nil)))))
      (pss_cons (ps_set (i := 5) scNext.nd rfl (.inl rfl) (pe_op op_mod (pv 3) (pe_callB call_len_seq (by rfl) ml PySem.boot_len (pa_cons (pv 2) pa_nil))))
      (pss_cons (ps_asg (pe_op op_add (pv 3) pe_int) (pg_sub (pv 0) pe_int set_list))
      (pss_cons (ps_if (pt_cmpR op_gt (pe_ix ix_list (pv 4) (pv 5) (fun _ _ => rfl)) pe_int (nomark _))
        (pss_cons (ps_set (i := 6) scNext.nd rfl (.inl rfl) (pe_op op_mod (pe_ix ix_list (pv 4) (pv 5) (fun _ _ => rfl)) (pv 1)))
          (pss_cons (ps_asg (pe_op op_fdiv (pe_ix ix_list (pv 4) (pv 5) (fun _ _ => rfl)) (pv 1)) (pg_sub (pv 4) (pv 5) set_list))
          (pss_one (ps_ret (pv 6)))))
        pss_nil)
      (pss_cons (ps_set (i := 7) scNext.nd rfl (.inl rfl) (pe_op op_mod (pe_op op_pow (pe_op op_add (pe_op op_add (pe_op op_mod (pe_ix ix_list (pv 2) (pv 5) (fun _ _ => rfl)) pe_int) (pe_op op_mul pe_int (pv 3))) pe_int) pe_int) pe_int))
      (pss_cons (ps_set (i := 8) scNext.nd rfl (.inl rfl) (pe_op op_mod (pe_op op_pow (pe_op op_add (pe_op op_add (pv 7) (pe_op op_mul (pe_op op_mul pe_int (pv 3)) (pv 3))) pe_int) pe_int) pe_int))
      (pss_one (ps_ret (pe_op op_mod (pe_op op_mod (pe_op op_add (pe_op op_mul (pv 8) pe_int) (pv 7)) pe_int) (pv 1))))))))), ?_⟩
    obtain ⟨cells, rests, n, ha, hc, hrr, nac, nar, ncr, lc0, lc1, lr, hn⟩ := hD
    refine ⟨.ref a, rfl, a, _, rfl, .inl (.inl ha), rfl, _, _, rfl, _, _, rfl, _, _, rfl, rfl, ?_⟩
    have hcl : ((cells.map V.int).length : Int) = (cells.length : Int) := by rw [List.length_map]
    refine ⟨.int (n : Int), rfl, .ref c, rfl, c, _, rfl, .inl (.inl (.inl hc)), _, _, rfl, rfl, (by rw [hcl]; omega), ?_⟩
    rw [hcl]
    have l2 := Int.emod_nonneg (n : Int) (show ((cells.length : Int)) ≠ 0 by omega)
    have l3 := Int.emod_lt_of_pos (n : Int) (show (0 : Int) < (cells.length : Int) by omega)
    obtain ⟨j, hj⟩ : ∃ j : Nat, (n : Int) % (cells.length : Int) = (j : Int) := ⟨_, (Int.toNat_of_nonneg l2).symm⟩
    dsimp only
    rw [hj]
    have hjl : j < cells.length := by omega
    have hjr : j < rests.length := by omega
    have gj : (cells.map V.int)[j]? = some (.int cells[j]) := by rw [List.getElem?_map, List.getElem?_eq_getElem hjl]; rfl
    have gr : (rests.map V.int)[j]? = some (.int rests[j]) := by rw [List.getElem?_map, List.getElem?_eq_getElem hjr]; rfl
    refine ⟨.int (n : Int), rfl, (n : Int), 1, rfl, rfl, .ref a, rfl, a, _, 1, 1, rfl, rfl, ha, rfl, ?_⟩
    refine gen_heap (fun H1 => H1 a = some (.lst [.ref c, .int ((n : Int) + 1), .ref r]) ∧ H1 c = some (.lst (cells.map V.int)) ∧ H1 r = some (.lst (rests.map V.int)) ∧ But a r H H1)
      ⟨upd_same, by rw [upd_ne (Ne.symm nac)]; exact hc, by rw [upd_ne (Ne.symm nar)]; exact hrr, fun b o h1 _ e => by rw [upd_ne h1]; exact e⟩ fun H1 ⟨ha1, hc1, hr1, b1⟩ => ?_
    have hcs : SqL K H1 c (cells.map V.int) := .inl (.inl hc1)
    have hrs : SqL K H1 r (rests.map V.int) := .inl (.inl hr1)
    refine ⟨.ref r, rfl, .int (j : Int), rfl, r, _, _, _, rfl, rfl, hrs, atI_nat gr, _, 0, rfl, rfl, _, rfl, ite2 (fun e => ?_) (fun e => ?_)⟩
    · refine ⟨.ref r, rfl, .int (j : Int), rfl, r, _, _, _, rfl, rfl, hrs, atI_nat gr, .int lim, rfl, _, lim, rfl, rfl, l0, ?_⟩
      refine ⟨.ref r, rfl, .int (j : Int), rfl, r, _, _, _, rfl, rfl, hrs, atI_nat gr, .int lim, rfl, _, lim, rfl, rfl, ⟨l0, by omega⟩, .ref r, rfl, .int (j : Int), rfl, r, _, _, j, rfl, rfl, hr1, ixN_nat (by rw [List.length_map]; exact hjr), ?_⟩
      refine ⟨_, rfl, q _ _ (b1.trans fun b o _ h2 e => by rw [upd_ne h2]; exact e) ⟨cells, rests.set j (rests[j] / lim), n + 1, ?_, ?_, ?_, nac, nar, ncr, lc0, lc1, ?_, by omega⟩ (Int.emod_nonneg _ (by omega)) (Int.emod_lt_of_pos _ l0)⟩
      · rw [upd_ne nar, ha1]; rfl
      · rw [upd_ne ncr]; exact hc1
      · rw [upd_same, List.map_set]
      · rw [List.length_set]; exact lr
    · have m1 : 0 ≤ cells[j] % 2147483647 := Int.emod_nonneg _ (by decide)
      have m2 : cells[j] % 2147483647 < 2147483647 := Int.emod_lt_of_pos _ (by decide)
      refine ⟨.ref c, rfl, .int (j : Int), rfl, c, _, _, _, rfl, rfl, hcs, atI_nat gj, _, 2147483647, rfl, rfl, (by show (0 : Int) < 2147483647; decide), .int (n : Int), rfl, 69621, (n : Int), rfl, rfl, .inl ⟨by decide, by decide⟩, _, _, rfl, rfl, _, 30269, rfl, rfl, _, 3, rfl, rfl, ⟨by decide, by decide, ?_⟩,
        _, 2147483629, rfl, rfl, (by show (0 : Int) < 2147483629; decide), ?_⟩
      · omega
      · dsimp only
        generalize hmx : (cells[j] % 2147483647 + 69621 * (n : Int) + 30269) ^ (3 : Int).toNat % 2147483629 = mx
        have x1 : 0 ≤ mx := by rw [← hmx]; exact Int.emod_nonneg _ (by decide)
        have x2 : mx < 2147483629 := by rw [← hmx]; exact Int.emod_lt_of_pos _ (by decide)
        have nn : (6007 * (n : Int)) * (n : Int) ≤ 6007000000 * 1000000 := by
          have a1 : 6007 * (n : Int) ≤ 6007000000 := by omega
          exact Int.le_trans (Int.mul_le_mul_of_nonneg_right a1 (by omega)) (Int.mul_le_mul_of_nonneg_left (by omega) (by decide))
        have nn0 : 0 ≤ (6007 * (n : Int)) * (n : Int) := Int.mul_nonneg (by omega) (by omega)
        refine ⟨.int mx, rfl, .int (n : Int), rfl, 6007, (n : Int), rfl, rfl, .inl ⟨by decide, by decide⟩, .int (n : Int), rfl, _, (n : Int), rfl, rfl, .inr ⟨by omega, by omega⟩, mx, _, rfl, rfl, _, 17, rfl, rfl, _, 3, rfl, rfl, ⟨by decide, by decide, ?_⟩, _, 2147483587, rfl, rfl, (by show (0 : Int) < 2147483587; decide), ?_⟩
        · generalize (6007 * (n : Int)) * (n : Int) = y at nn nn0 ⊢
          omega
        · dsimp only
          generalize (mx + 6007 * (n : Int) * (n : Int) + 17) ^ (3 : Int).toNat % 2147483587 = my
          refine ⟨.int my, rfl, my, 2147483423, rfl, rfl, .inr ⟨by decide, by decide⟩, .int mx, rfl, _, mx, rfl, rfl, _, 4611686018427387847, rfl, rfl, (by show (0 : Int) < 4611686018427387847; decide), .int lim, rfl, _, lim, rfl, rfl, l0, ?_⟩
          exact q _ _ b1 ⟨cells, rests, n + 1, by rw [ha1]; rfl, hc1, hr1, nac, nar, ncr, lc0, lc1, lr, by omega⟩ (Int.emod_nonneg _ (by omega)) (Int.emod_lt_of_pos _ l0)
end
end K10
namespace K10
open PySem PySem.Spec PyProof.Rows L2 Pr
def nPanel : List Str := ["_law_drawn", "_law_most", "_law_n", "_law_share", "_law_found", "_law_button", "_law_others", "_law_other"]
theorem scPanel : FnScope nPanel ["_law_drawn", "_law_most"] (defScope sPanel) := ⟨rfl, rfl, rfl, by decide +kernel, rfl, by decide +kernel, by decide +kernel⟩
def nRow : List Str := ["_law_drawn", "_law_n", "_law_most", "_law_press"]
theorem scRow : FnScope nRow ["_law_drawn", "_law_n", "_law_most"] (defScope sRow) := ⟨rfl, rfl, rfl, by decide +kernel, rfl, by decide +kernel, by decide +kernel⟩
theorem sub_snoc {acc os : List Int} {k : Nat} {z : Int} (h : acc.Sublist (os.take k)) (hz : os[k]? = some z) : (acc ++ [z]).Sublist (os.take (k + 1)) := by
  rw [List.take_add_one, hz]
  exact h.append (List.Sublist.refl _)
theorem sub_skip {acc os : List Int} {k : Nat} (h : acc.Sublist (os.take k)) : acc.Sublist (os.take (k + 1)) := by
  rw [List.take_add_one]
  exact h.trans (List.sublist_append_left _ _)
section
variable {P : Program} {w : World} {K : PySem.W.Frag} {mg : Str → Option Value} {base : Heap}
def spPanel : Sp := fun vs H Q _ => ∃ (a c r : Addr) (m : Nat) (most : Int), vs = [.ref a, .int most] ∧ Dk3 H a c r (m + 200) ∧ 1 ≤ most ∧ most ≤ 10 ∧
  ∀ H' p pan, But a r H H' → Dk3 H' a c r m → PanAt H' p pan → Good pan → (pan.length : Int) ≤ most → Q (.ref p) H'
theorem ok_panel {f fD : Addr} {fd fdD : FuncData} {k : Nat} (F : Fun K "_law_panel" "_law_panel" sPanel f fd) (FD : Fun K "_law_next" "_law_next" sNext fD fdD) (bD : Binds K fdD ["_law_drawn", "_law_many"] []) (gD : mg "_law_next" = some (.ref fD))
    (ml : mg "len" = none) (mr : mg "range" = none) (mt : mg "tuple" = none) (mi : mg "int" = none) : FnOk P w K mg base CX0 (k + 2) f fd ["_law_drawn", "_law_most"] spPanel := by
  have GD : FnOk P w K mg base CX0 (k + 1) fD fdD ["_law_drawn", "_law_many"] spNext := ok_next FD ml
  refine F.ok scPanel (fun vs H Q E h => ?_) (fun cdv A outer s H vs Q E hr h => ?_)
  · obtain ⟨a, c, r, m, most, rfl, _⟩ := h
    rfl
  · obtain ⟨a, c, r, m, most, rfl, hD, m1, m2, q⟩ := h
    refine ⟨_, pss_cons (ps_set (i := 2) scPanel.nd rfl (.inl rfl) (pe_ix ix_list (pe_lst (pa_cons (pe_op op_add pe_int (pe_call GD hr (by rfl) gD FD.kp bD .nil pass0 (pa_cons (pv 0) (pa_cons (pv 1) pa_nil)))) (pa_cons (pv 1) pa_nil)))
          (pe_callTy call_int1 (by rfl) mi (by decide +kernel) (pa_cons (pe_cmpR op_eq (pe_call GD hr (by rfl) gD FD.kp bD .nil pass0 (pa_cons (pv 0) (pa_cons pe_int pa_nil))) pe_int (nomark _)) pa_nil)) (fun _ _ => rfl)))
      (pss_cons (ps_asg (pe_tup (pa_cons (pe_call GD hr (by rfl) gD FD.kp bD .nil pass0 (pa_cons (pv 0) (pa_cons pe_int pa_nil))) (pa_cons (pe_lst pa_nil) pa_nil)))
        (pg_tup rfl (pgs_cons (pg_name (i := 3) scPanel.nd rfl (.inr rfl)) (pgs_cons (pg_name (i := 4) scPanel.nd rfl (.inl rfl)) pgs_nil))))
      (pss_cons (ps_for PassesOwn.never rfl (pi_range1 (by rfl) mr (pa_cons (pv 2) pa_nil)) (pg_name (i := 5) scPanel.nd rfl (.inr rfl))
        (pss_cons (ps_setLc (i := 6) (own := [("_law_other", 7)]) (g := gName 7) rfl scPanel.nd rfl rfl (sw_true rfl rfl rfl (by decide +kernel)) (pi_range1 (by rfl) mr (pa_cons (pv 2) pa_nil))
            (blkOk_by (own := [("_law_other", 7)]) (N := nPanel) (sc := defScope sPanel) (by decide +kernel)) (fun _ _ _ _ _ => pg_name (i := 7) scPanel.nd rfl (Or.inl rfl))
            (fun _ _ _ _ _ => pts_one (pt_cmpR op_ne (pv 7) (pv 5) (nomark _))) (fun _ _ _ _ _ => pv 7))
        (pss_one (ps_expr (pe_bm PySem.F.plainAttrs_list PySem.F.slot_list_append PySem.F.type_list_append mt_append (pv 4) (pa_cons (pe_callTy call_tupF (by rfl) mt (by decide +kernel) (pa_cons
            (pe_lc (own := [("_law_other", 7)]) (g := gName 7) rfl scPanel.nd (pi_list (pv 6))
              (blkOk_by (own := [("_law_other", 7)]) (N := nPanel) (sc := defScope sPanel) (by decide +kernel)) (fun _ _ _ _ _ => pg_name (i := 7) scPanel.nd rfl (Or.inl rfl))
              (fun _ _ _ _ _ => pts_one (pt_cmpR op_lt (pe_call GD hr (by rfl) gD FD.kp bD .nil pass0 (pa_cons (pv 0) (pa_cons pe_int pa_nil))) (pv 3) (nomark _)))
              (fun _ _ _ _ _ => pv 7)) pa_nil)) pa_nil))))))
      (pss_one (ps_ret (pe_callTy call_tupF (by rfl) mt (by decide +kernel) (pa_cons (pv 4) pa_nil)))))), ?_⟩
    refine ⟨.ref a, rfl, .int most, rfl, a, c, r, m + 199, most, rfl, hD.less (by omega), by omega, by omega, fun H1 r1 b1 D1 r1a r1b => ?_⟩
    refine ⟨1, r1, rfl, rfl, .int most, rfl, by show 2 ≤ sizeLine; decide, fun L nL => ?_⟩
    have sL : Same H1 (upd H1 L (.lst [.int (1 + r1), .int most])) := same_new nL
    refine ⟨.ref a, rfl, a, c, r, m + 198, 4, rfl, D1.same sL, by decide, by decide, fun H2 r2 b2 D2 r2a r2b => ?_⟩
    have hL : H2 L = some (.lst [.int (1 + r1), .int most]) := b2 _ _ (D1.fresh nL).1 (D1.fresh nL).2.1 upd_same
    obtain ⟨n, hn, n1, n2⟩ : ∃ n : Int, atI [V.int (1 + r1), V.int most] (if decide (V.int r2 = V.int 0) = true then 1 else 0) = some (.int n) ∧ 1 ≤ n ∧ n ≤ most := by
      split
      · exact ⟨most, rfl, m1, Int.le_refl _⟩
      · exact ⟨1 + r1, rfl, by omega, by omega⟩
    refine ⟨rfl, .inr ⟨_, rfl, L, _, _, .int n, rfl, rfl, .inl (.inl hL), hn, ?_⟩⟩
    refine ⟨.ref a, rfl, a, c, r, m + 197, 6, rfl, D2, by decide, by decide, fun H3 y b3 D3 y0 y5 => ?_⟩
    refine ⟨Nat.zero_le _, fun F nF => ?_⟩
    have sF : Same H3 (upd H3 F (.lst [])) := same_new nF
    refine ⟨by show 2 ≤ sizeLine; decide, fun T nT => ⟨T, _, rfl, .inl (.inl upd_same), rfl, _, _, rfl, _, _, rfl, rfl, ?_⟩⟩
    have b13 : But a r H H3 := ((b1.trans (But.of sL)).trans b2).trans b3
    have FD' := D3.fresh nF
    have hnF : H F = none := b13.free FD'.1 FD'.2.1 nF
    refine gen_heap (fun H4 => But a r H H4 ∧ Dk3 H4 a c r (m + 197) ∧ H4 F = some (.lst [])) ⟨(b13.trans (But.of sF)).trans (But.of (same_new nT)), (D3.same sF).same (same_new nT), (same_new nT) _ _ upd_same⟩ fun H4 ⟨b4, D4, eF4⟩ => ?_
    obtain ⟨nn, rfl⟩ : ∃ nn : Nat, n = (nn : Int) := ⟨n.toNat, (Int.toNat_of_nonneg (by omega)).symm⟩
    refine ⟨_, rfl, _, rfl, by omega, by omega, ?_⟩
    refine for_range (n := nn) (fun i σ H5 => But a r H H5 ∧ Dk3 H5 a c r (m + 10 * (10 - i)) ∧ i ≤ nn ∧
        (∃ (qs : List Addr) (pan : List (List Int)), H5 F = some (.lst (qs.map V.ref)) ∧ Paired (fun q l => FT H5 q (l.map V.int)) qs pan ∧ pan.length = i ∧
          ∀ (j : Nat) (l : List Int), pan[j]? = some l → l.Pairwise (· < ·) ∧ ∀ x ∈ l, 0 ≤ x ∧ x < (nn : Int) ∧ x ≠ (j : Int)) ∧
        ∃ x5 x6 x7, σ = [some (.ref a), some (.int most), some (.int (nn : Int)), some (.int y), some (.ref F), x5, x6, x7]) ?_ ?_ ?_
    · exact ⟨b4, D4.less (by omega), Nat.zero_le _, ⟨[], [], eF4, .nil, rfl, fun j l h => by simp at h⟩, none, none, none, rfl⟩
    · intro i σ H5 hi hP
      obtain ⟨b5, D5, _, ⟨qs, pan, hF, hqs, hpl, hpan⟩, x5, x6, x7, rfl⟩ := hP
      -- others
      refine ⟨_, rfl, _, rfl, by omega, by omega, fun O nO => ?_⟩
      refine lc_range (n := nn) (fun k H6 => Same H5 H6 ∧ ∃ acc : List Int, H6 O = some (.lst (acc.map V.int)) ∧ acc.length ≤ k ∧ acc.Pairwise (· < ·) ∧ ∀ x ∈ acc, 0 ≤ x ∧ x < (k : Int) ∧ x ≠ (i : Int))
        ⟨same_new nO, [], upd_same, Nat.le_refl _, List.Pairwise.nil, fun x h => by cases h⟩ (fun k H6 hk hP => ?_) (fun H6 hP => ?_)
      · obtain ⟨s6, acc, eO, al, ap, am⟩ := hP
        have am' : ∀ x ∈ acc, 0 ≤ x ∧ x < ((k + 1 : Nat) : Int) ∧ x ≠ (i : Int) := fun x hx => by have := am x hx; omega
        refine ⟨rfl, .int (0 + (k : Int)), rfl, .int (0 + (i : Int)), rfl, rfl, _, rfl, ite2 (fun e => ?_) (fun e => ?_)⟩
        · have hne : (k : Int) ≠ (i : Int) := fun z => by
            rw [show (0 + (k : Int)) = (0 + (i : Int)) by omega] at e
            simp at e
          refine ⟨_, rfl, acc.map V.int, eO, by rw [List.length_map]; exact small1000 (by omega), ?_, acc ++ [0 + (k : Int)], ?_, by rw [List.length_append]; show acc.length + 1 ≤ k + 1; omega, ?_, ?_⟩
          · intro b o e
            rw [upd_ne (ne_of_none e nO)]
            exact s6 _ _ e
          · rw [upd_same, List.map_append]; rfl
          · rw [List.pairwise_append]
            refine ⟨ap, List.pairwise_singleton _ _, fun x hx z hz => ?_⟩
            have := am x hx
            rw [List.mem_singleton.mp hz]; omega
          · intro x hx
            rcases List.mem_append.mp hx with h | h
            · exact am' x h
            · rw [List.mem_singleton.mp h]; omega
        · exact ⟨s6, acc, eO, by omega, ap, am'⟩
      · obtain ⟨s6, os, eO, ol, op, om⟩ := hP
        have D6 := D5.same s6
        have oO := D5.fresh nO
        have olen : os.length ≤ 10 := by omega
        have hF6 := s6 _ _ hF
        -- kept
        refine ⟨.ref F, rfl, .inl ⟨rfl, _, .inl (.inl hF6)⟩, .ref O, rfl, O, rfl, ⟨_, .inl (.inl eO)⟩, fun T2 nT2 => ?_⟩
        have oT := D6.fresh nT2
        refine lc_list (xs := os.map V.int) (fun k H7 => But a r H6 H7 ∧ Dk3 H7 a c r (m + 10 * (10 - i) - k) ∧ ∃ acc : List Int, H7 T2 = some (.lst (acc.map V.int)) ∧ acc.Sublist (os.take k))
          ⟨But.of (same_new nT2), (D6.same (same_new nT2)).less (by omega), [], upd_same, List.nil_sublist _⟩ (fun k H7 _ hP => .inl (.inl (hP.1 _ _ oO.1 oO.2.1 eO))) (fun k x H7 hx hP => ?_) (fun H7 hP => ?_)
        · obtain ⟨b7, D7, acc, eT, as⟩ := hP
          obtain ⟨z, hz, rfl⟩ := int_get hx
          have hk : k < os.length := (List.getElem?_eq_some_iff.mp hz).1
          refine ⟨rfl, .ref a, rfl, a, c, r, m + 10 * (10 - i) - (k + 1), 5, rfl,
            D7.less (by omega), by decide, by decide, fun H8 r' b8 D8 r0 r1 => ⟨.int y, rfl, _, _, rfl, rfl, _, rfl, ite2 (fun e => ?_) (fun e => ?_)⟩⟩
          all_goals
            have eT8 : H8 T2 = some (.lst (acc.map V.int)) := b8 _ _ oT.1 oT.2.1 eT
          · refine ⟨_, rfl, acc.map V.int, eT8, ?_, ?_, ?_, acc ++ [z], ?_, sub_snoc as hz⟩
            · have := as.length_le
              rw [List.length_take] at this
              rw [List.length_map]; exact small1000 (by omega)
            · intro b o h1 h2 e
              rw [upd_ne (ne_of_none e nT2)]
              exact b8 _ _ h1 h2 (b7 _ _ h1 h2 e)
            · exact D8.upd oT
            · rw [upd_same, List.map_append]; rfl
          · exact ⟨b7.trans b8, D8, acc, eT8, sub_skip as⟩
        · obtain ⟨b7, D7, kp, eT, as⟩ := hP
          rw [List.length_map] at D7
          rw [List.length_map, List.take_length] at as
          have b57 : But a r H5 H7 := (But.of s6).trans b7
          have eF7 := b57 _ _ FD'.1 FD'.2.1 hF
          have ft7 : Paired (fun q l => FT H7 q (l.map V.int)) qs pan := hqs.mono fun q l h => h.but3 D5 b57
          have few : qs.length ≤ 100 := by rw [hqs.length, hpl]; omega
          refine ⟨T2, _, rfl, .inl (.inl eT), fun p o np ho => ?_⟩
          have sp : Same H7 (upd H7 p (.frz o (.tup (kp.map V.int)))) := same_new np
          have pF : p ≠ F := Ne.symm (ne_of_none eF7 np)
          refine ⟨F, _, .ref p, rfl, rfl, sp _ _ eF7, by rw [List.length_map]; exact small1000 (by omega), ?_⟩
          have keep : ∀ b o', b ≠ F → H7 b = some o' → (upd (upd H7 p (.frz o (.tup (kp.map V.int)))) F (.lst (qs.map V.ref ++ [.ref p]))) b = some o' := fun b o' hb e => by
            rw [upd_ne hb]; exact sp _ _ e
          have ftk : ∀ q xs, FT H7 q xs → FT (upd (upd H7 p (.frz o (.tup (kp.map V.int)))) F (.lst (qs.map V.ref ++ [.ref p]))) q xs := fun q xs ⟨oq, e, z⟩ => ⟨oq, keep q _ (ne_of e eF7 (by intro z; cases z)) e, z⟩
          refine ⟨fun b o' h1 h2 e => keep b o' (ne_of_none e hnF) (b57 b o' h1 h2 (b5 b o' h1 h2 e)), ((D7.same sp).upd ⟨FD'.1, FD'.2.1, FD'.2.2⟩).less (by omega), hi, ⟨qs ++ [p], pan ++ [kp], by rw [upd_same, List.map_append]; rfl, ?_, by rw [List.length_append, hpl]; rfl, fun j l' hj => ?_⟩, _, _, _, rfl⟩
          · refine Paired.snoc (ft7.mono fun q l h => ftk q _ h) ⟨o, ?_, ho⟩
            rw [upd_ne pF, upd_same]
          · by_cases hji : j < i
            · rw [List.getElem?_append_left (by omega)] at hj
              exact hpan j l' hj
            · rw [List.getElem?_append_right (by omega), hpl] at hj
              obtain rfl : j = i := by
                have := (List.getElem?_eq_some_iff.mp hj).1
                rw [List.length_singleton] at this; omega
              rw [Nat.sub_self] at hj
              obtain rfl : kp = l' := by simpa using hj
              exact ⟨op.sublist as, fun x hx => om x (as.subset hx)⟩
    · intro σ H5 hP
      obtain ⟨b5, D5, _, ⟨qs, pan, hF, hqs, hpl, hpan⟩, x5, x6, x7, rfl⟩ := hP
      refine ⟨.ref F, rfl, F, _, rfl, .inl (.inl hF), fun l o nl ho => ?_⟩
      have sl : Same H5 (upd H5 l (.frz o (.tup (qs.map V.ref)))) := same_new nl
      refine q _ l pan (b5.trans (But.of sl)) ((D5.same sl).less (by omega)) ⟨qs, ⟨o, upd_same, ho⟩, hqs.mono fun _ _ z => z.same sl⟩ ?_ (by omega)
      have hnn : (pan.length : Int) = (nn : Int) := by omega
      refine ⟨by omega, by omega, fun l hl => ?_, fun l hl => ?_, fun j l hl h => ?_⟩
      · obtain ⟨j, hj⟩ := List.getElem?_of_mem hl
        exact (hpan j l hj).1
      · obtain ⟨j, hj⟩ := List.getElem?_of_mem hl
        intro x hx
        have := (hpan j l hj).2 x hx
        exact ⟨this.1, by omega⟩
      · exact ((hpan j l hl).2 _ h).2.2 rfl

def spRow : Sp := fun vs H Q _ => ∃ (a c r : Addr) (m : Nat) (n most : Int), vs = [.ref a, .int n, .int most] ∧ Dk3 H a c r (m + 61) ∧ 1 ≤ n ∧ n < 1000000 ∧ 0 ≤ most ∧ most ≤ 60 ∧
  ∀ (H' : Hp) (t : Addr) (row : List Int), But a r H H' → Dk3 H' a c r m → FT H' t (row.map V.int) → (∀ x ∈ row, 0 ≤ x ∧ x < n) → (row.length : Int) ≤ most → Q (.ref t) H'
theorem ok_row {f fD : Addr} {fd fdD : FuncData} {k : Nat} (F : Fun K "_law_row" "_law_row" sRow f fd) (FD : Fun K "_law_next" "_law_next" sNext fD fdD) (bD : Binds K fdD ["_law_drawn", "_law_many"] []) (gD : mg "_law_next" = some (.ref fD))
    (ml : mg "len" = none) (mr : mg "range" = none) (mt : mg "tuple" = none) : FnOk P w K mg base CX0 (k + 2) f fd ["_law_drawn", "_law_n", "_law_most"] spRow := by
  have GD : FnOk P w K mg base CX0 (k + 1) fD fdD ["_law_drawn", "_law_many"] spNext := ok_next FD ml
  refine F.ok scRow (fun vs H Q E h => ?_) (fun cdv A outer s H vs Q E hr h => ?_)
  · obtain ⟨a, c, r, m, n, most, rfl, _⟩ := h
    rfl
  · obtain ⟨a, c, r, m, n, most, rfl, hD, n1, n2, m1, m2, q⟩ := h
    refine ⟨_, pss_one (ps_ret (pe_callTy call_tupF (by rfl) mt (by decide +kernel) (pa_cons
        (pe_lc (own := [("_law_press", 3)]) (g := gName 3) (tt := tYes) rfl scRow.nd (pi_range1 (by rfl) mr (pa_cons (pe_call GD hr (by rfl) gD FD.kp bD .nil pass0 (pa_cons (pv 0) (pa_cons (pe_op op_add (pv 2) pe_int) pa_nil))) pa_nil))
          (blkOk_by (own := [("_law_press", 3)]) (N := nRow) (sc := defScope sRow) (by decide +kernel)) (fun _ _ _ _ _ => pg_name (i := 3) scRow.nd rfl (Or.inl rfl)) (fun _ _ _ _ _ => pts_nil)
          (fun _ _ _ _ _ => pe_call GD hr (by rfl) gD FD.kp bD .nil pass0 (pa_cons (pv 0) (pa_cons (pv 1) pa_nil)))) pa_nil))), ?_⟩
    refine ⟨.ref a, rfl, .int most, rfl, most, 1, rfl, rfl, a, c, r, m + 60, most + 1, rfl, hD, by omega, by omega, fun H1 y b1 D1 y0 y1 => ?_⟩
    obtain ⟨yn, rfl⟩ : ∃ yn : Nat, y = (yn : Int) := ⟨y.toNat, (Int.toNat_of_nonneg y0).symm⟩
    refine ⟨_, rfl, by omega, by omega, fun D nD => ?_⟩
    have oD := D1.fresh nD
    refine lc_range (n := yn) (fun i H2 => But a r H1 H2 ∧ Dk3 H2 a c r (m + 60 - i) ∧ ∃ acc : List Int, H2 D = some (.lst (acc.map V.int)) ∧ acc.length = i ∧ ∀ x ∈ acc, 0 ≤ x ∧ x < n)
      ⟨But.of (same_new nD), (D1.same (same_new nD)).less (by omega), [], upd_same, rfl, fun x h => by cases h⟩ (fun i H2 hi hP => ?_) (fun H2 hP => ?_)
    · obtain ⟨b2, D2, acc, eD, al, am⟩ := hP
      refine ⟨rfl, tyes (iteT ⟨.ref a, rfl, .int n, rfl, a, c, r, m + 60 - (i + 1), n, rfl, D2.less (by omega), by omega, n2, fun H3 z b3 D3 z0 z1 => ⟨acc.map V.int, b3 _ _ oD.1 oD.2.1 eD, ?_, ?_, D3.upd oD, acc ++ [z], ?_, ?_, ?_⟩⟩)⟩
      · rw [List.length_map]; exact small1000 (by omega)
      · intro b o h1 h2 e
        rw [upd_ne (ne_of_none e nD)]
        exact b3 _ _ h1 h2 (b2 _ _ h1 h2 e)
      · rw [upd_same, List.map_append]; rfl
      · rw [List.length_append, al]; rfl
      · intro x hx
        rcases List.mem_append.mp hx with h | h
        · exact am x h
        · rw [List.mem_singleton.mp h]; exact ⟨z0, z1⟩
    · obtain ⟨b2, D2, acc, eD, al, am⟩ := hP
      refine ⟨D, _, rfl, .inl (.inl eD), fun t o nt ho => ?_⟩
      exact q _ t acc ((b1.trans b2).trans (But.of (same_new nt))) ((D2.same (same_new nt)).less (by omega)) ⟨o, upd_same, ho⟩ am (by omega)
end
end K10
namespace K10
open PySem PySem.Spec PyProof.Rows L2 Pr
theorem scNo : FnScope ["panel"] ["panel"] (defScope sNo) := ⟨rfl, rfl, rfl, by decide +kernel, rfl, by decide +kernel, by decide +kernel⟩
theorem scPressE : FnScope ["panel", "button", "words", "other"] ["panel", "button"] (defScope sPressE) := ⟨rfl, rfl, rfl, by decide +kernel, rfl, by decide +kernel, by decide +kernel⟩
def nJoin : List Str := ["first", "second", "early", "late"]
theorem scJoin : FnScope nJoin ["first", "second"] (defScope sJoin) := ⟨rfl, rfl, rfl, by decide +kernel, rfl, by decide +kernel, by decide +kernel⟩
theorem scWith : FnScope ["panel", "effect", "button"] ["panel", "effect", "button"] (defScope sWith) := ⟨rfl, rfl, rfl, by decide +kernel, rfl, by decide +kernel, by decide +kernel⟩
theorem scEff : FnScope ["panel", "row", "effect", "button"] ["panel", "row"] (defScope sEff) := ⟨rfl, rfl, rfl, by decide +kernel, rfl, by decide +kernel, by decide +kernel⟩
section
variable {P : Program} {w : World} {K : PySem.W.Frag} {mg : Str → Option Value} {base : Heap}
def spNo : Sp := fun vs H Q _ => ∃ (p : Addr) (pan : List (List Int)), vs = [.ref p] ∧ PanAt H p pan ∧ Good pan ∧
  ∀ H' t, Same H H' → H' t = some (.tup ((effM pan []).map V.str)) → Q (.ref t) H'
theorem ok_no {f : Addr} {fd : FuncData} {k : Nat} (F : Fun K "no_effect" "no_effect" sNo f fd) (ml : mg "len" = none) : FnOk P w K mg base CX0 (k + 1) f fd ["panel"] spNo := by
  refine F.ok scNo (fun vs H Q E h => ?_) (fun cdv A outer s H vs Q E hr h => ?_)
  · obtain ⟨p, pan, rfl, _⟩ := h
    rfl
  · obtain ⟨p, pan, rfl, hp, hg, q⟩ := h
    refine ⟨_, pss_one (ps_ret (pe_op op_repS (pe_tup (pa_cons pe_str pa_nil)) (pe_callB call_len_seq (by rfl) ml PySem.boot_len (pa_cons (pv 0) pa_nil)))), ?_⟩
    obtain ⟨qs, hq, hqs⟩ := id hp
    have hl : (qs.map V.ref).length = pan.length := by rw [List.length_map, hqs.length]
    have few := hg.few
    have pos := hg.pos
    refine ⟨by show 1 ≤ sizeLine; decide, fun T nT => ?_⟩
    have sT : Same H (upd H T (.tup [.str wSame])) := same_new nT
    refine ⟨.ref p, rfl, p, _, rfl, .inr (hq.same sT).sq, ?_⟩
    rw [hl]
    by_cases e : pan.length = 1
    · refine .inl ⟨T, .str wSame, rfl, .inl (.inl upd_same), .inl ⟨by rw [e]; rfl, q _ T sT ?_⟩⟩
      rw [upd_same, effM_nil, e]; rfl
    · refine .inr ⟨T, (pan.length : Int), _, rfl, rfl, .inl (.inl upd_same), by simp, by omega, by omega, by show 1 ≤ 1000; decide, fun t nt => q _ t (sT.trans (same_new nt)) ?_⟩
      rw [upd_same, rep_flat, effM_nil, List.map_replicate, Int.toNat_natCast]

def spPressE : Sp := fun vs H Q _ => ∃ (p : Addr) (pan : List (List Int)) (b : Int), vs = [.ref p, .int b] ∧ PanAt H p pan ∧ Good pan ∧ 0 ≤ b ∧ b < (pan.length : Int) ∧
  ∀ H' t, Same H H' → H' t = some (.tup ((pressW pan b).map V.str)) → Q (.ref t) H'
theorem ok_pressE {f fN : Addr} {fd fdN : FuncData} {k : Nat} (F : Fun K "press_effect" "press_effect" sPressE f fd) (FN : Fun K "no_effect" "no_effect" sNo fN fdN) (bN : Binds K fdN ["panel"] []) (gN : mg "no_effect" = some (.ref fN))
    (ml : mg "len" = none) (mli : mg "list" = none) (mt : mg "tuple" = none) : FnOk P w K mg base CX0 (k + 2) f fd ["panel", "button"] spPressE := by
  have GN : FnOk P w K mg base CX0 (k + 1) fN fdN ["panel"] spNo := ok_no FN ml
  refine F.ok scPressE (fun vs H Q E h => ?_) (fun cdv A outer s H vs Q E hr h => ?_)
  · obtain ⟨p, pan, b, rfl, _⟩ := h
    rfl
  · obtain ⟨p, pan, b, rfl, hp, hg, b0, b1, q⟩ := h
    refine ⟨_, pss_cons (ps_set (i := 2) scPressE.nd rfl (.inl rfl) (pe_callTy call_list_of (by rfl) mli (by decide +kernel) (pa_cons (pe_call GN hr (by rfl) gN FN.kp bN .nil pass0 (pa_cons (pv 0) pa_nil)) pa_nil)))
      (pss_cons (ps_asg pe_str (pg_sub (pv 2) (pv 1) set_list))
      (pss_cons (ps_for PassesOwn.never rfl (pi_tup (pe_ix ix_tup (pv 0) (pv 1) (fun _ _ => rfl))) (pg_name (i := 3) scPressE.nd rfl (.inl rfl))
        (pss_one (ps_asg pe_str (pg_sub (pv 2) (pv 3) set_list))))
      (pss_one (ps_ret (pe_callTy call_tuple_of (by rfl) mt (by decide +kernel) (pa_cons (pv 2) pa_nil)))))), ?_⟩
    refine ⟨.ref p, rfl, p, pan, rfl, hp, hg, fun H1 t s1 et => ?_⟩
    refine ⟨t, _, rfl, .inr (.inl (.inl et)), fun W nW => ?_⟩
    have s2 : Same H (upd H1 W (.lst ((effM pan []).map V.str))) := s1.trans (same_new nW)
    have nW' : H W = none := s1.free nW
    obtain ⟨bn, rfl⟩ : ∃ bn : Nat, b = (bn : Int) := ⟨b.toNat, (Int.toNat_of_nonneg b0).symm⟩
    have hbn : bn < pan.length := by omega
    refine ⟨.ref W, rfl, .int (bn : Int), rfl, W, _, _, bn, rfl, rfl, upd_same, ixN_nat (by rw [List.length_map, effM_len]; exact hbn), ?_⟩
    obtain ⟨qs, q', hq, ha, hr', _⟩ := pan_at hp (b := (bn : Int)) b0 b1
    have s3 : Same H (upd (upd H1 W (.lst ((effM pan []).map V.str))) W (.lst (((effM pan []).map V.str).set bn (.str wOn)))) := fun x o e => by
      rw [upd_ne (ne_of_none e nW')]; exact s2 _ _ e
    refine ⟨.ref p, rfl, .int (bn : Int), rfl, p, _, _, .ref q', rfl, rfl, (hq.same s3).sq, ha, q', rfl, ⟨_, (hr'.same s3).sq⟩, ?_⟩
    generalize hl0 : pan.getD ((bn : Int)).toNat [] = l at hr'
    have hin : ∀ x ∈ l, 0 ≤ x ∧ x < (pan.length : Int) := fun x hx => by
      rw [← hl0, Int.toNat_natCast, List.getD_eq_getElem?_getD, List.getElem?_eq_getElem hbn] at hx
      exact hg.rng _ (List.getElem_mem hbn) x hx
    refine for_tup (xs := l.map V.int) (fun i σ H4 => Same H H4 ∧ H4 W = some (.lst (((List.range pan.length).map (onM (l.take i) (bn : Int))).map V.str)) ∧ ∃ x3, σ = [some (.ref p), some (.int (bn : Int)), some (.ref W), x3])
      ⟨s3, ?_, none, rfl⟩ (fun i σ H4 _ hP => (hr'.same hP.1).sq) (fun i x σ H4 hx hP => ?_) (fun σ H4 hP => ?_)
    · rw [upd_same, effM_nil, replicate_map_range, List.map_map, set_map_range, List.map_map]
      refine congrArg _ (congrArg _ (List.map_congr_left fun c _ => ?_))
      show (if c = bn then V.str wOn else V.str wSame) = V.str (onM [] (bn : Int) c)
      unfold onM
      have e0 : ¬ ((c : Int) ∈ ([] : List Int)) := by simp
      by_cases e : c = bn
      · have e1 : (c : Int) = (bn : Int) := by omega
        rw [if_pos e, if_neg e0, if_pos e1]
      · have e1 : ¬ (c : Int) = (bn : Int) := by omega
        rw [if_neg e, if_neg e0, if_neg e1]
    · obtain ⟨s4, eW, x3, rfl⟩ := hP
      obtain ⟨z, hz, rfl⟩ := int_get hx
      have hzr := hin z (List.mem_of_getElem? hz)
      obtain ⟨zn, rfl⟩ : ∃ zn : Nat, z = (zn : Int) := ⟨z.toNat, (Int.toNat_of_nonneg hzr.1).symm⟩
      refine ⟨.ref W, rfl, .int (zn : Int), rfl, W, _, _, zn, rfl, rfl, eW, ixN_nat (by rw [List.length_map, List.length_map, List.length_range]; omega), ?_, ?_, _, rfl⟩
      · intro b o e
        rw [upd_ne (ne_of_none e nW')]; exact s4 _ _ e
      · rw [upd_same, List.map_map, set_map_range, List.map_map]
        refine congrArg _ (congrArg _ (List.map_congr_left fun c _ => ?_))
        show (if c = zn then V.str wOff else V.str (onM (l.take i) (bn : Int) c)) = V.str (onM (l.take (i + 1)) (bn : Int) c)
        unfold onM
        rw [List.take_add_one, hz]
        by_cases e : c = zn
        · rw [if_pos e, if_pos (by rw [e]; simp)]
        · have hne : (c : Int) ≠ (zn : Int) := by omega
          rw [if_neg e]
          congr 1
          by_cases e2 : (c : Int) ∈ l.take i
          · rw [if_pos e2, if_pos (List.mem_append_left _ e2)]
          · rw [if_neg e2, if_neg fun h => (List.mem_append.mp h).elim e2 fun h => hne (by simpa using h)]
    · obtain ⟨s4, eW, x3, rfl⟩ := hP
      rw [List.length_map, List.take_length] at eW
      refine ⟨.ref W, rfl, W, _, rfl, .inl ⟨.inl (.inl eW), fun t nt => q _ t (s4.trans (same_new nt)) ?_⟩⟩
      rw [upd_same]
      unfold pressW
      rw [hl0]

def spJoin (K : PySem.W.Frag) : Sp := fun vs H Q _ => ∃ (a b : Addr) (xs ys : List Str), vs = [.ref a, .ref b] ∧ SqT K H a (xs.map V.str) ∧ SqT K H b (ys.map V.str) ∧ xs.length = ys.length ∧ ys.length ≤ 100 ∧
  ∀ H' t, Same H H' → H' t = some (.tup ((joinM xs ys).map V.str)) → Q (.ref t) H'
theorem ok_join {f : Addr} {fd : FuncData} {k : Nat} (F : Fun K "joined_effect" "joined_effect" sJoin f fd) (mz : mg "zip" = none) (mt : mg "tuple" = none) : FnOk P w K mg base CX0 (k + 1) f fd ["first", "second"] (spJoin K) := by
  refine F.ok scJoin (fun vs H Q E h => ?_) (fun cdv A outer s H vs Q E hr h => ?_)
  · obtain ⟨a, b, xs, ys, rfl, _⟩ := h
    rfl
  · obtain ⟨a, b, xs, ys, rfl, ha, hb, hl, few, q⟩ := h
    refine ⟨_, pss_one (ps_ret (pe_callTy call_tuple_of (by rfl) mt (by decide +kernel) (pa_cons
      (pe_lc (own := [("early", 2), ("late", 3)]) (g := gTup K 2 (gCons (gName 2) (gCons (gName 3) gNil))) (tt := tYes) rfl scJoin.nd (RZ.pi_zipA (by rfl) mz (pa_cons (pv 0) (pa_cons (pv 1) pa_nil)))
        (blkOk_by (own := [("early", 2), ("late", 3)]) (N := nJoin) (sc := defScope sJoin) (by decide +kernel))
        (fun _ _ _ _ _ => pg_tup rfl (pgs_cons (pg_name (i := 2) scJoin.nd rfl (Or.inl rfl)) (pgs_cons (pg_name (i := 3) scJoin.nd rfl (Or.inl rfl)) pgs_nil)))
        (fun _ _ _ _ _ => pts_nil)
        (fun _ _ _ _ _ => pe_ifExp (pt_cmpR op_eq (pv 3) pe_str (nomark _)) (pv 2) (pv 3))) pa_nil))), ?_⟩
    refine ⟨.ref a, rfl, .ref b, rfl, a, b, _, _, rfl, .inr ⟨ha, hb, fun D nD => ?_⟩⟩
    have hjl := joinM_len hl
    refine lc_it (walk_zipT (n := ys.length) (xs := xs.map V.str) (ys := ys.map V.str) (by rw [List.length_map, List.length_map, hl, Nat.min_self])) (fun i H3 => Same H H3 ∧ H3 D = some (.lst (((joinM xs ys).take i).map V.str))) ⟨same_new nD, upd_same⟩
      (fun i H3 _ hP => ⟨same_sqT hP.1 ha, same_sqT hP.1 hb⟩) (fun i x H3 H4 hi hP hY => ?_) (fun H3 hP => ?_)
    · obtain ⟨s3, eD⟩ := hP
      obtain ⟨T, x1, x2, rfl, nT, rfl, e1, e2⟩ := hY
      obtain ⟨y1, f1, rfl⟩ := str_get e1
      obtain ⟨y2, f2, rfl⟩ := str_get e2
      have sT : Same H3 (upd H3 T (.tup [.str y1, .str y2])) := same_new nT
      have eD4 := sT _ _ eD
      have g := joinM_get f1 f2
      have fin : ∀ v : V, v = .str (if y2 = wSame then y1 else y2) → ∃ acc, (upd H3 T (.tup [.str y1, .str y2])) D = some (.lst acc) ∧ acc.length < sizeLine ∧ Same H (upd (upd H3 T (.tup [.str y1, .str y2])) D (.lst (acc ++ [v]))) ∧
          (upd (upd H3 T (.tup [.str y1, .str y2])) D (.lst (acc ++ [v]))) D = some (.lst (((joinM xs ys).take (i + 1)).map V.str)) := by
        intro v hv
        refine ⟨_, eD4, ?_, ?_, ?_⟩
        · rw [List.length_map, List.length_take]; exact small1000 (by omega)
        · intro b' o e
          rw [upd_ne (ne_of_none e nD)]
          exact sT _ _ (s3 _ _ e)
        · rw [upd_same, List.take_add_one, g, List.map_append, hv]; rfl
      refine ⟨T, _, rfl, .inl (.inl upd_same), rfl, _, _, rfl, _, _, rfl, rfl, rfl, tyes (iteT ⟨.str y2, rfl, rfl, _, rfl, ite2 (fun e => ?_) (fun e => ?_)⟩)⟩
      · have e' : y2 = wSame := V.str.inj (of_decide_eq_true e)
        exact ⟨.str y1, rfl, fin _ (by rw [if_pos e'])⟩
      · have e' : y2 ≠ wSame := fun z => e (by rw [z]; exact decide_eq_true rfl)
        exact ⟨.str y2, rfl, fin _ (by rw [if_neg e'])⟩
    · obtain ⟨s3, eD⟩ := hP
      rw [List.take_of_length_le (by rw [hjl]; exact Nat.le_refl _)] at eD
      refine ⟨D, _, rfl, .inl ⟨.inl (.inl eD), fun t nt => ?_⟩⟩
      exact q _ t (s3.trans (same_new nt)) upd_same

def spWith (K : PySem.W.Frag) : Sp := fun vs H Q _ => ∃ (p t : Addr) (pan : List (List Int)) (xs : List Str) (b : Int), vs = [.ref p, .ref t, .int b] ∧ PanAt H p pan ∧ Good pan ∧ SqT K H t (xs.map V.str) ∧ xs.length = pan.length ∧ 0 ≤ b ∧ b < (pan.length : Int) ∧
  ∀ H' u, Same H H' → H' u = some (.tup ((joinM xs (pressW pan b)).map V.str)) → Q (.ref u) H'
theorem ok_with {f fN fP fJ : Addr} {fd fdN fdP fdJ : FuncData} {k : Nat} (F : Fun K "effect_with_press" "effect_with_press" sWith f fd) (FN : Fun K "no_effect" "no_effect" sNo fN fdN) (bN : Binds K fdN ["panel"] []) (gN : mg "no_effect" = some (.ref fN))
    (FP : Fun K "press_effect" "press_effect" sPressE fP fdP) (bP : Binds K fdP ["panel", "button"] []) (gP : mg "press_effect" = some (.ref fP))
    (FJ : Fun K "joined_effect" "joined_effect" sJoin fJ fdJ) (bJ : Binds K fdJ ["first", "second"] []) (gJ : mg "joined_effect" = some (.ref fJ))
    (ml : mg "len" = none) (mli : mg "list" = none) (mt : mg "tuple" = none) (mz : mg "zip" = none) : FnOk P w K mg base CX0 (k + 3) f fd ["panel", "effect", "button"] (spWith K) := by
  have GP : FnOk P w K mg base CX0 (k + 2) fP fdP ["panel", "button"] spPressE := ok_pressE FP FN bN gN ml mli mt
  have GJ : FnOk P w K mg base CX0 (k + 2) fJ fdJ ["first", "second"] (spJoin K) := ok_join FJ mz mt
  refine F.ok scWith (fun vs H Q E h => ?_) (fun cdv A outer s H vs Q E hr h => ?_)
  · obtain ⟨p, t, pan, xs, b, rfl, _⟩ := h
    rfl
  · obtain ⟨p, t, pan, xs, b, rfl, hp, hg, ht, hxl, b0, b1, q⟩ := h
    refine ⟨_, pss_one (ps_ret (pe_call GJ hr (by rfl) gJ FJ.kp bJ .nil pass0 (pa_cons (pv 1) (pa_cons (pe_call GP hr (by rfl) gP FP.kp bP .nil pass0 (pa_cons (pv 0) (pa_cons (pv 2) pa_nil))) pa_nil)))), ?_⟩
    have few := hg.few
    refine ⟨.ref t, rfl, .ref p, rfl, .int b, rfl, p, pan, b, rfl, hp, hg, b0, b1, fun H1 u s1 eu => ?_⟩
    exact ⟨t, u, xs, pressW pan b, rfl, same_sqT s1 ht, .inl (.inl eu), by rw [pressW_len, hxl], by rw [pressW_len]; omega, fun H2 v s2 ev => q _ v (s1.trans s2) ev⟩

def spEff (K : PySem.W.Frag) : Sp := fun vs H Q _ => ∃ (p r : Addr) (pan : List (List Int)) (row : List Int), vs = [.ref p, .ref r] ∧ PanAt H p pan ∧ Good pan ∧ SqT K H r (row.map V.int) ∧ (∀ x ∈ row, 0 ≤ x ∧ x < (pan.length : Int)) ∧
  ∀ H' u, Same H H' → H' u = some (.tup ((effM pan row).map V.str)) → Q (.ref u) H'
theorem ok_eff {f fN fP fJ fW : Addr} {fd fdN fdP fdJ fdW : FuncData} {k : Nat} (F : Fun K "effect_of" "effect_of" sEff f fd) (FN : Fun K "no_effect" "no_effect" sNo fN fdN) (bN : Binds K fdN ["panel"] []) (gN : mg "no_effect" = some (.ref fN))
    (FP : Fun K "press_effect" "press_effect" sPressE fP fdP) (bP : Binds K fdP ["panel", "button"] []) (gP : mg "press_effect" = some (.ref fP))
    (FJ : Fun K "joined_effect" "joined_effect" sJoin fJ fdJ) (bJ : Binds K fdJ ["first", "second"] []) (gJ : mg "joined_effect" = some (.ref fJ))
    (FW : Fun K "effect_with_press" "effect_with_press" sWith fW fdW) (bW : Binds K fdW ["panel", "effect", "button"] []) (gW : mg "effect_with_press" = some (.ref fW))
    (ml : mg "len" = none) (mli : mg "list" = none) (mt : mg "tuple" = none) (mz : mg "zip" = none) : FnOk P w K mg base CX0 (k + 4) f fd ["panel", "row"] (spEff K) := by
  have GN : FnOk P w K mg base CX0 (k + 3) fN fdN ["panel"] spNo := ok_no FN ml
  have GW : FnOk P w K mg base CX0 (k + 3) fW fdW ["panel", "effect", "button"] (spWith K) := ok_with FW FN bN gN FP bP gP FJ bJ gJ ml mli mt mz
  refine F.ok scEff (fun vs H Q E h => ?_) (fun cdv A outer s H vs Q E hr h => ?_)
  · obtain ⟨p, r, pan, row, rfl, _⟩ := h
    rfl
  · obtain ⟨p, r, pan, row, rfl, hp, hg, hrow, hin, q⟩ := h
    refine ⟨_, pss_cons (ps_set (i := 2) scEff.nd rfl (.inl rfl) (pe_call GN hr (by rfl) gN FN.kp bN .nil pass0 (pa_cons (pv 0) pa_nil)))
      (pss_cons (ps_for PassesOwn.never rfl (pi_tup (pv 1)) (pg_name (i := 3) scEff.nd rfl (.inl rfl))
        (pss_one (ps_set (i := 2) scEff.nd rfl (.inl rfl) (pe_call GW hr (by rfl) gW FW.kp bW .nil pass0 (pa_cons (pv 0) (pa_cons (pv 2) (pa_cons (pv 3) pa_nil)))))))
      (pss_one (ps_ret (pv 2)))), ?_⟩
    refine ⟨.ref p, rfl, p, pan, rfl, hp, hg, fun H1 t s1 et => ?_⟩
    refine ⟨.ref r, rfl, r, rfl, ⟨_, same_sqT s1 hrow⟩, ?_⟩
    refine for_tup (xs := row.map V.int) (fun i σ H2 => Same H H2 ∧ ∃ u x3, H2 u = some (.tup ((effM pan (row.take i)).map V.str)) ∧ σ = [some (.ref p), some (.ref r), some (.ref u), x3])
      ⟨s1, t, _, et, rfl⟩ (fun i σ H2 _ hP => same_sqT hP.1 hrow) (fun i x σ H2 hx hP => ?_) (fun σ H2 hP => ?_)
    · obtain ⟨s2, u, x3, eu, rfl⟩ := hP
      obtain ⟨b, hb, rfl⟩ := int_get hx
      have hbr := hin b (List.mem_of_getElem? hb)
      refine ⟨.ref p, rfl, .ref u, rfl, .int b, rfl, p, u, pan, _, b, rfl, hp.same s2, hg, .inl (.inl eu), effM_len _ _, hbr.1, hbr.2, fun H3 v s3 ev => ⟨s2.trans s3, v, _, ?_, rfl⟩⟩
      rw [ev, eff_take hg hb hbr.1 hbr.2]
    · obtain ⟨s2, u, x3, eu, rfl⟩ := hP
      rw [List.length_map, List.take_length] at eu
      exact ⟨.ref u, rfl, q _ u s2 eu⟩
end
end K10
namespace K10
open PySem PySem.Spec PyProof.Rows L2 Pr
theorem scOwn : FnScope ["_law_panel_here", "_law_row_here", "_law_found", "_law_button", "_law_word", "_law_one"] ["_law_panel_here", "_law_row_here"] (defScope sOwn) := ⟨rfl, rfl, rfl, by decide +kernel, rfl, by decide +kernel, by decide +kernel⟩
section
variable {P : Program} {w : World} {K : PySem.W.Frag} {mg : Str → Option Value} {base : Heap}
def spOwn (K : PySem.W.Frag) : Sp := fun vs H Q _ => ∃ (p r : Addr) (pan : List (List Int)) (row : List Int), vs = [.ref p, .ref r] ∧ PanAt H p pan ∧ Good pan ∧ SqT K H r (row.map V.int) ∧ (∀ x ∈ row, 0 ≤ x ∧ x < (pan.length : Int)) ∧
  ∀ H' u, Same H H' → H' u = some (.tup ((effM pan row).map V.str)) → Q (.ref u) H'
theorem ok_own {f : Addr} {fd : FuncData} {k : Nat} (F : Fun K "_law_effect" "_law_effect" sOwn f fd) (ml : mg "len" = none) (mr : mg "range" = none) (mt : mg "tuple" = none) : FnOk P w K mg base CX0 (k + 1) f fd ["_law_panel_here", "_law_row_here"] (spOwn K) := by
  refine F.ok scOwn (fun vs H Q E h => ?_) (fun cdv A outer s H vs Q E hr h => ?_)
  · obtain ⟨p, r, pan, row, rfl, _⟩ := h
    rfl
  · obtain ⟨p, r, pan, row, rfl, hp, hg, hrow, hin, q⟩ := h
    refine ⟨_, pss_cons (ps_set (i := 2) scOwn.nd rfl (.inl rfl) (pe_lst pa_nil))
      (pss_cons (ps_for PassesOwn.never rfl (pi_range1 (by rfl) mr (pa_cons (pe_callB call_len_seq (by rfl) ml PySem.boot_len (pa_cons (pv 0) pa_nil)) pa_nil)) (pg_name (i := 3) scOwn.nd rfl (.inl rfl))
        (pss_cons (ps_set (i := 4) scOwn.nd rfl (.inl rfl) pe_str)
        (pss_cons (ps_for PassesOwn.never rfl (pi_tup (pv 1)) (pg_name (i := 5) scOwn.nd rfl (.inl rfl))
          (pss_one (ps_if (pt_cmpR op_eq (pv 5) (pv 3) (nomark _)) (pss_one (ps_set (i := 4) scOwn.nd rfl (.inl rfl) pe_str))
            (pss_one (ps_if (pt_cmpR (show OpR _ _ (rIn K false) from op_in_seq) (pv 3) (pe_ix (show IxR _ (rIxT K) from ix_tup) (pv 0) (pv 5) (fun _ _ => rfl)) (by rfl)) (pss_one (ps_set (i := 4) scOwn.nd rfl (.inl rfl) pe_str)) pss_nil)))))
        (pss_one (ps_expr (pe_bm PySem.F.plainAttrs_list PySem.F.slot_list_append PySem.F.type_list_append mt_append (pv 2) (pa_cons (pv 4) pa_nil)))))))
      (pss_one (ps_ret (pe_callTy call_tuple_of (by rfl) mt (by decide +kernel) (pa_cons (pv 2) pa_nil))))), ?_⟩
    obtain ⟨qs, hq, hqs⟩ := id hp
    have hl : (qs.map V.ref).length = pan.length := by rw [List.length_map, hqs.length]
    have few := hg.few
    refine ⟨Nat.zero_le _, fun W nW => ?_⟩
    have s1 : Same H (upd H W (.lst [])) := same_new nW
    refine ⟨.ref p, rfl, p, _, rfl, .inr (hq.same s1).sq, _, rfl, by rw [hl]; omega, by rw [hl]; omega, ?_⟩
    rw [hl]
    refine for_range (n := pan.length) (fun i σ H2 => Same H H2 ∧ H2 W = some (.lst (((effM pan row).take i).map V.str)) ∧ ∃ x3 x4 x5, σ = [some (.ref p), some (.ref r), some (.ref W), x3, x4, x5])
      ⟨s1, upd_same, none, none, none, rfl⟩ (fun i σ H2 hi hP => ?_) (fun σ H2 hP => ?_)
    · obtain ⟨s2, eW, x3, x4, x5, rfl⟩ := hP
      rw [Int.zero_add]
      refine ⟨.ref r, rfl, r, rfl, ⟨_, same_sqT s2 hrow⟩, ?_⟩
      refine for_tup (xs := row.map V.int) (fun j σ H3 => H3 = H2 ∧ ∃ x5, σ = [some (.ref p), some (.ref r), some (.ref W), some (.int (i : Int)), some (.str (wordsM pan (row.take j) (i : Int))), x5])
        ⟨rfl, _, rfl⟩ (fun j σ H3 _ hP => by rw [hP.1]; exact same_sqT s2 hrow) (fun j x σ H3 hx hP => ?_) (fun σ H3 hP => ?_)
      · obtain ⟨rfl, x5, rfl⟩ := hP
        obtain ⟨b, hb, rfl⟩ := int_get hx
        have hbr := hin b (List.mem_of_getElem? hb)
        have step : wordsM pan (row.take (j + 1)) (i : Int) = wordM pan (i : Int) (wordsM pan (row.take j) (i : Int)) b := by
          unfold wordsM
          rw [List.take_add_one, hb]
          show List.foldl _ _ (_ ++ [b]) = _
          rw [List.foldl_append]; rfl
        refine ⟨.int b, rfl, .int (i : Int), rfl, rfl, _, rfl, ite2 (fun e => ?_) (fun e => ?_)⟩
        · have e' : b = (i : Int) := V.int.inj (of_decide_eq_true e)
          refine ⟨rfl, some (.int b), ?_⟩
          rw [step, wordM, if_pos e']; rfl
        · have e' : b ≠ (i : Int) := fun z => e (by rw [z]; exact decide_eq_true rfl)
          obtain ⟨qs', q', hq', ha', hr', _⟩ := pan_at (hp.same s2) hbr.1 hbr.2
          refine ⟨.int (i : Int), rfl, .ref p, rfl, .int b, rfl, p, _, _, .ref q', rfl, rfl, hq'.sq, ha', q', _, rfl, .inr hr'.sq, rfl, flat_ints _, _, rfl, ?_⟩
          rw [if_neg Bool.false_ne_true, inV_ints]
          refine ite2 (fun e2 => ?_) (fun e2 => ?_)
          · refine ⟨rfl, some (.int b), ?_⟩
            rw [step, wordM, if_neg e', if_pos (of_decide_eq_true e2)]; rfl
          · refine ⟨rfl, some (.int b), ?_⟩
            rw [step, wordM, if_neg e', if_neg (fun z => e2 (decide_eq_true z))]; rfl
      · obtain ⟨rfl, x5, rfl⟩ := hP
        rw [List.length_map, List.take_length]
        refine ⟨.ref W, rfl, .inl ⟨rfl, _, .inl (.inl eW)⟩, _, rfl, W, _, _, rfl, rfl, eW, ?_, ?_, ?_, _, _, _, rfl⟩
        · rw [List.length_map, List.length_take]; exact small1000 (by omega)
        · intro b o e
          rw [upd_ne (ne_of_none e nW)]; exact s2 _ _ e
        · have g : (effM pan row)[i]? = some (wordsM pan row (i : Int)) := by
            unfold effM
            rw [List.getElem?_map, List.getElem?_range hi]; rfl
          rw [upd_same, List.take_add_one, g, List.map_append]; rfl
    · obtain ⟨s2, eW, x3, x4, x5, rfl⟩ := hP
      rw [List.take_of_length_le (by rw [effM_len]; exact Nat.le_refl _)] at eW
      exact ⟨.ref W, rfl, W, _, rfl, .inl ⟨.inl (.inl eW), fun t nt => q _ t (s2.trans (same_new nt)) upd_same⟩⟩

def nLaw : List Str := ["_law_script", "_law_drawn", "_law_turn", "_law_panel_here", "_law_row_here", "_law_before", "_law_due", "_law_again"]
theorem scLaw : FnScope nLaw ["_law_script"] (defScope sLaw) := ⟨rfl, rfl, rfl, by decide +kernel, rfl, by decide +kernel, by decide +kernel⟩
def spLaw (K : PySem.W.Frag) : Sp := fun vs H Q _ => ∃ (s : Addr) (ns : List Int), vs = [.ref s] ∧ SqL K H s (ns.map V.int) ∧ ns.length ≤ 63 ∧ ∀ H', Q (.bl true) H'
theorem shw_row {row : List Int} {n : Int} (hn : n ≤ 10) (hl : row.length ≤ 60) (h : ∀ x ∈ row, 0 ≤ x ∧ x < n) : Shw 1 183 (dInts row) :=
  shw_ints (m := 60) hl fun x hx => ⟨(h x hx).1, by have := (h x hx).2; omega⟩
theorem shw_two {d1 d2 : PyData} (h1 : Shw 2 353 d1) (h2 : Shw 2 353 d2) : Shw 3 713 (.list [d1, d2]) := by
  refine Shw.list (n := 353) (m := 2) (fun d hd => ?_) (Nat.le_refl _)
  rcases (show d = d1 ∨ d = d2 by simpa using hd) with rfl | rfl
  · exact h1
  · exact h2
theorem ok_law {f fN fP fJ fW fE fS fX fA fR fO : Addr} {fd fdN fdP fdJ fdW fdE fdS fdX fdA fdR fdO : FuncData} (F : Fun K "law" "law" sLaw f fd)
    (FN : Fun K "no_effect" "no_effect" sNo fN fdN) (bN : Binds K fdN ["panel"] []) (gN : mg "no_effect" = some (.ref fN))
    (FP : Fun K "press_effect" "press_effect" sPressE fP fdP) (bP : Binds K fdP ["panel", "button"] []) (gP : mg "press_effect" = some (.ref fP))
    (FJ : Fun K "joined_effect" "joined_effect" sJoin fJ fdJ) (bJ : Binds K fdJ ["first", "second"] []) (gJ : mg "joined_effect" = some (.ref fJ))
    (FW : Fun K "effect_with_press" "effect_with_press" sWith fW fdW) (bW : Binds K fdW ["panel", "effect", "button"] []) (gW : mg "effect_with_press" = some (.ref fW))
    (FE : Fun K "effect_of" "effect_of" sEff fE fdE) (bE : Binds K fdE ["panel", "row"] []) (gE : mg "effect_of" = some (.ref fE))
    (FS : Fun K "_law_draws" "_law_draws" sDraws fS fdS) (bS : Binds K fdS ["_law_script"] []) (gS : mg "_law_draws" = some (.ref fS))
    (FX : Fun K "_law_next" "_law_next" sNext fX fdX) (bX : Binds K fdX ["_law_drawn", "_law_many"] []) (gX : mg "_law_next" = some (.ref fX))
    (FA : Fun K "_law_panel" "_law_panel" sPanel fA fdA) (bA : Binds K fdA ["_law_drawn", "_law_most"] []) (gA : mg "_law_panel" = some (.ref fA))
    (FR : Fun K "_law_row" "_law_row" sRow fR fdR) (bR : Binds K fdR ["_law_drawn", "_law_n", "_law_most"] []) (gR : mg "_law_row" = some (.ref fR))
    (FO : Fun K "_law_effect" "_law_effect" sOwn fO fdO) (bO : Binds K fdO ["_law_panel_here", "_law_row_here"] []) (gO : mg "_law_effect" = some (.ref fO))
    (ml : mg "len" = none) (mr : mg "range" = none) (mt : mg "tuple" = none) (mli : mg "list" = none) (mi : mg "int" = none) (mz : mg "zip" = none) (mp : mg "repr" = none) : FnG P w K mg base 5 f fd ["_law_script"] (spLaw K) := by
  have GE : FnOk P w K mg base CX0 4 fE fdE ["panel", "row"] (spEff K) := ok_eff FE FN bN gN FP bP gP FJ bJ gJ FW bW gW ml mli mt mz
  have GS : FnOk P w K mg base CX0 4 fS fdS ["_law_script"] (spDraws K) := ok_draws FS ml mli mi
  have GA : FnOk P w K mg base CX0 4 fA fdA ["_law_drawn", "_law_most"] spPanel := ok_panel FA FX bX gX ml mr mt mi
  have GR : FnOk P w K mg base CX0 4 fR fdR ["_law_drawn", "_law_n", "_law_most"] spRow := ok_row FR FX bX gX ml mr mt
  have GO : FnOk P w K mg base CX0 4 fO fdO ["_law_panel_here", "_law_row_here"] (spOwn K) := ok_own FO ml mr mt
  refine okG F scLaw (fun vs H Q E h => ?_) (fun cdv A outer s H vs Q E gd hr h => ?_)
  · obtain ⟨s, ns, rfl, _⟩ := h
    rfl
  · obtain ⟨sc, ns, rfl, hS, hlen, q⟩ := h
    refine ⟨_, pss_cons (ps_set (i := 1) scLaw.nd rfl (.inl rfl) (pe_call GS hr (by rfl) gS FS.kp bS .nil pass0 (pa_cons (pv 0) pa_nil)))
      (pss_cons (ps_for PassesOwn.never rfl (pi_range1 (by rfl) mr (pa_cons pe_int pa_nil)) (pg_name (i := 2) scLaw.nd rfl (.inl rfl))
        (pss_cons (ps_set (i := 3) scLaw.nd rfl (.inr rfl) (pe_call GA hr (by rfl) gA FA.kp bA .nil pass0 (pa_cons (pv 1) (pa_cons pe_int pa_nil))))
        (pss_one (ps_for PassesOwn.never rfl (pi_list (pe_lst (pa_cons (pe_tup pa_nil)
            (pa_cons (pe_call GR hr (by rfl) gR FR.kp bR .nil pass0 (pa_cons (pv 1) (pa_cons (pe_callB call_len_seq (by rfl) ml PySem.boot_len (pa_cons (pv 3) pa_nil)) (pa_cons pe_int pa_nil))))
            (pa_cons (pe_call GR hr (by rfl) gR FR.kp bR .nil pass0 (pa_cons (pv 1) (pa_cons (pe_callB call_len_seq (by rfl) ml PySem.boot_len (pa_cons (pv 3) pa_nil)) (pa_cons pe_int pa_nil)))) pa_nil))))) (pg_name (i := 4) scLaw.nd rfl (.inr rfl))
          (pss_cons (ps_par (i := 5) (j := 6) rfl scLaw.nd rfl rfl (by decide) rfl rfl (pa_cons (pe_callB (call_repr gd hr) (by rfl) mp (by decide +kernel) (pa_cons (pe_lst (pa_cons (pv 3) (pa_cons (pv 4) pa_nil))) pa_nil))
              (pa_cons (pe_call GO hr (by rfl) gO FO.kp bO .nil pass0 (pa_cons (pv 3) (pa_cons (pv 4) pa_nil))) pa_nil)) (by rfl))
          (pss_cons (ps_if (pt_cmpR op_ne (pe_callB (call_repr gd hr) (by rfl) mp (by decide +kernel) (pa_cons
              (pe_lc (own := [("_law_again", 7)]) (g := gName 7) (tt := tYes) rfl scLaw.nd (pi_range1 (by rfl) mr (pa_cons pe_int pa_nil))
                (blkOk_by (own := [("_law_again", 7)]) (N := nLaw) (sc := defScope sLaw) (by decide +kernel)) (fun _ _ _ _ _ => pg_name (i := 7) scLaw.nd rfl (Or.inl rfl)) (fun _ _ _ _ _ => pts_nil)
                (fun _ _ _ _ _ => pe_call GE hr (by rfl) gE FE.kp bE .nil pass0 (pa_cons (pv 3) (pa_cons (pv 4) pa_nil)))) pa_nil))
              (pe_callB (call_repr gd hr) (by rfl) mp (by decide +kernel) (pa_cons (pe_lst (pa_cons (pv 6) (pa_cons (pv 6) pa_nil))) pa_nil)) (nomark _))
            (pss_one (ps_ret pe_bl)) pss_nil)
          (pss_one (ps_if (pt_cmpR op_ne (pe_callB (call_repr gd hr) (by rfl) mp (by decide +kernel) (pa_cons (pe_lst (pa_cons (pv 3) (pa_cons (pv 4) pa_nil))) pa_nil)) (pv 5) (nomark _))
            (pss_one (ps_ret pe_bl)) pss_nil))))))))
      (pss_one (ps_ret pe_bl))), ?_⟩
    refine ⟨.ref sc, rfl, sc, ns, rfl, hS, hlen, fun H1 a c r s1 D1 => ?_⟩
    refine ⟨8, rfl, by decide, by decide, ?_⟩
    refine for_range (n := 8) (fun i σ H2 => Dk3 H2 a c r (4000 - 400 * i) ∧ ∃ x2 x3 x4 x5 x6 x7, σ = [some (.ref sc), some (.ref a), x2, x3, x4, x5, x6, x7]) ⟨D1.less (by omega), none, none, none, none, none, none, rfl⟩ (fun i σ H2 hi hP => ?_) (fun σ H2 hP => ?_)
    · obtain ⟨D2, x2, x3, x4, x5, x6, x7, rfl⟩ := hP
      refine ⟨.ref a, rfl, a, c, r, 4000 - 400 * i - 200, 10, rfl, D2.less (by omega), by decide, by decide, fun H3 p pan b3 D3 hp hg _ => ?_⟩
      have few := hg.few
      have pos := hg.pos
      have shp := hg.shw
      refine ⟨Nat.zero_le _, fun T0 nT0 => ?_⟩
      have sT0 : Same H3 (upd H3 T0 (.tup [])) := same_new nT0
      have D4 := D3.same sT0
      have hp4 := hp.same sT0
      obtain ⟨qs, hq, hqs⟩ := id hp4
      have hl : (qs.map V.ref).length = pan.length := by rw [List.length_map, hqs.length]
      refine ⟨.ref a, rfl, .ref p, rfl, p, _, rfl, .inr hq.sq, a, c, r, 4000 - 400 * i - 270, _, 60, rfl, D4.less (by omega), by rw [hl]; omega, by rw [hl]; omega, by decide, by decide, fun H5 t1 row1 b5 D5 ht1 hin1 hl1 => ?_⟩
      have hp5 := hp4.but3 D4 b5
      have hq5 := hq.but3 D4 b5
      have e05 := tup_but3 D4 b5 (upd_same (a := T0))
      refine ⟨.ref a, rfl, .ref p, rfl, p, _, rfl, .inr hq5.sq, a, c, r, 4000 - 400 * (i + 1), _, 6, rfl, D5.less (by omega), by rw [hl]; omega, by rw [hl]; omega, by decide, by decide, fun H6 t2 row2 b6 D6 ht2 hin2 hl2 => ?_⟩
      rw [hl] at hin1 hin2
      have hp6 := hp5.but3 D5 b6
      have e06 := tup_but3 D5 b6 e05
      have ht16 := ht1.but3 D5 b6
      refine ⟨by show 3 ≤ sizeLine; decide, fun L nL => ?_⟩
      have sL : Same H6 (upd H6 L (.lst [.ref T0, .ref t1, .ref t2])) := same_new nL
      have rows : ∀ (j : Nat) (x : V), ([.ref T0, .ref t1, .ref t2] : List V)[j]? = some x → ∃ (t : Addr) (row : List Int), x = .ref t ∧ SqT K H6 t (row.map V.int) ∧ (∀ x ∈ row, 0 ≤ x ∧ x < (pan.length : Int)) ∧ row.length ≤ 60 := by
        intro j x hx
        match j, hx with
        | 0, hx => cases hx; exact ⟨T0, [], rfl, .inl (.inl e06), (fun x h => by cases h), by decide⟩
        | 1, hx => cases hx; exact ⟨t1, row1, rfl, ht16.sq, hin1, by omega⟩
        | 2, hx => cases hx; exact ⟨t2, row2, rfl, ht2.sq, hin2, by omega⟩
      refine ⟨L, rfl, ⟨_, .inl (.inl upd_same)⟩, ?_⟩
      refine for_list (xs := [.ref T0, .ref t1, .ref t2]) (fun j σ H7 => Same (upd H6 L (.lst [.ref T0, .ref t1, .ref t2])) H7 ∧ ∃ x4 x5 x6 x7, σ = [some (.ref sc), some (.ref a), some (.int (0 + (i : Int))), some (.ref p), x4, x5, x6, x7])
        ⟨Same.refl _, _, _, _, _, rfl⟩ (fun j σ H7 _ hP => hP.1.seq (.inl (.inl upd_same))) (fun j x σ H7 hx hP => ?_) (fun σ H7 hP => ?_)
      · obtain ⟨s7, x4, x5, x6, x7, rfl⟩ := hP
        obtain ⟨t, row, rfl, ht, hin, hrl⟩ := rows j x hx
        have s67 := sL.trans s7
        have hp7 := hp6.same s67
        have ht7 := same_sqT s67 ht
        have sh2 : Shw 3 713 (.list [dPan pan, dInts row]) := shw_two shp ((shw_row (n := (pan.length : Int)) (by omega) hrl hin).mono (by decide) (by decide))
        -- before, due
        refine ⟨.ref p, rfl, .ref t, rfl, by show 2 ≤ sizeLine; decide, fun B nB => ?_⟩
        have sB : Same H7 (upd H7 B (.lst [.ref p, .ref t])) := same_new nB
        refine ⟨B, .list [dPan pan, dInts row], rfl, .lst (.inl (.inl upd_same)) (.cons (hp7.same sB).dp (.cons (dp_ints (same_sqT sB ht7)) .nil)), sh2.sh, sh2.nd, Nat.le_trans sh2.dp (by decide), Nat.le_trans sh2.ln (by decide), ?_⟩
        refine ⟨.ref p, rfl, .ref t, rfl, p, t, pan, row, rfl, hp7.same sB, hg, same_sqT sB ht7, hin, fun H8 u s8 eu => ?_⟩
        refine ⟨_, _, rfl, ?_⟩
        refine gen_heap (fun H9 => Same H7 H9 ∧ H9 u = some (.tup ((effM pan row).map V.str))) ⟨sB.trans s8, eu⟩ fun H9 ⟨s9, eu9⟩ => ?_
        have hp9 := hp7.same s9
        have ht9 := same_sqT s9 ht7
        -- the program's effects
        refine ⟨2, rfl, by decide, by decide, fun D nD => ?_⟩
        refine lc_range (n := 2) (fun k H10 => Same H9 H10 ∧ ∃ ts : List Addr, ts.length = k ∧ H10 D = some (.lst (ts.map V.ref)) ∧ ∀ t' ∈ ts, H10 t' = some (.tup ((effM pan row).map V.str)))
          ⟨same_new nD, [], rfl, upd_same, fun _ h => by cases h⟩ (fun k H10 hk hP => ?_) (fun H10 hP => ?_)
        · obtain ⟨s10, ts, tl, eD, et'⟩ := hP
          refine ⟨rfl, tyes (iteT ⟨.ref p, rfl, .ref t, rfl, p, t, pan, row, rfl, hp9.same s10, hg, same_sqT s10 ht9, hin, fun H11 t' s11 e11 => ⟨_, s11 _ _ eD, by rw [List.length_map]; exact small1000 (by omega), ?_, ts ++ [t'], by rw [List.length_append, tl]; rfl, ?_, ?_⟩⟩)⟩
          · intro b o e
            rw [upd_ne (ne_of_none e nD)]
            exact s11 _ _ (s10 _ _ e)
          · rw [upd_same, List.map_append]; rfl
          · intro t2 ht2
            have h8 : H11 t2 = some (.tup ((effM pan row).map V.str)) := by
              rcases List.mem_append.mp ht2 with h | h
              · exact s11 _ _ (et' t2 h)
              · rw [List.mem_singleton.mp h]; exact e11
            rw [upd_ne (ne_of h8 (s11 _ _ eD) (by intro z; cases z))]
            exact h8
        · obtain ⟨s10, ts, tl, eD, et'⟩ := hP
          obtain ⟨t1', t2', rfl⟩ : ∃ t1 t2, ts = [t1, t2] := by
            match ts, tl with
            | [t1, t2], _ => exact ⟨t1, t2, rfl⟩
          have she := (shw_eff hg row).mono (show 1 ≤ 2 by decide) (show 83 ≤ 353 by decide)
          have shd := shw_two she she
          refine ⟨D, .list [dStrs (effM pan row), dStrs (effM pan row)], rfl, .lst (.inl (.inl eD)) (.cons (dp_strs (.inl (.inl (et' t1' (by simp))))) (.cons (dp_strs (.inl (.inl (et' t2' (by simp))))) .nil)), shd.sh, shd.nd, Nat.le_trans shd.dp (by decide), Nat.le_trans shd.ln (by decide), ?_⟩
          refine ⟨.ref u, rfl, .ref u, rfl, by show 2 ≤ sizeLine; decide, fun L2' nL2 => ?_⟩
          have sL2 : Same H10 (upd H10 L2' (.lst [.ref u, .ref u])) := same_new nL2
          have eu12 := sL2 _ _ (s10 _ _ eu9)
          refine ⟨L2', .list [dStrs (effM pan row), dStrs (effM pan row)], rfl, .lst (.inl (.inl upd_same)) (.cons (dp_strs (.inl (.inl eu12))) (.cons (dp_strs (.inl (.inl eu12))) .nil)), shd.sh, shd.nd, Nat.le_trans shd.dp (by decide), Nat.le_trans shd.ln (by decide), rfl, _, rfl, iteNS rfl ?_⟩
          have s912 : Same H9 (upd H10 L2' (.lst [.ref u, .ref u])) := s10.trans sL2
          refine gen_heap (fun H12 => Same H9 H12) s912 fun H12 s12 => ?_
          refine ⟨.ref p, rfl, .ref t, rfl, by show 2 ≤ sizeLine; decide, fun B2 nB2 => ?_⟩
          have sB2 : Same H12 (upd H12 B2 (.lst [.ref p, .ref t])) := same_new nB2
          refine ⟨B2, .list [dPan pan, dInts row], rfl, .lst (.inl (.inl upd_same)) (.cons ((hp9.same s12).same sB2).dp (.cons (dp_ints (same_sqT sB2 (same_sqT s12 ht9))) .nil)), sh2.sh, sh2.nd, Nat.le_trans sh2.dp (by decide), Nat.le_trans sh2.ln (by decide), _, rfl, rfl, _, rfl, iteNS rfl ?_⟩
          exact ⟨((s7.trans s9).trans s12).trans sB2, _, _, _, _, rfl⟩
      · obtain ⟨s7, x4, x5, x6, x7, rfl⟩ := hP
        exact ⟨(D6.same sL).same s7, _, _, _, _, _, _, rfl⟩
    · exact q _
end
end K10
namespace K10
open PySem PySem.Spec PyProof.Rows L2 Pr
/-! what the top has written -/
theorem all_mk {l : PySem.W.OpenLaw} {w : World} {K : PySem.W.Frag} {h : Heap} {mg : Str → Option Value} {fa f1 f2 f3 f4 f5 f6 f7 f8 f9 f10 f11 : Addr} (X : K.In h) (G : h.Ns mainGlobals mg) (hfa : mg "law" = some (.ref fa))
    {od1 an1 od2 an2 od3 an3 od4 an4 od5 an5 od6 an6 od7 an7 od8 an8 od9 an9 od10 an10 od11 an11 : Option Addr} {sl1 sl2 sl3 sl4 sl5 sl6 sl7 sl8 sl9 sl10 sl11 : Array (Option Value)} {oc1 kV1 dc1 pm1 cd1 ct1 oc2 kV2 dc2 pm2 cd2 ct2 oc3 kV3 dc3 pm3 cd3 ct3 oc4 kV4 dc4 pm4 cd4 ct4 oc5 kV5 dc5 pm5 cd5 ct5 oc6 kV6 dc6 pm6 cd6 ct6 oc7 kV7 dc7 pm7 cd7 ct7 oc8 kV8 dc8 pm8 cd8 ct8 oc9 kV9 dc9 pm9 cd9 ct9 oc10 kV10 dc10 pm10 cd10 ct10 oc11 kV11 dc11 pm11 cd11 ct11 : Value}
    (a1 : PySem.W.nsIn K mainGlobals "no_effect" = some (some (.ref f1))) (l1 : K.lookup f1 = some ⟨oc1, od1, .func (PySem.W.fnOf "no_effect" "no_effect" (defArgs sNo) (defBody sNo) (defScope sNo) .none kV1 dc1 pm1 an1 cd1 ct1), sl1⟩) (c1 : PySem.W.codeIn K cd1 "no_effect" = true) (k1 : PySem.W.keepIn K (.ref f1) = true)
    (a2 : PySem.W.nsIn K mainGlobals "press_effect" = some (some (.ref f2))) (l2 : K.lookup f2 = some ⟨oc2, od2, .func (PySem.W.fnOf "press_effect" "press_effect" (defArgs sPressE) (defBody sPressE) (defScope sPressE) .none kV2 dc2 pm2 an2 cd2 ct2), sl2⟩) (c2 : PySem.W.codeIn K cd2 "press_effect" = true) (k2 : PySem.W.keepIn K (.ref f2) = true)
    (a3 : PySem.W.nsIn K mainGlobals "joined_effect" = some (some (.ref f3))) (l3 : K.lookup f3 = some ⟨oc3, od3, .func (PySem.W.fnOf "joined_effect" "joined_effect" (defArgs sJoin) (defBody sJoin) (defScope sJoin) .none kV3 dc3 pm3 an3 cd3 ct3), sl3⟩) (c3 : PySem.W.codeIn K cd3 "joined_effect" = true) (k3 : PySem.W.keepIn K (.ref f3) = true)
    (a4 : PySem.W.nsIn K mainGlobals "effect_with_press" = some (some (.ref f4))) (l4 : K.lookup f4 = some ⟨oc4, od4, .func (PySem.W.fnOf "effect_with_press" "effect_with_press" (defArgs sWith) (defBody sWith) (defScope sWith) .none kV4 dc4 pm4 an4 cd4 ct4), sl4⟩) (c4 : PySem.W.codeIn K cd4 "effect_with_press" = true) (k4 : PySem.W.keepIn K (.ref f4) = true)
    (a5 : PySem.W.nsIn K mainGlobals "effect_of" = some (some (.ref f5))) (l5 : K.lookup f5 = some ⟨oc5, od5, .func (PySem.W.fnOf "effect_of" "effect_of" (defArgs sEff) (defBody sEff) (defScope sEff) .none kV5 dc5 pm5 an5 cd5 ct5), sl5⟩) (c5 : PySem.W.codeIn K cd5 "effect_of" = true) (k5 : PySem.W.keepIn K (.ref f5) = true)
    (a6 : PySem.W.nsIn K mainGlobals "_law_draws" = some (some (.ref f6))) (l6 : K.lookup f6 = some ⟨oc6, od6, .func (PySem.W.fnOf "_law_draws" "_law_draws" (defArgs sDraws) (defBody sDraws) (defScope sDraws) .none kV6 dc6 pm6 an6 cd6 ct6), sl6⟩) (c6 : PySem.W.codeIn K cd6 "_law_draws" = true) (k6 : PySem.W.keepIn K (.ref f6) = true)
    (a7 : PySem.W.nsIn K mainGlobals "_law_next" = some (some (.ref f7))) (l7 : K.lookup f7 = some ⟨oc7, od7, .func (PySem.W.fnOf "_law_next" "_law_next" (defArgs sNext) (defBody sNext) (defScope sNext) .none kV7 dc7 pm7 an7 cd7 ct7), sl7⟩) (c7 : PySem.W.codeIn K cd7 "_law_next" = true) (k7 : PySem.W.keepIn K (.ref f7) = true)
    (a8 : PySem.W.nsIn K mainGlobals "_law_panel" = some (some (.ref f8))) (l8 : K.lookup f8 = some ⟨oc8, od8, .func (PySem.W.fnOf "_law_panel" "_law_panel" (defArgs sPanel) (defBody sPanel) (defScope sPanel) .none kV8 dc8 pm8 an8 cd8 ct8), sl8⟩) (c8 : PySem.W.codeIn K cd8 "_law_panel" = true) (k8 : PySem.W.keepIn K (.ref f8) = true)
    (a9 : PySem.W.nsIn K mainGlobals "_law_row" = some (some (.ref f9))) (l9 : K.lookup f9 = some ⟨oc9, od9, .func (PySem.W.fnOf "_law_row" "_law_row" (defArgs sRow) (defBody sRow) (defScope sRow) .none kV9 dc9 pm9 an9 cd9 ct9), sl9⟩) (c9 : PySem.W.codeIn K cd9 "_law_row" = true) (k9 : PySem.W.keepIn K (.ref f9) = true)
    (a10 : PySem.W.nsIn K mainGlobals "_law_effect" = some (some (.ref f10))) (l10 : K.lookup f10 = some ⟨oc10, od10, .func (PySem.W.fnOf "_law_effect" "_law_effect" (defArgs sOwn) (defBody sOwn) (defScope sOwn) .none kV10 dc10 pm10 an10 cd10 ct10), sl10⟩) (c10 : PySem.W.codeIn K cd10 "_law_effect" = true) (k10 : PySem.W.keepIn K (.ref f10) = true)
    (a11 : PySem.W.nsIn K mainGlobals "law" = some (some (.ref f11))) (l11 : K.lookup f11 = some ⟨oc11, od11, .func (PySem.W.fnOf "law" "law" (defArgs sLaw) (defBody sLaw) (defScope sLaw) .none kV11 dc11 pm11 an11 cd11 ct11), sl11⟩) (c11 : PySem.W.codeIn K cd11 "law" = true) (k11 : PySem.W.keepIn K (.ref f11) = true)
    (z1 : PySem.W.nsIn K mainGlobals "len" = some none) (z2 : PySem.W.nsIn K mainGlobals "range" = some none) (z3 : PySem.W.nsIn K mainGlobals "tuple" = some none) (z4 : PySem.W.nsIn K mainGlobals "list" = some none) (z5 : PySem.W.nsIn K mainGlobals "int" = some none) (z6 : PySem.W.nsIn K mainGlobals "zip" = some none) (z7 : PySem.W.nsIn K mainGlobals "repr" = some none) :
    ∃ fd : FuncData, (∀ (s : Shared) (v : Value), BindsTo s fd ⟨[v], []⟩ [("_law_script", v)]) ∧ ∀ base : Heap, K.In base → base.Ns mainGlobals mg → FnG l.prog w K mg base 5 fa fd ["_law_script"] (spLaw K) := by
  have e := hfa.symm.trans (PySem.W.mg_of X G a11)
  cases e
  have F1 := fun_mk (st := sNo) l1 c1 k1
  have F2 := fun_mk (st := sPressE) l2 c2 k2
  have F3 := fun_mk (st := sJoin) l3 c3 k3
  have F4 := fun_mk (st := sWith) l4 c4 k4
  have F5 := fun_mk (st := sEff) l5 c5 k5
  have F6 := fun_mk (st := sDraws) l6 c6 k6
  have F7 := fun_mk (st := sNext) l7 c7 k7
  have F8 := fun_mk (st := sPanel) l8 c8 k8
  have F9 := fun_mk (st := sRow) l9 c9 k9
  have F10 := fun_mk (st := sOwn) l10 c10 k10
  have F11 := fun_mk (st := sLaw) l11 c11 k11
  have b1 := F1.binds (ps := ["panel"]) fun _ _ _ _ _ _ us hl => match us, hl with | [_], _ => rfl
  have b2 := F2.binds (ps := ["panel", "button"]) fun _ _ _ _ _ _ us hl => match us, hl with | [_, _], _ => rfl
  have b3 := F3.binds (ps := ["first", "second"]) fun _ _ _ _ _ _ us hl => match us, hl with | [_, _], _ => rfl
  have b4 := F4.binds (ps := ["panel", "effect", "button"]) fun _ _ _ _ _ _ us hl => match us, hl with | [_, _, _], _ => rfl
  have b5 := F5.binds (ps := ["panel", "row"]) fun _ _ _ _ _ _ us hl => match us, hl with | [_, _], _ => rfl
  have b6 := F6.binds (ps := ["_law_script"]) fun _ _ _ _ _ _ us hl => match us, hl with | [_], _ => rfl
  have b7 := F7.binds (ps := ["_law_drawn", "_law_many"]) fun _ _ _ _ _ _ us hl => match us, hl with | [_, _], _ => rfl
  have b8 := F8.binds (ps := ["_law_drawn", "_law_most"]) fun _ _ _ _ _ _ us hl => match us, hl with | [_, _], _ => rfl
  have b9 := F9.binds (ps := ["_law_drawn", "_law_n", "_law_most"]) fun _ _ _ _ _ _ us hl => match us, hl with | [_, _, _], _ => rfl
  have b10 := F10.binds (ps := ["_law_panel_here", "_law_row_here"]) fun _ _ _ _ _ _ us hl => match us, hl with | [_, _], _ => rfl
  exact ⟨_, fun s v => .of_eq rfl, fun base _ _ => ok_law F11 F1 b1 (PySem.W.mg_of X G a1) F2 b2 (PySem.W.mg_of X G a2) F3 b3 (PySem.W.mg_of X G a3) F4 b4 (PySem.W.mg_of X G a4) F5 b5 (PySem.W.mg_of X G a5) F6 b6 (PySem.W.mg_of X G a6) F7 b7 (PySem.W.mg_of X G a7) F8 b8 (PySem.W.mg_of X G a8) F9 b9 (PySem.W.mg_of X G a9) F10 b10 (PySem.W.mg_of X G a10) (PySem.W.mg_none_of X G z1) (PySem.W.mg_none_of X G z2) (PySem.W.mg_none_of X G z3) (PySem.W.mg_none_of X G z4) (PySem.W.mg_none_of X G z5) (PySem.W.mg_none_of X G z6) (PySem.W.mg_none_of X G z7) ⟩
end K10
open PySem PySem.W PyProof.Rows
theorem PySem.Challenge.cw_pressrelease_k10_effects_of_rows_holds : PySem.Challenge.rw_pressrelease_k10_effects_of_rows.Holds := by
  w_on; o_law; k_head; (case hw => w_witness2)
  k_fill
  refine Pr.walkG (l := PySem.Challenge.rw_pressrelease_k10_effects_of_rows) (n := 63) (k := 5) (x := "_law_script") (sp := K10.spLaw) rfl (by decide) rfl ⟨rfl, by decide, by decide⟩ (fun w h Y => PySem.W.kIn_of Y) ?F (fun _ _ a ns hl _ _ hS => ⟨a, ns, rfl, hS, hl, fun _ => rfl⟩)
  case F =>
    intro w mg fa h KX G hmg
    refine' K10.all_mk KX G hmg ?a1 ?l1 ?c1 ?k1 ?a2 ?l2 ?c2 ?k2 ?a3 ?l3 ?c3 ?k3 ?a4 ?l4 ?c4 ?k4 ?a5 ?l5 ?c5 ?k5 ?a6 ?l6 ?c6 ?k6 ?a7 ?l7 ?c7 ?k7 ?a8 ?l8 ?c8 ?k8 ?a9 ?l9 ?c9 ?k9 ?a10 ?l10 ?c10 ?k10 ?a11 ?l11 ?c11 ?k11 ?z1 ?z2 ?z3 ?z4 ?z5 ?z6 ?z7
    (case a1 => k_is); (case l1 => k_is); (case c1 => k_is); (case k1 => k_is); (case a2 => k_is); (case l2 => k_is); (case c2 => k_is); (case k2 => k_is); (case a3 => k_is); (case l3 => k_is); (case c3 => k_is); (case k3 => k_is)
    (case a4 => k_is); (case l4 => k_is); (case c4 => k_is); (case k4 => k_is); (case a5 => k_is); (case l5 => k_is); (case c5 => k_is); (case k5 => k_is); (case a6 => k_is); (case l6 => k_is); (case c6 => k_is); (case k6 => k_is)
    (case a7 => k_is); (case l7 => k_is); (case c7 => k_is); (case k7 => k_is); (case a8 => k_is); (case l8 => k_is); (case c8 => k_is); (case k8 => k_is); (case a9 => k_is); (case l9 => k_is); (case c9 => k_is); (case k9 => k_is)
    (case a10 => k_is); (case l10 => k_is); (case c10 => k_is); (case k10 => k_is); (case a11 => k_is); (case l11 => k_is); (case c11 => k_is); (case k11 => k_is); (case z1 => k_is); (case z2 => k_is); (case z3 => k_is); (case z4 => k_is)
    (case z5 => k_is); (case z6 => k_is); (case z7 => k_is)
