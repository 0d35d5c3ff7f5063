import PyProof.Rows.All
import Wide.All
import OpenK.AllK
import Wide.FinOn
import HandS.ForMost
import HandS.TupMul
import HandS.TupAny
import HandS.SetFor
import HandS.Walk
import HandS.EndBits
import KE.GoesEnum
import PyProof.ReprRoads
import HandS.IsInst
import HandS.Strs
import HandS.Conv
import PySem.Challenge.RW_pressrelease_k00_panels_judged
set_option Elab.async false
set_option linter.all false
set_option maxRecDepth 100000
set_option maxHeartbeats 4000000
/-! A layer for laws that ask repr: a def's promise that also knows that no repr is under way. -/
namespace Pr
open PySem PySem.Spec PyProof.Rows L2

/-! ### promises of defs that may ask repr -/
structure FnG (P : Program) (w : World) (K : PySem.W.Frag) (mg : Str → Option Value) (base : Heap) (k : Nat) (f : Addr) (fd : FuncData) (ps : List Str) (sp : Sp) : Prop where
  len : ∀ vs H Q E, sp vs H Q E → vs.length = ps.length
  go : ∀ (A : Around) (outer : List Env) (s : Shared) (H : Hp) (args : Args) (us : List Value) (vs : List V) (Q : VK) (E : XK), A.guards = some [] → Room k A →
    Env0 P w K mg base A outer s H → BindsTo s fd args (ps.zip us) → Vals vs us → sp vs H Q E →
    codeAny (model P w) A (.call (.ref f) args) (CR CX0 outer P w H s Q E) s

section
variable {P : Program} {w : World} {K : PySem.W.Frag} {mg : Str → Option Value} {base : Heap}
theorem FnG.of {k : Nat} {f : Addr} {fd : FuncData} {ps : List Str} {sp : Sp} (F : FnOk P w K mg base CX0 k f fd ps sp) : FnG P w K mg base k f fd ps sp :=
  ⟨F.len, fun A outer s H args us vs Q E _ hr => F.run A outer s H args us vs Q E hr⟩

/-- a def by its body, where no repr is under way -/
theorem okG {x qual : Str} {st : Stmt} {f : Addr} {fd : FuncData} {N ps : List Str} {k : Nat} {sp : Sp} (F : Fun K x qual st f fd) (S : FnScope N ps (defScope st))
    (len : ∀ vs H Q E, sp vs H Q E → vs.length = ps.length)
    (body : ∀ (cdv : Value) (A : Around) (outer : List Env) (s : Shared) (H : Hp) (vs : List V) (Q : VK) (E : XK), A.guards = some [] →
      Room k (A.deeper (envOfC qual (defScope st) s.heap.objs.size f cdv)) → sp vs H Q E →
      ∃ t, PSs (cxOf CX0 P w K mg base N qual (defScope st) f cdv A outer s H E).nox (defBody st) t ∧ t { nx := fun _ H' => Q .non H', rt := Q } (start N vs) H) :
    FnG P w K mg base (k + 1) f fd ps sp := by
  obtain ⟨oc, od, kV, doc, pm, an, cdv, ct, osl, rfl, lk, hcd⟩ := F.ex
  refine ⟨len, fun A outer s H args us vs Q E hg hr e0 hb r hsp => ?_⟩
  have hin : K.In s.heap := e0.mod.kin.keeps fun b o e => (e0.bs b o e).1
  have hlm : s.heap.NoLimit := e0.mod.nolimit.keeps fun b o e => (e0.bs b o e).1
  refine codeAny_call_function hr.depth (hin _ _ lk) rfl S.co S.gen rfl (PySem.W.codeRec_of hin hcd) (hb _ _ _ _ ?_)
  refine wpAny_newFunctionEnv_cells S.kind (fun ⟨n, v⟩ hy => ?_) fun env he s1 x => ?_
  · rcases S.par n (List.of_mem_zip hy).1 with q | q
    · exact .inl q
    · exact .inr ⟨q, PySem.W.cellsFrom_some _ _ _ (.inl q)⟩
  · subst he
    refine ⟨hlm.keeps x.toInCall.keep, codeAny_func ?_⟩
    obtain ⟨t, ht, hq⟩ := body cdv A outer s H vs Q E hg (hr.deeper _) hsp
    have I := inv_start (CX := CX0) (E := E) S hr.hd e0 (len _ _ _ _ hsp) r x
    refine wpAny_mono (ht.nox.run [] s1 (start N vs) H _ I hq) (fun fl s' hs => ?_) fun e s' hs => hs
    cases fl with
    | ret u => obtain ⟨v, σ', H', J, rv, q⟩ := hs; exact ⟨v, H', J.os, J.bare, J.base, J.hok, rv, q⟩
    | next => obtain ⟨σ', H', J, q⟩ := hs; exact ⟨V.non, H', J.os, J.bare, J.base, J.hok, rfl, q⟩
    | brk => obtain ⟨_, _, _, q⟩ := hs; exact q.elim
    | cont => obtain ⟨_, _, _, q⟩ := hs; exact q.elim
end

section
variable {X : Cx} {k : Nat} {f : Addr} {fd : FuncData} {ps : List Str} {sp : Sp} {x : Str} {p pos : Pos} {e : Expr} {es : List Expr} {t : TA}
/-- f(e, ..) of such a def -/
theorem pe_callG (F : FnG X.prog X.w X.K X.mg X.base k f fd ps sp) (gd : X.A.guards = some []) (hr : Room k X.A) (hg : Gl X x) (hm : X.mg x = some (.ref f)) (hk : PySem.W.keepIn X.K (.ref f) = true) (hb : Binds X.K fd ps [])
    (ha : PA X (e :: es) t) (hdb : (x == ("__debug__" : Str)) = false := by decide) (he : starEach (e :: es) X.env = (false, eval e X.env) :: starEach es X.env := by rfl)
    (hpl : (backTo pos (starEach es X.env)).any (·.1) = false := by rfl) : PE X (.Call (.Name x p) (e :: es) [] pos) (tCall sp [] E0 t) := by
  refine ⟨fun pins s σ H Q I h => wpAny_Call_Name_kw (ld_glob I hg hm ?_ hdb)⟩
  refine PySem.W.callWith_K (h₀ := X.base) I.ok.mod.kin hk (thn (ha.run pos pins s σ H _ I h) fun us s1 ⟨vs, H1, I1, r, q⟩ => ⟨I1.kIn, ?_⟩) he hpl
  have q1 : sp vs H1 Q E0 := by
    have q0 : sp (vs ++ []) H1 Q E0 := q
    rwa [List.append_nil] at q0
  have hl : us.length = ps.length := by rw [← r.length]; exact F.len _ _ _ _ q1
  have hb1 : BindsTo s1 fd ⟨us, []⟩ (ps.zip us) := by
    have := hb s1 us I1.kIn (by rw [List.append_nil]; exact hl)
    rwa [List.append_nil] at this
  refine wpAny_call (codeAny_mono (F.go X.A X.stack s1 H1 ⟨us, []⟩ us vs Q E0 gd hr I1.env0 hb1 r q1) fun r' s' hq => ?_)
  cases r' with
  | error e' => exact hq.elim
  | ok fl =>
    cases fl with
    | ret u => exact I1.after hq
    | next => exact hq.elim
    | brk => exact hq.elim
    | cont => exact hq.elim
end

/-! ### repr of data that holds no dict -/
def rRepr (K : PySem.W.Frag) : List V → Hp → VK → Prop := fun xs H Q => ∃ (a : Addr) (d : PyData), xs = [.ref a] ∧ Dp K H (.ref a) d ∧ d.showable = true ∧ d.hasDict = false ∧ d.depth ≤ 60 ∧ d.shown.length ≤ sizeLine ∧ Q (.str d.shown) H
theorem call_repr {X : Cx} {k : Nat} (gd : X.A.guards = some []) (hr : Room k X.A) : CallR X (.builtin "repr") (rRepr X.K) := by
  intro pins s σ H xs us Q I rv h
  obtain ⟨a, d, rfl, hd, hs, hn, hdep, hz, q⟩ := h
  obtain ⟨u, rfl, rx⟩ := vals1 rv
  cases rx
  obtain ⟨as, r⟩ := Dp.reads I d _ _ hd rfl
  exact repr_of_reads' r hs (PyData.noDict_hsm hn) gd (by have := hr.un; omega) (fun _ _ e => e) (fun h' t tk hk => ⟨.str d.shown, H, I.kept hk, ⟨t, rfl⟩, q⟩) hz

/-! ### the law's own call -/
theorem lawG {P : Program} {w : World} {K : PySem.W.Frag} {mg mb : Str → Option Value} {k : Nat} {fa a : Addr} {fd : FuncData} {x : Str} {sp : Sp} {s1 : Shared} {vs : List Value} {ns : List Int}
    (kin : K.In s1.heap) (nsg : s1.heap.Ns mainGlobals mg) (nsb : s1.heap.Ns builtinsNs mb) (bb : ∀ y : Str, y ≠ "__name__" → mb y = bootBuiltins y) (lim : s1.heap.NoLimit) (g0 : s1.gens = #[])
    (la : s1.heap.get? a = some { cls := .type "list", data := .seq vs.toArray }) (hints : IntsAre vs ns) (few : ns.length ≤ sizeLine) (rm : Room k callerA)
    (F : ∀ base : Heap, K.In base → base.Ns mainGlobals mg → FnG P w K mg base k fa fd [x] sp) (bd : ∀ (s : Shared) (u : Value), BindsTo s fd ⟨[u], []⟩ [(x, u)])
    (wish : ∀ H : Hp, Only H → SqL K H a (ns.map V.int) → sp [.ref a] H (fun v _ => v = .bl true) E0) :
    codeAny (model P w) callerA (.call (.ref fa) ⟨[.ref a], []⟩) (fun r s' => r = .ok (.ret (.bool true)) ∧ OldK s1.heap s'.heap ∧ s'.os = s1.os ∧ AllBare s'.gens) s1 := by
  have rv := vals_ints hints
  have lv := hints.length
  have main : ∀ H : Hp, Only H → SqL K H a (ns.map V.int) → HOk P w H s1.heap → (∀ b, H b ≠ none → b = a) → (H a ≠ none → K.lookup a = none) →
      codeAny (model P w) callerA (.call (.ref fa) ⟨[.ref a], []⟩) (fun r s' => r = .ok (.ret (.bool true)) ∧ OldK s1.heap s'.heap ∧ s'.os = s1.os ∧ AllBare s'.gens) s1 := by
    intro H hO hS hok hA hK
    have out : ∀ {b : Addr} {o : Obj} {es : Array DictEntry} {ep : Nat}, s1.heap.get? b = some o → o.data = .dict es ep → H b = none := fun {b o es ep} e d => by
      cases q : H b with
      | none => rfl
      | some u =>
        obtain rfl : b = a := hA b (by rw [q]; simp)
        rw [la] at e; cases e
        exact nomatch (show Data.seq vs.toArray _ = Data.dict es ep from d)
    have nsH : ∀ {b : Addr} {m : Str → Option Value}, s1.heap.Ns b m → (hidT s1.heap H).Ns b m := fun {b m} ⟨o, es, ep, e, d, r⟩ => ⟨o, es, ep, hidT_get e (out e d), d, r⟩
    have kinH : K.In (hidT s1.heap H) := fun b o e => hidT_get (kin b o e) (by
      cases q : H b with
      | none => rfl
      | some u =>
        obtain rfl : b = a := hA b (by rw [q]; simp)
        rw [hK (by rw [q]; simp)] at e; cases e)
    have md : Mod K mg (hidT s1.heap H) := ⟨kinH, nsH nsg, ⟨mb, nsH nsb, bb⟩, let ⟨mc, h1, h2⟩ := lim; ⟨mc, nsH h1, h2⟩⟩
    have e0 : Env0 P w K mg (hidT s1.heap H) callerA [] s1 H :=
      ⟨rfl, md, fun b o e => of_hidT e, Nat.le_of_eq (hidT_size _ _), trivial, fun b hb => absurd (show b ∈ ([] : List Addr) from hb) (by simp), hok, .of_eq g0⟩
    refine codeAny_mono ((F _ kinH (nsH nsg)).go callerA [] s1 H ⟨[.ref a], []⟩ [.ref a] [.ref a] _ _ rfl rm e0 (bd s1 (.ref a)) (.cons rfl .nil) (wish H hO hS)) fun r s' h => ?_
    cases r with
    | error e => exact h.elim
    | ok fl =>
      cases fl with
      | next => exact h.elim
      | brk => exact h.elim
      | cont => exact h.elim
      | ret u =>
        obtain ⟨v, H', os, bare, un, hok', r', q⟩ := h
        obtain rfl : v = .bl true := q
        obtain rfl : u = Value.bool true := r'
        refine ⟨rfl, OldK.of_keep fun b o e => ?_, os, bare⟩
        rcases hO b with z | ⟨ob, xs, z⟩
        · exact un.keep b o e z (fun y => absurd (show b ∈ ([] : List Addr) from y) (by simp)) (by simp)
        · have e1 := (hok b _ z).1
          rw [e] at e1; cases e1
          exact (hok' b _ (un.frzs b o _ z)).1
  cases hk : K.lookup a with
  | some o =>
    have e := kin a o hk
    rw [la] at e
    cases e
    exact main (fun _ => none) (fun _ => .inl rfl) (.inr ⟨_, vs.toArray, _, hk, rfl, rfl, rfl, by rw [List.size_toArray, lv]; exact few, by simpa using rv⟩)
      (fun b u z => nomatch (show (none : Option HO) = some u from z)) (fun b z => absurd rfl z) fun z => absurd rfl z
  | none =>
    refine main (upd (fun _ => none) a (.frz { cls := .type "list", data := .seq vs.toArray } (.lst (ns.map V.int)))) (fun b => ?_) (.inl (.inr ⟨_, upd_same⟩)) (fun b u z => ?_) (fun b z => ?_) fun _ => hk
    · by_cases hb : b = a
      · subst hb; exact .inr ⟨_, _, upd_same⟩
      · exact .inl (upd_ne hb)
    · by_cases hb : b = a
      · subst hb
        rw [upd_same] at z
        cases z
        exact ⟨la, by rw [List.length_map]; exact few, vs, _, rv, la⟩
      · rw [upd_ne hb] at z; cases z
    · by_cases hb : b = a
      · exact hb
      · exact absurd (upd_ne hb) z

/-- the goal that k_head leaves, from the law's promise -/
theorem walkG {l : PySem.W.OpenLaw} {n k : Nat} {q : Program} {loose : List Str} {XP : (Str → Option Value) → Heap → Prop} {YP : World → Heap → Prop} {d : DefRec} {K : Params → PySem.W.Frag} {sp : PySem.W.Frag → Sp} {x : Str}
    (hn : l.most = some n) (hn2 : n ≤ sizeLine) (hdf : d.params.defaults = []) (hr : Room k callerA) (hY : ∀ (w : World) (h : Heap), YP w h → (K w.params).In h)
    (F : ∀ (w : World) (mg : Str → Option Value) (fa : Addr) (h : Heap), (K w.params).In h → h.Ns mainGlobals mg → mg d.name = some (.ref fa) →
      ∃ fd : FuncData, (∀ (s : Shared) (u : Value), BindsTo s fd ⟨[u], []⟩ [(x, u)]) ∧ ∀ base : Heap, (K w.params).In base → base.Ns mainGlobals mg → FnG l.prog w (K w.params) mg base k fa fd [x] (sp (K w.params)))
    (hsp : ∀ (K : PySem.W.Frag) (H : Hp) (a : Addr) (ns : List Int), ns.length ≤ n → (∀ z ∈ ns, Builtin.Int.intBits z ≤ 1048576) → Only H → SqL K H a (ns.map V.int) → sp K [.ref a] H (fun v _ => v = .bl true) E0) :
    PySem.W.WalkO q loose XP YP l.row.toRowW d [] (fun f vs => PySem.call f vs) := by
  refine Att.attach_callB hn hdf fun w s0 s1 mg mb fa o pm cd doc a vs ns G Y ho hd hcd hmg hobj hints hlen hbits hg => ?_
  obtain ⟨fd, hb, hF⟩ := F w mg fa _ (hY w _ Y) G.T.g hmg
  exact lawG (hY w _ Y) G.T.g G.T.b G.T.builtins G.T.nolimit hg hobj hints (Nat.le_trans hlen hn2) hr hF hb fun H hO hS => hsp (K w.params) H a ns hlen hbits hO hS
end Pr
namespace Pr
open PySem PySem.Spec PyProof.Rows L2

/-- a tuple of which it is known that it has no attributes of its own -/
def FT (H : Hp) (a : Addr) (xs : List V) : Prop := ∃ o : Obj, H a = some (.frz o (.tup xs)) ∧ o.dict = none
theorem FT.sq {K : PySem.W.Frag} {H : Hp} {a : Addr} {xs : List V} (h : FT H a xs) : SqT K H a xs := let ⟨o, e, _⟩ := h; .inl (.inr ⟨o, e⟩)
theorem FT.same {H H' : Hp} {a : Addr} {xs : List V} (e : Same H H') (h : FT H a xs) : FT H' a xs := let ⟨o, q, z⟩ := h; ⟨o, e _ _ q, z⟩
theorem same_sqT {K : PySem.W.Frag} {H H' : Hp} {a : Addr} {xs : List V} (e : Same H H') (h : SqT K H a xs) : SqT K H' a xs := by
  rcases h with (h | ⟨o, h⟩) | h
  · exact .inl (.inl (e _ _ h))
  · exact .inl (.inr ⟨o, e _ _ h⟩)
  · exact .inr h

section
variable {X : Cx}
/-! ### tuple(list), the tuple known -/
def rTupF (K : PySem.W.Frag) : List V → Hp → VK → Prop := fun xs H Q => ∃ p ys, xs = [.ref p] ∧ SqL K H p ys ∧ ∀ l o, H l = none → o.dict = none → Q (.ref l) (upd H l (.frz o (.tup ys)))
theorem call_tupF : CallR X (.type "tuple") (rTupF X.K) := by
  intro pins s σ H xs us Q I r h
  obtain ⟨p, ys, rfl, hq, q⟩ := h
  obtain ⟨u, rfl, rx⟩ := vals1 r
  cases rx
  obtain ⟨its, r', pl, hz⟩ := I.list hq
  have hlen := r'.length
  refine call_tuple_list pl.isList (fun h' kp => ?_) (by simp only [List.size_toArray] <;> omega)
  have I1 : Inv X pins σ H { s with heap := h' } := I.kept (t' := s.toks) kp
  have I2 := I1.laid (t' := s.toks) (h' := h'.push { cls := .type "tuple", data := .seq its.toArray }) (a := h'.objs.size)
    (o := .frz { cls := .type "tuple", data := .seq its.toArray } (.tup ys)) (fun b o e => Heap.get?_push_of_some _ e) (Nat.le_refl _) ⟨Heap.get?_push_size _ rfl, hz, its, r', IsTup.new _ _⟩
  exact ⟨.ref h'.objs.size, _, I2, rfl, q _ _ (I1.hok.fresh (Nat.le_refl _)) rfl⟩

/-! ### t.count(k) -/
def rCntT (K : PySem.W.Frag) : V → List V → Hp → VK → Prop := fun x xs H Q => ∃ (p : Addr) (ns : List Int) (k : Int), x = .ref p ∧ xs = [.int k] ∧ SqT K H p (ns.map V.int) ∧ Q (.int (ns.count k : Nat)) H
theorem mt_tcount : MtR X "tuple.count" (rCntT X.K) := by
  intro pins s σ H x xs v us Q I rx rxs h
  obtain ⟨p, ns, k, rfl, rfl, hs, q⟩ := h
  cases rx
  obtain ⟨u, rfl, t, rfl⟩ := rxs.one
  obtain ⟨its, rv, ⟨⟨cls, dd, data, sl⟩, ho, hc, n, hd⟩, hlen⟩ := I.tuple hs
  simp only at hc hd
  subst hc hd
  have hi := ints_of_vals rv
  refine call_meets PySem.F.slot_tuple_count ⟨_, ho, rfl⟩ PySem.F.entry_tuple_count (PySem.F.args_tuple_count_2 _ _)
    (SeqAt.tuple_countAt p its.toArray n dd sl (.int k t) (eqk k)) ⟨ho, fun y hy => (eqk_gives hi y (by simpa using hy)).at _ _, ?_⟩
  have ec : its.toArray.toList.countP (eqk k) = ns.count k := eqk_count hi
  rw [ec]
  exact ⟨.int (ns.count k : Nat), H, I.tok _, ⟨s.toks, rfl⟩, q⟩

/-- o.m(e, ..), o a tuple that is known -/
def tTM (r : V → List V → Hp → VK → Prop) (to : TE) (t : TA) : TE := fun σ H Q => to σ H fun x H1 => (∃ p xs, x = .ref p ∧ FT H1 p xs) ∧ t σ H1 fun vs H2 => r x vs H2 Q
theorem pe_tm {name : Str} {id : String} {r : V → List V → Hp → VK → Prop} {o e : Expr} {es : List Expr} {apos cpos : Pos} {to : TE} {t : TA} (slot : Slot "tuple" name id) (hty : typeOf (.builtin id) = pure (.type "method_descriptor")) (hm : MtR X id r) (ho : PE X o to) (ha : PA X (e :: es) t)
    (hbase : attributeBase o name X.env (eval o X.env) = eval o X.env := by rfl)
    (hfew : ((backTo cpos (starEach (e :: es) X.env)).all (fun x => !x.1) && (backToKw cpos (keywordEach [] X.env)).all (fun x => x.1.isSome) && decide ((e :: es).length + ([] : List Keyword).length + (if ([] : List Keyword).isEmpty then 0 else 1) < 30)) = true := by rfl)
    (hline : (apos.endLine == cpos.line) = true := by rfl) (hs : starEach (e :: es) X.env = (false, eval e X.env) :: starEach es X.env := by rfl)
    (hplain : (backTo cpos (starEach es X.env)).any (·.1) = false := by rfl) : PE X (.Call (.Attribute o name apos) (e :: es) [] cpos) (tTM r to t) := by
  refine ⟨fun pins s σ H Q I h => wpAny_Call_method_late hbase hfew hline rfl (thn (ho.run pins s σ H _ I h) fun v s1 ⟨x, H1, I1, r1, ⟨p, xs, ex, ob, hp, hdn⟩, q1⟩ => ?_)⟩
  subst ex
  cases r1
  obtain ⟨g1, _, its, _, ⟨o2, g2, hc, _⟩⟩ := I1.hok p _ hp
  rw [g1] at g2
  cases g2
  refine ⟨"tuple", id, PySem.F.plainAttrs_tuple, slot, hty, ⟨ob, g1, hc⟩, fun a e => by cases e; exact ⟨ob, g1, hdn⟩, ?_⟩
  have hA := ha.run cpos pins s1 σ H1 _ I1 q1
  rw [hs] at hA ⊢
  refine Calls.callWith_builtin (by show (false || (backTo cpos (starEach es X.env)).any (·.1)) = false; rw [hplain] <;> rfl) (Calls.evalArgs_plain ?_)
  exact thn hA fun us s2 ⟨vs, H2, I2, r2, q2⟩ => hm pins s2 σ H2 (.ref p) vs (.ref p) us Q I2 rfl r2 q2
end

/-! ### (x,) * 0 and (x,) * 1 -/
theorem tup_mul0 (l : Addr) (y : Value) (n : Nat) (dd : Option Addr) (sl : Array (Option Value)) (u : Tok) :
    Meets (Builtin.«tuple.__mul__» ⟨[.ref l, .int 0 u], []⟩) (fun _ R s => s.heap.get? l = some { cls := .type "tuple", dict := dd, data := .seq #[y] n, slots := sl } ∧
      R (.ok (.ret (Value.ref s.heap.objs.size))) { s with heap := s.heap.push { cls := Value.type "tuple", data := Data.seq #[] }, toks := s.toks }) :=
  .of_wp fun prog w A R s h => by
    obtain ⟨hp, g, d, tk, os⟩ := s
    obtain ⟨hl, h⟩ := h
    have f1 := AutoSeq1.idx_int
    wp_walk using AutoSeq1.wpAny_loadPart' hl
    exact ⟨_, rfl, h⟩
theorem tup_mul1 (l : Addr) (y : Value) (n : Nat) (dd : Option Addr) (sl : Array (Option Value)) (u : Tok) :
    Meets (Builtin.«tuple.__mul__» ⟨[.ref l, .int 1 u], []⟩) (fun _ R s => s.heap.get? l = some { cls := .type "tuple", dict := dd, data := .seq #[y] n, slots := sl } ∧ R (.ok (.ret (.ref l))) s) :=
  .of_wp fun prog w A R s h => by
    obtain ⟨hp, g, d, tk, os⟩ := s
    obtain ⟨hl, h⟩ := h
    have f1 := AutoSeq1.idx_int
    wp_walk using AutoSeq1.wpAny_loadPart' hl
    exact ⟨_, rfl, h⟩
section
variable {X : Cx}
def rRep1 (K : PySem.W.Frag) : R2 := fun x y H Q => ∃ l v, x = .ref l ∧ SqT K H l [v] ∧ ((y = .int 1 ∧ Q (.ref l) H) ∨ (y = .int 0 ∧ ∀ p, H p = none → Q (.ref p) (upd H p (.tup []))))
theorem op_rep1 : OpR X (binaryOp .Mult) (rRep1 X.K) := by
  intro pins s σ H x y v u Q I rx ry h
  obtain ⟨l, z, rfl, hT, h⟩ := h
  cases rx
  obtain ⟨its, r, ⟨⟨cls, dd, data, sl⟩, ho, hc, n, hd⟩, hs⟩ := I.tuple hT
  simp only at hc hd
  subst hc hd
  obtain ⟨a, rfl, ra⟩ := vals1 r
  rcases h with ⟨rfl, q⟩ | ⟨rfl, q⟩
  · obtain ⟨t, rfl⟩ := ry
    refine wpAny_binaryOp_repeat_ref (T := "tuple") (U := "int") (by decide) ⟨_, ho, rfl⟩ (fun s' => typeIs_int s' 1 t) noFill_tuple_mul F.fills_int_mul F.slot_int_rmul repeat_tuple F.slot_int_index.lookup
      (call_meets F.slot_int_rmul (typeIs_int s 1 t) F.entry_int_rmul (F.args_int_rmul_2 _ _) (int_rmul_tuple 1 t l #[a] n dd sl)
        ⟨ho, rfl, ⟨_, ho, rfl⟩, call_meets F.slot_tuple_mul ⟨_, ho, rfl⟩ F.entry_tuple_mul (F.args_tuple_mul_2 _ _) (tup_mul1 l a n dd sl t) ⟨ho, ?_⟩⟩)
    exact ⟨.ref l, H, I, rfl, q⟩
  · obtain ⟨t, rfl⟩ := ry
    refine wpAny_binaryOp_repeat_ref (T := "tuple") (U := "int") (by decide) ⟨_, ho, rfl⟩ (fun s' => typeIs_int s' 0 t) noFill_tuple_mul F.fills_int_mul F.slot_int_rmul repeat_tuple F.slot_int_index.lookup
      (call_meets F.slot_int_rmul (typeIs_int s 0 t) F.entry_int_rmul (F.args_int_rmul_2 _ _) (int_rmul_tuple 0 t l #[a] n dd sl)
        ⟨ho, rfl, ⟨_, ho, rfl⟩, call_meets F.slot_tuple_mul ⟨_, ho, rfl⟩ F.entry_tuple_mul (F.args_tuple_mul_2 _ _) (tup_mul0 l a n dd sl t) ⟨ho, ?_⟩⟩)
    refine ⟨.ref s.heap.objs.size, _, I.laid (t' := s.toks) (o := .tup []) (fun b ob q => Heap.get?_push_of_some _ q) (Nat.le_refl _) ?_, rfl, q _ (I.hok.fresh (Nat.le_refl _))⟩
    exact ⟨Nat.zero_le _, [], .nil, IsTup.new _ _⟩
end

/-! ### enumerate(tuple) -/
theorem enum_newT (l : Addr) (items : Array Value) (n : Nat) (dct : Option Addr) (sl : Array (Option Value)) :
    Meets (Builtin.«enumerate.__new__» ⟨[.type "enumerate", .ref l], []⟩) (fun _ R s => s.heap.get? l = some { cls := .type "tuple", dict := dct, data := .seq items n, slots := sl } ∧
      R (.ok (.ret (.ref (s.heap.push { cls := .type "tuple_iterator", data := .fields #[.ref l, .int 0 0] }).objs.size)))
        { s with heap := (s.heap.push { cls := .type "tuple_iterator", data := .fields #[.ref l, .int 0 0] }).push { cls := .type "enumerate", data := .fields #[.none, .bool false, .ref s.heap.objs.size, rawInt 0, .none, .none] } }) :=
  .of_wp fun prog w A R s h => by
    obtain ⟨hp, g, d, tk, os⟩ := s; obtain ⟨hl, h⟩ := h
    have hsub := sub_enumerate
    have hL : Heap.IsTuple (Shared.heap ⟨hp, g, d, tk, os⟩) l items := ⟨_, hl, rfl, n, rfl⟩
    wp_walk using AutoSeq1.wpAny_loadPart' hl
    refine wpAny_stack_any fun st => wpAny_pure ?_
    split
    · rename_i c _ _ _ _ _
      cases (c == Value.type "enumerate") <;> (wp_walk using AutoSeq1.wpAny_loadPart' hl, wpAny_pyIter_tuple hL; exact ⟨_, rfl, h⟩)
    · wp_walk using AutoSeq1.wpAny_loadPart' hl, wpAny_pyIter_tuple hL
      exact ⟨_, rfl, h⟩
theorem call_enumT {prog : Program} {w : World} {A : Around} {E : Value → Shared → Prop} {s : Shared} {l : Addr} {items : Array Value} {Q : Value → Shared → Prop} (hL : s.heap.IsTuple l items)
    (h : ∀ h', IsEnum h' (s.heap.objs.size + 1) s.heap.objs.size 0 .none → h'.IsTupleIter s.heap.objs.size l 0 → h'.objs.size = s.heap.objs.size + 2 →
      (∀ b o, s.heap.get? b = some o → h'.get? b = some o) → Q (.ref (s.heap.objs.size + 1)) { s with heap := h' }) :
    wpAny (model prog w) A (call (.type "enumerate") [.ref l]) Q E s := by
  obtain ⟨⟨c, dct, dt, sl⟩, hl, hc, n, hd⟩ := hL
  simp only at hc hd
  subst hc hd
  refine callType_new F.called_enumerate (by decide) (F.typeCall_enumerate_1 _) (F.newCall_enumerate_1 _) (fun obj => F.args_object_init_2 obj _) F.entry_enumerate_new (enum_newT l items n dct sl) ⟨hl, ?_⟩
  generalize ho : ({ cls := .type "tuple_iterator", data := .fields #[.ref l, .int 0 0] } : Obj) = o1
  have f1 : o1.isFreed = false := by rw [← ho]; rfl
  generalize hp : ({ cls := .type "enumerate", data := .fields #[.none, .bool false, .ref s.heap.objs.size, rawInt 0, .none, .none] } : Obj) = o2
  have f2 : o2.isFreed = false := by rw [← hp]; rfl
  have hz : (s.heap.push o1).objs.size = s.heap.objs.size + 1 := Heap.size_push ..
  have hg := Heap.get?_push_size (s.heap.push o1) (o := o2) f2
  show _ ∧ _
  rw [hz] at hg ⊢
  have he : IsEnum ((s.heap.push o1).push o2) (s.heap.objs.size + 1) s.heap.objs.size 0 .none := by rw [hp.symm] at hg ⊢; exact hg
  refine ⟨⟨_, he, rfl⟩, h _ he ⟨_, Heap.get?_push_of_some _ (Heap.get?_push_size _ f1), by rw [← ho], by rw [← ho]; rfl⟩ (by rw [Heap.size_push, hz]) fun b o x => Heap.get?_push_of_some _ (Heap.get?_push_of_some _ x)⟩
/-- the tuple at a, each item in a new pair -/
def Itet (K : PySem.W.Frag) (a : Addr) : It :=
  ⟨fun i H => ∃ (xs : List V) (x : V), SqT K H a xs ∧ xs[i]? = some x, fun i H v H' => ∃ T x, v = .ref T ∧ H T = none ∧ H' = upd H T (.tup [.int (i : Nat), x]) ∧ ∀ xs, SqT K H a xs → xs[i]? = some x,
    fun i H => ∃ xs : List V, SqT K H a xs ∧ xs.length ≤ i⟩
theorem turn_enumT {P : Program} {w : World} {K : PySem.W.Frag} {elts : List Expr} {kk : Nat} {tpos : Pos} (a e it : Addr) :
    Turn P w K (.Tuple elts kk tpos) (Itet K a) [e, it] e (fun i h => (∃ old, IsEnum h e it ((i : Nat) : Int) old) ∧ h.IsTupleIter it a i ∧ e ≠ it) where
  mem := by simp
  obj := fun i h st b hb => by
    obtain ⟨⟨old, he⟩, ⟨o, ho, hc, hd⟩, _⟩ := st
    rcases (show b = e ∨ b = it by simpa using hb) with rfl | rfl
    · exact ⟨_, he, fun v q => nomatch q⟩
    · exact ⟨o, ho, fun v q => by rw [hd] at q; cases q⟩
  keep := fun i h h' st k => let ⟨⟨old, he⟩, hi, hne⟩ := st; ⟨⟨old, k e (by simp) _ he⟩, hi.at fun o q => k it (by simp) o q, hne⟩
  item := by
    intro X hP hw hK hc i pins s σ H E I hf st hg
    subst hP hw hK
    obtain ⟨⟨old, he⟩, hit, hne⟩ := st
    obtain ⟨xs, x, hq, hx⟩ := hg
    obtain ⟨its, rv, pt, hz⟩ := I.tuple hq
    have hT : s.heap.IsTuple a its.toArray := pt
    obtain ⟨u, hu, ru⟩ := rv.get hx
    have hel : e < s.heap.objs.size := Heap.lt_size he
    have hil : it < s.heap.objs.size := by obtain ⟨_, q, _⟩ := hit; exact Heap.lt_size q
    have nai : a ≠ it := fun z => by
      subst z
      obtain ⟨o1, q1, c1, _⟩ := hit
      obtain ⟨o2, q2, c2, _⟩ := hT
      rw [q1] at q2; cases q2
      rw [c1] at c2; exact absurd c2 (by decide)
    have nea : e ≠ a := fun z => by
      subst z
      obtain ⟨o2, q2, c2, _⟩ := hT
      have he' : s.heap.get? e = _ := he
      rw [he'] at q2; cases q2
      exact absurd (show Value.type "enumerate" = Value.type "tuple" from c2) (by decide)
    have hi : i < its.toArray.size := by
      have := (List.getElem?_eq_some_iff.mp hu).1
      simpa using this
    refine wpAny_pyNext_enum_itemD (Draws.tuple (A := X.A.in1) (I.ok.hd hc) it a nai its.toArray) he ⟨hit, hT⟩ hi hne (by simp [hne, nea]) fun y h' tk hy ho hit' hT' hsz hk => ?_
    obtain rfl : y = u := by
      have hy' : its.toArray[i]? = some y := hy
      rw [List.getElem?_toArray, hu] at hy'
      exact (Option.some.inj hy').symm
    refine ⟨_, rfl, wpAny_letOwnedTupleGo_enum (s := { s with heap := h', toks := tk + 1 }) ho fun h'' he' sb => ?_⟩
    have hT2 : h''.get? s.heap.objs.size = some { cls := .type "tuple", data := .seq #[.int i tk, y] } := (sb.2 _ (Nat.ne_of_gt hel)).trans hT'
    have new : ObjOk X.prog X.w (upd H s.heap.objs.size (.tup [.int (i : Nat), x])) h'' s.heap.objs.size (.tup [.int (i : Nat), x]) :=
      ⟨by show 2 ≤ sizeLine; decide, [.int i tk, y], .cons ⟨_, rfl⟩ (.cons ru .nil), ⟨_, hT2, rfl, _, rfl⟩⟩
    have I1 := I.turnedNew (t' := tk + 1) (ch := [e, it]) (fun b ob hb q => (sb.2 b (fun z => hb (by simp [z]))).trans (hk b ob (fun z => hb (by simp [z])) (fun z => hb (by simp [z])) q)) hf (Nat.le_refl _) new
    refine ⟨.ref s.heap.objs.size, _, I1, rfl, ⟨_, x, rfl, I.hok.fresh (Nat.le_refl _), rfl, fun ys hys => by rw [I.tuple_inj hys hq]; exact hx⟩, ⟨⟨y, ?_⟩, hit'.1.at fun o q => (sb.2 it (Ne.symm hne)).trans q, hne⟩, fun b hb => ?_⟩
    · rw [show ((i + 1 : Nat) : Int) = (i : Int) + 1 by omega]; exact he'
    · have hb' : b < s.heap.objs.size := by
        rcases (show b = e ∨ b = it by simpa using hb) with rfl | rfl
        · exact hel
        · exact hil
      rw [upd_ne (Nat.ne_of_lt hb')]
      exact (hf b hb).1
  done := by
    intro X hP hw hK hc i pins s σ H E I hf st hg
    subst hP hw hK
    obtain ⟨⟨old, he⟩, hit, hne⟩ := st
    obtain ⟨xs, hq, hx⟩ := hg
    obtain ⟨its, rv, pt, hz⟩ := I.tuple hq
    have hT : s.heap.IsTuple a its.toArray := pt
    obtain ⟨f0, f1, f2, f3, f4, f5⟩ := hf it (by simp)
    have hl := rv.length
    have hT : s.TypeIs (.ref e) "enumerate" := ⟨_, he, rfl⟩
    unfold pyNext
    refine wpAny_bind (wpAny_attempt (wpAny_callSpecial?_slot (name := Str.ofString "__next__") hT F.slot_enumerate_next (wpAny_call_entry F.slot_enumerate_next hT F.entry_enumerate_next ?_ (F.args_enumerate_next_1 _))))
    show wpAny _ _ (field (.ref e) 2 >>= _) _ _ _
    refine wpAny_bind (wpAny_field he rfl (x := .ref it) rfl ?_)
    refine wpAny_bind (wpAny_nextOf_tuple_end (I.ok.hd hc) hit pt (by simp; omega) fun h' x eb hx' => ?_)
    obtain ⟨o, ho, hcx⟩ := hx'
    refine wpAny_bind (wpAny_isInstance (T := "StopIteration") (b := true) ⟨o, ho, hcx⟩ isSubtype_stop ?_)
    exact wpAny_pure ⟨rfl, I.turned (t' := s.toks) (fun b o hb q => eb b o hb q) f0 f1 f3 f4 f5⟩
  self := fun A i s Q E st h => let ⟨⟨_, he⟩, _⟩ := st; wpAny_pyIter_enum he h
def iEnumT (K : PySem.W.Frag) (ta : TA) : TI := fun σ H R => ta σ H fun vs H1 => ∃ a xs, vs = [.ref a] ∧ SqT K H1 a xs ∧ R (Itet K a) H1
theorem pi_enumT {X : Cx} {e : Expr} {ta : TA} {p pos tpos : Pos} {elts : List Expr} {kk : Nat} (hg : Gl X "enumerate") (hm : X.mg "enumerate" = none) (ha : PA X [e] ta)
    (hs : starEach [e] X.env = [(false, eval e X.env)] := by rfl) : PI X (.Tuple elts kk tpos) (.Call (.Name "enumerate" p) [e] [] pos) (iEnumT X.K ta) := by
  refine ⟨fun pins s σ H R I h => Call_ (ld_blt I hg hm boot_enumerate (PyProof.Rows.callWith_type1 (thn (ha.run pos pins s σ H _ I h) fun us s1 ⟨vs, H1, I1, r1, a, xs, ex, hq, q⟩ => ?_) hs rfl))⟩
  subst ex
  obtain ⟨u, rfl, rx⟩ := vals1 r1
  cases rx
  obtain ⟨its, rv, pt, hz⟩ := I1.tuple hq
  refine call_enumT pt fun h' he hit hsz hk => wpAny_pyIter_enum he ?_
  refine ⟨s1.heap.objs.size + 1, [s1.heap.objs.size + 1, s1.heap.objs.size], _, _, H1, rfl, I1.kept (t' := s1.toks) hk, turn_enumT a (s1.heap.objs.size + 1) s1.heap.objs.size, ⟨⟨.none, he⟩, hit, Nat.succ_ne_self _⟩, fun b hb => ?_, q⟩
  have hle : s1.heap.objs.size ≤ b := by
    rcases (show b = s1.heap.objs.size + 1 ∨ b = s1.heap.objs.size by simpa using hb) with rfl | rfl
    · exact Nat.le_add_right _ _
    · exact Nat.le_refl _
  exact I1.fpOk hle (I1.hok.fresh hle)
theorem walk_enumT {K : PySem.W.Frag} {a : Addr} {xs : List V} : Walk (Itet K a) xs.length (fun H => SqT K H a xs) (YPair (fun i => some (.int (i : Nat))) (fun i => xs[i]?)) := by
  refine ⟨fun i _ hi q => ⟨xs, xs[i], q, by simp [hi]⟩, fun _ q => ⟨xs, q, Nat.le_refl _⟩, fun i H v H' _ q y => ?_⟩
  obtain ⟨T, x, h1, h2, h3, h4⟩ := y
  exact ⟨T, .int (i : Nat), x, h1, h2, h3, rfl, h4 xs q⟩
end Pr
namespace Pr
open PySem PySem.Spec PyProof.Rows L2
/-! ### data that repr can show: how deep, how long -/
structure Shw (dep n : Nat) (d : PyData) : Prop where
  sh : d.showable = true
  nd : d.hasDict = false
  dp : d.depth ≤ dep
  ln : d.shown.length ≤ n
theorem Shw.mono {dep dep' n n' : Nat} {d : PyData} (h : Shw dep n d) (h1 : dep ≤ dep') (h2 : n ≤ n') : Shw dep' n' d := ⟨h.sh, h.nd, Nat.le_trans h.dp h1, Nat.le_trans h.ln h2⟩
theorem Shw.int {i : Int} {k : Nat} (h0 : 0 ≤ i) (hk : 0 < k) (hk2 : k ≤ 100) (h : i < 10 ^ k) : Shw 0 k (.int i) := by
  refine ⟨?_, by simp only [PyData.hasDict], by simp [PyData.depth], ?_⟩
  · simp only [PyData.showable, decide_eq_true_eq]
    by_cases hz : i.natAbs = 0
    · rw [hz]; decide
    · refine (Nat.log2_lt hz).mpr ?_
      have h1 : (i.natAbs : Int) < ((10 ^ k : Nat) : Int) := by
        rw [Int.natCast_pow]
        have : ((i.natAbs : Nat) : Int) = i := Int.natAbs_of_nonneg h0
        rw [this]; exact h
      have h2 : i.natAbs < 10 ^ k := by exact_mod_cast h1
      have h3 : (10 : Nat) ^ k ≤ 10 ^ 100 := Nat.pow_le_pow_right (by decide) hk2
      have h4 : (10 : Nat) ^ 100 < 2 ^ 1920 := by decide +kernel
      omega
  · simp only [PyData.shown]
    exact toString_length_le h0 hk h
theorem shownAll_map : ∀ ds : List PyData, PyData.shownAll ds = ds.map PyData.shown
  | [] => rfl
  | d :: r => by simp only [PyData.shownAll, List.map_cons, shownAll_map r]
theorem piled_le {n : Nat} : ∀ {ds : List PyData}, (∀ d ∈ ds, d.shown.length ≤ n) → piled (ds.map PyData.shown) ≤ ds.length * (n + 2)
  | [], _ => by simp [piled_nil]
  | d :: r, h => by
    have h1 := piled_le (ds := r) fun x hx => h x (List.mem_cons_of_mem _ hx)
    have h2 := h d List.mem_cons_self
    rw [List.map_cons, piled_cons, List.length_cons, Nat.succ_mul]
    omega
theorem showAll_of {dep n : Nat} : ∀ {ds : List PyData}, (∀ d ∈ ds, Shw dep n d) → PyData.showableAll ds = true ∧ PyData.hasDictAll ds = false ∧ PyData.depthAll ds ≤ dep
  | [], _ => ⟨by simp only [PyData.showableAll], by simp only [PyData.hasDictAll], by simp [PyData.depthAll]⟩
  | d :: r, h => by
    obtain ⟨h1, h2, h3⟩ := showAll_of (ds := r) fun x hx => h x (List.mem_cons_of_mem _ hx)
    have g := h d List.mem_cons_self
    refine ⟨by simp only [PyData.showableAll, g.sh, h1, Bool.and_self], by simp only [PyData.hasDictAll, g.nd, h2, Bool.or_self], ?_⟩
    simp only [PyData.depthAll]
    exact Nat.max_le.mpr ⟨g.dp, h3⟩
theorem tupleText_len (ts : List Str) : (tupleText ts).length ≤ piled ts + 3 := by
  unfold tupleText
  rw [strLen_append, strLen_append]
  have e1 : (("(" : Str)).length = 1 := by decide +kernel
  have e2 : ((if ts.length == 1 then ",)" else ")" : String) : Str).length ≤ 2 := by
    cases ts.length == 1 <;> decide +kernel
  by_cases h : ts = []
  · subst h
    have : (Str.join ", " ([] : List Str)).length = 0 := by decide +kernel
    omega
  · have := join_length_add ts h
    omega
theorem textFrom_le : ∀ (ts : List Str) (k : Nat) (acc : Str), (textFrom k acc ts).length ≤ acc.length + piled ts
  | [], k, acc => by simp [textFrom, piled_nil]
  | t :: r, k, acc => by
    have h := textFrom_le r (k + 1) (acc ++ (if k > 0 then ", " else "" : String) ++ t)
    rw [piled_cons]
    show (textFrom (k + 1) _ r).length ≤ _
    have e : ((if k > 0 then ", " else "" : String) : Str).length ≤ 2 := by split <;> decide +kernel
    rw [strLen_append, strLen_append] at h
    omega
theorem listText_len (ts : List Str) : (listText ts).length ≤ piled ts + 2 := by
  unfold listText
  rw [strLen_append]
  have h := textFrom_le ts 0 "["
  have e1 : (("[" : Str)).length = 1 := by decide +kernel
  have e2 : (("]" : Str)).length = 1 := by decide +kernel
  omega
theorem Shw.tuple {dep n m : Nat} {ds : List PyData} (h : ∀ d ∈ ds, Shw dep n d) (hm : ds.length ≤ m) : Shw (dep + 1) (m * (n + 2) + 3) (.tuple ds) := by
  obtain ⟨h1, h2, h3⟩ := showAll_of h
  refine ⟨by simp only [PyData.showable, h1], by simp only [PyData.hasDict, h2], by simp only [PyData.depth]; omega, ?_⟩
  simp only [PyData.shown]
  rw [shownAll_map]
  have a1 := tupleText_len (ds.map PyData.shown)
  have a2 := piled_le fun d hd => (h d hd).ln
  have a3 : ds.length * (n + 2) ≤ m * (n + 2) := Nat.mul_le_mul_right _ hm
  omega
theorem Shw.list {dep n m : Nat} {ds : List PyData} (h : ∀ d ∈ ds, Shw dep n d) (hm : ds.length ≤ m) : Shw (dep + 1) (m * (n + 2) + 3) (.list ds) := by
  obtain ⟨h1, h2, h3⟩ := showAll_of h
  refine ⟨by simp only [PyData.showable, h1], by simp only [PyData.hasDict, h2], by simp only [PyData.depth]; omega, ?_⟩
  simp only [PyData.shown]
  rw [shownAll_map]
  have a1 := listText_len (ds.map PyData.shown)
  have a2 := piled_le fun d hd => (h d hd).ln
  have a3 : ds.length * (n + 2) ≤ m * (n + 2) := Nat.mul_le_mul_right _ hm
  omega

/-! ### the deck, panels -/
/-- only what stands at a and c may have changed -/
def But (a c : Addr) (H H' : Hp) : Prop := ∀ b o, b ≠ a → b ≠ c → H b = some o → H' b = some o
theorem But.refl (a c : Addr) (H : Hp) : But a c H H := fun _ _ _ _ h => h
theorem But.trans {a c : Addr} {H H1 H2 : Hp} (x : But a c H H1) (y : But a c H1 H2) : But a c H H2 := fun b o h1 h2 h => y b o h1 h2 (x b o h1 h2 h)
theorem But.of {a c : Addr} {H H' : Hp} (x : Same H H') : But a c H H' := fun b o _ _ h => x b o h
theorem same_new {H : Hp} {p : Addr} {o : HO} (h : H p = none) : Same H (upd H p o) := fun b x e => by
  rw [upd_ne (ne_of_none e h)]; exact e
/-- the deck at a, its cells at c, m draws may still be made -/
def Deck (H : Hp) (a c : Addr) (m : Nat) : Prop :=
  ∃ (cells : List Int) (n : Nat), H a = some (.lst [.ref c, .int (n : Int)]) ∧ H c = some (.lst (cells.map V.int)) ∧ a ≠ c ∧ cells.length ≤ 63 ∧ n + m ≤ 1000000
theorem Deck.same {H H' : Hp} {a c : Addr} {m : Nat} (e : Same H H') (h : Deck H a c m) : Deck H' a c m :=
  let ⟨cs, n, h1, h2, h3⟩ := h; ⟨cs, n, e _ _ h1, e _ _ h2, h3⟩
theorem Deck.less {H : Hp} {a c : Addr} {m m' : Nat} (h : Deck H a c m) (z : m' ≤ m) : Deck H a c m' :=
  let ⟨cs, n, h1, h2, h3, h4, h5⟩ := h; ⟨cs, n, h1, h2, h3, h4, by omega⟩
theorem Deck.apart {H : Hp} {a c : Addr} {m : Nat} (h : Deck H a c m) {b : Addr} {o : HO} (e : H b = some o) (ho : ∀ xs, o ≠ .lst xs) : b ≠ a ∧ b ≠ c := by
  obtain ⟨cs, n, h1, h2, _⟩ := h
  exact ⟨ne_of e h1 (ho _), ne_of e h2 (ho _)⟩
theorem Deck.fresh {H : Hp} {a c : Addr} {m : Nat} (h : Deck H a c m) {b : Addr} (e : H b = none) : b ≠ a ∧ b ≠ c := by
  obtain ⟨cs, n, h1, h2, _⟩ := h
  exact ⟨Ne.symm (ne_of_none h1 e), Ne.symm (ne_of_none h2 e)⟩
theorem FT.but {H H' : Hp} {a c p : Addr} {m : Nat} {xs : List V} (d : Deck H a c m) (b : But a c H H') (h : FT H p xs) : FT H' p xs := by
  obtain ⟨o, e, z⟩ := h
  have q := d.apart e (fun _ => by intro z; cases z)
  exact ⟨o, b _ _ q.1 q.2 e, z⟩
theorem tup_but {H H' : Hp} {a c p : Addr} {m : Nat} {xs : List V} (d : Deck H a c m) (b : But a c H H') (h : H p = some (.tup xs)) : H' p = some (.tup xs) := by
  have q := d.apart h (fun _ => by intro z; cases z)
  exact b _ _ q.1 q.2 h
/-- a panel at p -/
def PanAt (H : Hp) (p : Addr) (pan : List (List Int)) : Prop := ∃ qs : List Addr, FT H p (qs.map V.ref) ∧ Paired (fun q l => FT H q (l.map V.int)) qs pan
theorem PanAt.same {H H' : Hp} {p : Addr} {pan : List (List Int)} (e : Same H H') (h : PanAt H p pan) : PanAt H' p pan :=
  let ⟨qs, h1, h2⟩ := h; ⟨qs, h1.same e, h2.mono fun _ _ x => x.same e⟩
theorem PanAt.but {H H' : Hp} {a c p : Addr} {m : Nat} {pan : List (List Int)} (d : Deck H a c m) (b : But a c H H') (h : PanAt H p pan) : PanAt H' p pan :=
  let ⟨qs, h1, h2⟩ := h; ⟨qs, h1.but d b, h2.mono fun _ _ x => x.but d b⟩
theorem paired_get {α β : Type} {F : α → β → Prop} : ∀ {l1 : List α} {l2 : List β}, Paired F l1 l2 → ∀ (i : Nat) (y : β), l2[i]? = some y → ∃ x, l1[i]? = some x ∧ F x y
  | _, _, .nil, i, y, h => by simp at h
  | _, _, .cons r t, 0, y, h => by simp at h; subst h; exact ⟨_, rfl, r⟩
  | _, _, .cons r t, i + 1, y, h => by
    obtain ⟨x, h1, h2⟩ := paired_get t i y (by simpa using h)
    exact ⟨x, by simpa using h1, h2⟩
/-- what the document calls a panel of at most ten buttons -/
structure Good (pan : List (List Int)) : Prop where
  pos : 1 ≤ pan.length
  few : pan.length ≤ 10
  up : ∀ l ∈ pan, l.Pairwise (· < ·)
  rng : ∀ l ∈ pan, ∀ x ∈ l, 0 ≤ x ∧ x < (pan.length : Int)
  own : ∀ (i : Nat) (l : List Int), pan[i]? = some l → (i : Int) ∉ l
def dInts (l : List Int) : PyData := .tuple (l.map PyData.int)
def dPan (pan : List (List Int)) : PyData := .tuple (pan.map dInts)
section
variable {K : PySem.W.Frag} {H : Hp}
theorem dpAll_ints : ∀ l : List Int, DpAll K H (l.map V.int) (l.map PyData.int)
  | [] => .nil
  | x :: r => .cons (.int x) (dpAll_ints r)
theorem dp_ints {q : Addr} {l : List Int} (h : SqT K H q (l.map V.int)) : Dp K H (.ref q) (dInts l) := .tup h (dpAll_ints l)
theorem dpAll_pan : ∀ {qs : List Addr} {pan : List (List Int)}, Paired (fun q l => FT H q (l.map V.int)) qs pan → DpAll K H (qs.map V.ref) (pan.map dInts)
  | _, _, .nil => .nil
  | _, _, .cons r t => .cons (dp_ints r.sq) (dpAll_pan t)
theorem PanAt.dp {p : Addr} {pan : List (List Int)} (h : PanAt H p pan) : Dp K H (.ref p) (dPan pan) := by
  obtain ⟨qs, h1, h2⟩ := h
  exact .tup h1.sq (dpAll_pan h2)
end
theorem pw_length {n : Nat} : ∀ {l : List Int} {lo : Int}, l.Pairwise (· < ·) → (∀ x ∈ l, lo ≤ x ∧ x < lo + n) → l.length ≤ n := by
  induction n with
  | zero =>
    intro l lo _ h
    cases l with
    | nil => exact Nat.le_refl _
    | cons x r => have := h x List.mem_cons_self; omega
  | succ n ih =>
    intro l lo hp h
    cases l with
    | nil => exact Nat.zero_le _
    | cons x r =>
      have hx := h x List.mem_cons_self
      rw [List.pairwise_cons] at hp
      have := ih (l := r) (lo := lo + 1) hp.2 fun y hy => by
        have h1 := hp.1 y hy
        have h2 := h y (List.mem_cons_of_mem _ hy)
        omega
      rw [List.length_cons]; omega
theorem shw_ints {l : List Int} {m : Nat} (hl : l.length ≤ m) (h : ∀ x ∈ l, 0 ≤ x ∧ x < 10) : Shw 1 (m * 3 + 3) (dInts l) := by
  refine Shw.tuple (fun d hd => ?_) (by rw [List.length_map]; exact hl)
  obtain ⟨x, hx, rfl⟩ := List.mem_map.mp hd
  exact Shw.int (h x hx).1 (by decide) (by decide) (h x hx).2
theorem Good.shw {pan : List (List Int)} (g : Good pan) : Shw 2 353 (dPan pan) := by
  have := Shw.tuple (dep := 1) (n := 33) (m := 10) (ds := pan.map dInts) (fun d hd => ?_) (by rw [List.length_map]; exact g.few)
  · exact this
  · obtain ⟨l, hl, rfl⟩ := List.mem_map.mp hd
    have hf := g.few
    refine shw_ints (m := 10) (pw_length (n := 10) (lo := 0) (g.up l hl) fun x hx => ?_) fun x hx => ?_
    · have := g.rng l hl x hx; omega
    · have := g.rng l hl x hx; omega
end Pr
/-! Presses, as plain functions. -/
namespace Pr
open PySem PySem.Spec PyProof.Rows L2
def intL (n : Nat) : List Int := (List.range n).map fun i : Nat => (i : Int)
theorem mem_intL {n : Nat} {x : Int} : x ∈ intL n ↔ 0 ≤ x ∧ x < (n : Int) := by
  unfold intL
  rw [List.mem_map]
  constructor
  · rintro ⟨i, hi, rfl⟩
    have := List.mem_range.mp hi
    omega
  · rintro ⟨h0, h1⟩
    exact ⟨x.toNat, List.mem_range.mpr (by omega), Int.toNat_of_nonneg h0⟩
theorem intL_up (n : Nat) : (intL n).Pairwise (· < ·) := by
  unfold intL
  rw [List.pairwise_map]
  exact List.pairwise_lt_range.imp fun {a b} (h : a < b) => by omega
theorem intL_len (n : Nat) : (intL n).length = n := by unfold intL; rw [List.length_map, List.length_range]
theorem intL_succ (n : Nat) : intL (n + 1) = intL n ++ [(n : Int)] := by unfold intL; rw [List.range_succ, List.map_append]; rfl
/-- a state of n buttons -/
structure Asc (n : Nat) (st : List Int) : Prop where
  up : st.Pairwise (· < ·)
  rng : ∀ x ∈ st, 0 ≤ x ∧ x < (n : Int)
theorem Asc.nil (n : Nat) : Asc n [] := ⟨List.Pairwise.nil, fun _ h => by cases h⟩
theorem Asc.full (n : Nat) : Asc n (intL n) := ⟨intL_up n, fun _ h => mem_intL.mp h⟩
theorem Asc.filter (n : Nat) (f : Int → Bool) : Asc n ((intL n).filter f) := ⟨(intL_up n).filter f, fun _ h => mem_intL.mp (List.mem_filter.mp h).1⟩
theorem Asc.len {n : Nat} {st : List Int} (h : Asc n st) : st.length ≤ n := pw_length (lo := 0) h.up fun x hx => by have := h.rng x hx; omega
theorem asc_ext : ∀ {l1 l2 : List Int}, l1.Pairwise (· < ·) → l2.Pairwise (· < ·) → (∀ x, x ∈ l1 ↔ x ∈ l2) → l1 = l2
  | [], [], _, _, _ => rfl
  | [], y :: r, _, _, h => absurd ((h y).mpr List.mem_cons_self) (by simp)
  | x :: r, [], _, _, h => absurd ((h x).mp List.mem_cons_self) (by simp)
  | x :: r, y :: t, h1, h2, h => by
    rw [List.pairwise_cons] at h1 h2
    have exy : x = y := by
      rcases List.mem_cons.mp ((h x).mp List.mem_cons_self) with e | e
      · exact e
      · rcases List.mem_cons.mp ((h y).mpr List.mem_cons_self) with e' | e'
        · exact e'.symm
        · have a1 := h2.1 x e
          have a2 := h1.1 y e'
          omega
    subst exy
    have : r = t := asc_ext h1.2 h2.2 fun z => by
      constructor
      · intro hz
        rcases List.mem_cons.mp ((h z).mp (List.mem_cons_of_mem _ hz)) with e | e
        · have := h1.1 z hz; omega
        · exact e
      · intro hz
        rcases List.mem_cons.mp ((h z).mpr (List.mem_cons_of_mem _ hz)) with e | e
        · have := h2.1 z hz; omega
        · exact e
    rw [this]
theorem Asc.eq {n : Nat} {st : List Int} (h : Asc n st) : (intL n).filter (fun x => decide (x ∈ st)) = st :=
  asc_ext ((intL_up n).filter _) h.up fun x => by
    rw [List.mem_filter, decide_eq_true_eq, mem_intL]
    exact ⟨fun q => q.2, fun q => ⟨h.rng x q, q⟩⟩
def pressM (pan : List (List Int)) (st : List Int) (b : Int) : List Int := (intL pan.length).filter fun x => decide (x = b ∨ (x ∈ st ∧ x ∉ pan.getD b.toNat []))
def runM (pan : List (List Int)) (st : List Int) (row : List Int) : List Int := row.foldl (pressM pan) st
theorem pressM_asc (pan : List (List Int)) (st : List Int) (b : Int) : Asc pan.length (pressM pan st b) := Asc.filter _ _
theorem runM_asc {pan : List (List Int)} : ∀ {row st : List Int}, Asc pan.length st → Asc pan.length (runM pan st row)
  | [], _, h => h
  | b :: r, st, _ => runM_asc (row := r) (pressM_asc pan st b)
theorem mem_pressM {pan : List (List Int)} {st : List Int} {b x : Int} : x ∈ pressM pan st b ↔ (0 ≤ x ∧ x < (pan.length : Int)) ∧ (x = b ∨ (x ∈ st ∧ x ∉ pan.getD b.toNat [])) := by
  unfold pressM
  rw [List.mem_filter, decide_eq_true_eq, mem_intL]
theorem runM_take {pan : List (List Int)} {st row : List Int} {k : Nat} {b : Int} (h : row[k]? = some b) : runM pan st (row.take (k + 1)) = pressM pan (runM pan st (row.take k)) b := by
  unfold runM
  rw [List.take_add_one, h, List.foldl_append]; rfl
/-- what press_button makes: the kept ones and the button, sorted -/
theorem press_sorted {pan : List (List Int)} {st : List Int} {b : Int} {ns : List Int} (hs : Asc pan.length st) (h0 : 0 ≤ b) (h1 : b < (pan.length : Int))
    (hp : ns.Perm (st.filter (fun x => decide (x ≠ b ∧ x ∉ pan.getD b.toNat [])) ++ [b])) (hle : ns.Pairwise (· ≤ ·)) : ns = pressM pan st b := by
  have nd0 : (st.filter (fun x => decide (x ≠ b ∧ x ∉ pan.getD b.toNat [])) ++ [b]).Nodup := by
    refine List.nodup_append.mpr ⟨(hs.up.imp fun {x y} (q : x < y) => by omega : st.Nodup).filter _, by simp, fun x hx y hy e => ?_⟩
    rw [List.mem_singleton] at hy
    have := (List.mem_filter.mp hx).2
    rw [decide_eq_true_eq] at this
    exact this.1 (e.trans hy)
  have nd : ns.Nodup := hp.nodup_iff.mpr nd0
  have up : ns.Pairwise (· < ·) := (hle.and nd).imp fun {x y} (q : x ≤ y ∧ x ≠ y) => by omega
  refine asc_ext up (pressM_asc pan st b).up fun x => ?_
  rw [hp.mem_iff, mem_pressM, List.mem_append, List.mem_filter, decide_eq_true_eq, List.mem_singleton]
  constructor
  · rintro (⟨a1, a2⟩ | a)
    · exact ⟨hs.rng x a1, .inr ⟨a1, a2.2⟩⟩
    · subst a; exact ⟨⟨h0, h1⟩, .inl rfl⟩
  · rintro ⟨_, a | a⟩
    · exact .inr a
    · by_cases e : x = b
      · exact .inr e
      · exact .inl ⟨a.1, e, a.2⟩
/-- marks -/
def marks (n : Nat) (st : List Int) : List Bool := (List.range n).map fun i : Nat => decide ((i : Int) ∈ st)
theorem marks_len (n : Nat) (st : List Int) : (marks n st).length = n := by unfold marks; rw [List.length_map, List.length_range]
theorem marks_get {n : Nat} {st : List Int} {i : Nat} (h : i < n) : (marks n st)[i]? = some (decide ((i : Int) ∈ st)) := by
  unfold marks
  rw [List.getElem?_map, List.getElem?_range h]; rfl
theorem marks_set {pan : List (List Int)} {st : List Int} {b : Nat} (hb : b < pan.length) :
    ((List.range pan.length).map fun i : Nat => (decide ((i : Int) ∈ st) && !decide ((i : Int) ∈ pan.getD b []))).set b true = marks pan.length (pressM pan st (b : Int)) := by
  refine List.ext_getElem? fun i => ?_
  by_cases hi : i < pan.length
  · rw [marks_get hi, List.getElem?_set]
    by_cases e : b = i
    · subst e
      rw [if_pos rfl, if_pos (by rw [List.length_map, List.length_range]; exact hi)]
      congr 1
      exact (decide_eq_true (mem_pressM.mpr ⟨⟨by omega, by omega⟩, .inl rfl⟩)).symm
    · rw [if_neg e, List.getElem?_map, List.getElem?_range hi]
      show some _ = some _
      congr 1
      rw [Bool.eq_iff_iff, Bool.and_eq_true, decide_eq_true_eq, Bool.not_eq_true', decide_eq_false_iff_not, decide_eq_true_eq, mem_pressM, Int.toNat_natCast]
      constructor
      · rintro ⟨a, a'⟩
        exact ⟨⟨by omega, by omega⟩, .inr ⟨a, a'⟩⟩
      · rintro ⟨_, a | a⟩
        · omega
        · exact a
  · rw [List.getElem?_eq_none (by rw [List.length_set, List.length_map, List.length_range]; omega), List.getElem?_eq_none (by rw [marks_len]; omega)]
end Pr
/-! Data of any kind, with dicts; its lists stand apart from the deck (a, c). -/
namespace Pr
open PySem PySem.Spec PyProof.Rows L2
mutual
inductive Dq (K : PySem.W.Frag) (N : Addr → Prop) (H : Hp) : V → PyData → Prop
  | non : Dq K N H .non .none
  | bl (b : Bool) : Dq K N H (.bl b) (.bool b)
  | int (i : Int) : Dq K N H (.int i) (.int i)
  | str (x : Str) : Dq K N H (.str x) (.str x)
  | lst {l : Addr} {xs : List V} {ds : List PyData} : l ≠ sysModules → ¬ N l → H l = some (.lst xs) → DqAll K N H xs ds → Dq K N H (.ref l) (.list ds)
  | tup {l : Addr} {xs : List V} {ds : List PyData} : SqT K H l xs → DqAll K N H xs ds → Dq K N H (.ref l) (.tuple ds)
  | dct0 {l : Addr} : H l = some (.dK []) → Dq K N H (.ref l) (.dict [])
  | dct1 {l : Addr} {x : Str} {i : Int} : H l = some (.dK [(Sum.inr x, .int i)]) → Dq K N H (.ref l) (.dict [(.str x, .int i)])
inductive DqAll (K : PySem.W.Frag) (N : Addr → Prop) (H : Hp) : List V → List PyData → Prop
  | nil : DqAll K N H [] []
  | cons {v : V} {vs : List V} {d : PyData} {ds : List PyData} : Dq K N H v d → DqAll K N H vs ds → DqAll K N H (v :: vs) (d :: ds)
end
section
variable {K : PySem.W.Frag} {N : Addr → Prop} {a c : Addr} {H H' : Hp}
theorem DqAll.length : ∀ {vs : List V} {ds : List PyData}, DqAll K N H vs ds → vs.length = ds.length
  | _, _, .nil => rfl
  | _, _, .cons _ t => by rw [List.length_cons, List.length_cons, t.length]
theorem DqAll.append : ∀ {vs us : List V} {ds es : List PyData}, DqAll K N H vs ds → DqAll K N H us es → DqAll K N H (vs ++ us) (ds ++ es)
  | _, _, _, _, .nil, h => h
  | _, _, _, _, .cons r t, h => .cons r (t.append h)
theorem DqAll.get : ∀ {vs : List V} {ds : List PyData}, DqAll K N H vs ds → ∀ (i : Nat) (v : V), vs[i]? = some v → ∃ d, ds[i]? = some d ∧ Dq K N H v d
  | _, _, .nil, i, v, h => by simp at h
  | _, _, .cons r t, 0, v, h => by simp at h; subst h; exact ⟨_, rfl, r⟩
  | _, _, .cons r t, i + 1, v, h => by
    obtain ⟨d, h1, h2⟩ := t.get i v (by simpa using h)
    exact ⟨d, by simpa using h1, h2⟩
theorem DqAll.take : ∀ (n : Nat) {vs : List V} {ds : List PyData}, DqAll K N H vs ds → DqAll K N H (vs.take n) (ds.take n)
  | 0, _, _, _ => by simpa using DqAll.nil
  | n + 1, _, _, .nil => .nil
  | n + 1, _, _, .cons r t => .cons r (t.take n)
theorem DqAll.drop : ∀ (n : Nat) {vs : List V} {ds : List PyData}, DqAll K N H vs ds → DqAll K N H (vs.drop n) (ds.drop n)
  | 0, _, _, h => h
  | n + 1, _, _, .nil => .nil
  | n + 1, _, _, .cons r t => t.drop n
theorem DqAll.reverse : ∀ {vs : List V} {ds : List PyData}, DqAll K N H vs ds → DqAll K N H vs.reverse ds.reverse
  | _, _, .nil => .nil
  | _, _, .cons r t => by rw [List.reverse_cons, List.reverse_cons]; exact t.reverse.append (.cons r .nil)
theorem DqAll.rep (n : Nat) {vs : List V} {ds : List PyData} (h : DqAll K N H vs ds) : DqAll K N H (List.replicate n vs).flatten (List.replicate n ds).flatten := by
  induction n with
  | zero => exact .nil
  | succ n ih => rw [List.replicate_succ, List.replicate_succ, List.flatten_cons, List.flatten_cons]; exact h.append ih
theorem dqAll_ints : ∀ l : List Int, DqAll K N H (l.map V.int) (l.map PyData.int)
  | [] => .nil
  | x :: r => .cons (.int x) (dqAll_ints r)
theorem dq_ints {q : Addr} {l : List Int} (h : SqT K H q (l.map V.int)) : Dq K N H (.ref q) (dInts l) := .tup h (dqAll_ints l)
theorem dqAll_pan : ∀ {qs : List Addr} {pan : List (List Int)}, Paired (fun q l => FT H q (l.map V.int)) qs pan → DqAll K N H (qs.map V.ref) (pan.map dInts)
  | _, _, .nil => .nil
  | _, _, .cons r t => .cons (dq_ints r.sq) (dqAll_pan t)
mutual
theorem Dq.keep (hs : ∀ l o, ¬ N l → H l = some o → H' l = some o) (ht : ∀ l xs, SqT K H l xs → SqT K H' l xs) (hk : ∀ l kvs, H l = some (.dK kvs) → H' l = some (.dK kvs)) : ∀ (d : PyData) (v : V), Dq K N H v d → Dq K N H' v d
  | .none, _, h => by cases h; exact .non
  | .bool b, _, h => by cases h; exact .bl b
  | .int i, _, h => by cases h; exact .int i
  | .str x, _, h => by cases h; exact .str x
  | .list ds, _, h => by
    cases h with
    | lst h1 h2 e q => exact .lst h1 h2 (hs _ _ h2 e) (Dq.keepAll hs ht hk ds _ q)
  | .tuple ds, _, h => by
    cases h with
    | tup e q => exact .tup (ht _ _ e) (Dq.keepAll hs ht hk ds _ q)
  | .dict kvs, _, h => by
    cases h with
    | dct0 e => exact .dct0 (hk _ _ e)
    | dct1 e => exact .dct1 (hk _ _ e)
theorem Dq.keepAll (hs : ∀ l o, ¬ N l → H l = some o → H' l = some o) (ht : ∀ l xs, SqT K H l xs → SqT K H' l xs) (hk : ∀ l kvs, H l = some (.dK kvs) → H' l = some (.dK kvs)) : ∀ (ds : List PyData) (vs : List V), DqAll K N H vs ds → DqAll K N H' vs ds
  | [], _, h => by cases h; exact .nil
  | d :: ds, _, h => by
    cases h with
    | cons r t => exact .cons (Dq.keep hs ht hk d _ r) (Dq.keepAll hs ht hk ds _ t)
end
theorem Deck.sqT {m : Nat} (D : Deck H a c m) (b : But a c H H') {l : Addr} {xs : List V} (h : SqT K H l xs) : SqT K H' l xs := by
  rcases h with (h | ⟨o, h⟩) | h
  · exact .inl (.inl (b _ _ (D.apart h (fun _ => by intro z; cases z)).1 (D.apart h (fun _ => by intro z; cases z)).2 h))
  · exact .inl (.inr ⟨o, b _ _ (D.apart h (fun _ => by intro z; cases z)).1 (D.apart h (fun _ => by intro z; cases z)).2 h⟩)
  · exact .inr h
theorem Deck.dk {m : Nat} (D : Deck H a c m) (l : Addr) (kvs : List (Key × V)) (h : H l = some (.dK kvs)) : l ≠ a ∧ l ≠ c := D.apart h (fun _ => by intro z; cases z)
theorem apart_N (na : N a) (nc : N c) {l : Addr} (h : ¬ N l) : l ≠ a ∧ l ≠ c := ⟨fun e => h (by rw [e]; exact na), fun e => h (by rw [e]; exact nc)⟩
theorem Dq.but {m : Nat} (na : N a) (nc : N c) (D : Deck H a c m) (b : But a c H H') {v : V} {d : PyData} (h : Dq K N H v d) : Dq K N H' v d :=
  Dq.keep (fun l o h1 e => b l o (apart_N na nc h1).1 (apart_N na nc h1).2 e) (fun _ _ e => D.sqT b e) (fun l kvs e => b _ _ (D.dk l kvs e).1 (D.dk l kvs e).2 e) d v h
theorem DqAll.but {m : Nat} (na : N a) (nc : N c) (D : Deck H a c m) (b : But a c H H') {v : List V} {d : List PyData} (h : DqAll K N H v d) : DqAll K N H' v d :=
  Dq.keepAll (fun l o h1 e => b l o (apart_N na nc h1).1 (apart_N na nc h1).2 e) (fun _ _ e => D.sqT b e) (fun l kvs e => b _ _ (D.dk l kvs e).1 (D.dk l kvs e).2 e) d v h
mutual
theorem Dq.same (e : Same H H') : ∀ (d : PyData) (v : V), Dq K N H v d → Dq K N H' v d
  | .none, _, h => by cases h; exact .non
  | .bool b, _, h => by cases h; exact .bl b
  | .int i, _, h => by cases h; exact .int i
  | .str x, _, h => by cases h; exact .str x
  | .list ds, _, h => by
    cases h with
    | lst h1 h2 q r => exact .lst h1 h2 (e _ _ q) (Dq.sameAll e ds _ r)
  | .tuple ds, _, h => by
    cases h with
    | tup q r => exact .tup (same_sqT e q) (Dq.sameAll e ds _ r)
  | .dict kvs, _, h => by
    cases h with
    | dct0 q => exact .dct0 (e _ _ q)
    | dct1 q => exact .dct1 (e _ _ q)
theorem Dq.sameAll (e : Same H H') : ∀ (ds : List PyData) (vs : List V), DqAll K N H vs ds → DqAll K N H' vs ds
  | [], _, h => by cases h; exact .nil
  | d :: ds, _, h => by
    cases h with
    | cons r t => exact .cons (Dq.same e d _ r) (Dq.sameAll e ds _ t)
end
/-- its built-in type -/
def tyD : PyData → String
  | .none => "NoneType"
  | .bool _ => "bool"
  | .int _ => "int"
  | .str _ => "str"
  | .list _ => "list"
  | .tuple _ => "tuple"
  | .dict _ => "dict"
theorem tyT {l : Addr} {xs : List V} (h : SqT K H l xs) : TyX K H (.ref l) (.type "tuple") := by
  rcases h with (h | ⟨o, h⟩) | ⟨o, its, n, h, hc, _⟩
  · exact .base (.tup h)
  · exact .fTuple h
  · exact .kTuple h hc
theorem Dq.ty {v : V} {d : PyData} (h : Dq K N H v d) : TyX K H v (.type (tyD d)) := by
  cases h with
  | non => exact .base .non
  | bl b => exact .base (.bl b)
  | int i => exact .base (.int i)
  | str x => exact .base (.str x)
  | lst _ _ e _ => exact .base (.lst e)
  | tup e _ => exact tyT e
  | dct0 e => exact .base (.dK e)
  | dct1 e => exact .base (.dK e)
end
section
variable {X : Cx} {pins : List (Addr × Obj)} {σ : L2.St} {H : Hp} {s : Shared} {N : Addr → Prop}
mutual
theorem Dq.reads (I : Inv X pins σ H s) : ∀ (d : PyData) (v : V) (u : Value), Dq X.K N H v d → RelV v u → ∃ as, Reads s.heap u d as ∧ sysModules ∉ as
  | .none, _, _, h, r => by
    cases h; cases r; exact ⟨_, Reads.none, by simp⟩
  | .bool b, _, _, h, r => by
    cases h; cases r; exact ⟨_, Reads.bool b, by simp⟩
  | .int i, _, _, h, r => by
    cases h; obtain ⟨t, rfl⟩ := r; exact ⟨_, Reads.int i t, by simp⟩
  | .str x, _, _, h, r => by
    cases h; obtain ⟨t, rfl⟩ := r; exact ⟨_, Reads.str x t, by simp⟩
  | .list ds, _, _, h, r => by
    cases h with
    | lst h1 _ hs ha =>
      cases r
      obtain ⟨_, its, n, rv, ho⟩ := I.hok _ _ hs
      obtain ⟨as, hr, hn⟩ := Dq.readsAll I ds _ its ha rv
      exact ⟨_, Reads.list ho rfl rfl hr, by simp [hn, Ne.symm h1]⟩
  | .tuple ds, _, _, h, r => by
    cases h with
    | tup hs ha =>
      cases r
      obtain ⟨its, rv, ⟨o, ho, hc, n, hd⟩, _⟩ := I.tuple hs
      obtain ⟨as, hr, hn⟩ := Dq.readsAll I ds _ its ha rv
      exact ⟨_, Reads.tuple ho hc hd hr, hn⟩
  | .dict _, _, _, h, r => by
    cases h with
    | dct0 e =>
      cases r
      obtain ⟨_, ns, vs, kv, o, es, ep, ho, hc, hd, _, hp, _⟩ := I.hok _ _ e
      cases kv
      have he : es.toList = [] := by cases hes : es.toList with
        | nil => rfl
        | cons x y => rw [hes] at hp; cases hp
      have ns' := of_decide_eq_false (show decide (_ = sysModules) = false by simpa using ns)
      refine ⟨_, Reads.dict (kvs := []) ho hc.1 hd (by rw [he]; exact .nil) (by rw [he]; exact .nil), ?_⟩
      simp [Ne.symm ns']
    | @dct1 l x i e =>
      cases r
      obtain ⟨_, ns, vs, kv, o, es, ep, ho, hc, hd, _, hp, _⟩ := I.hok _ _ e
      cases kv with
      | @cons p q l1 l2 kq kr =>
        cases kr
        obtain ⟨h1, t, h2⟩ := kq
        obtain ⟨en, he, hk, hv⟩ : ∃ en, es.toList = [en] ∧ keyIs q.1 en.key = true ∧ en.val = q.2 := by
          cases hes : es.toList with
          | nil => rw [hes] at hp; cases hp
          | cons x y =>
            rw [hes] at hp
            cases hp with
            | cons p1 p2 p3 => cases p3; exact ⟨x, rfl, p1, p2⟩
        have h1' : (Sum.inr x : Key) = q.1 := h1
        rw [← h1'] at hk
        obtain ⟨t', hk'⟩ := Value.isStrOf_shape (show Value.isStrOf x en.key = true from hk)
        have ns' := of_decide_eq_false (show decide (_ = sysModules) = false by simpa using ns)
        refine ⟨_, Reads.dict (kvs := [(.str x, .int i)]) ho hc.1 hd (as := [] ++ []) (bs := [] ++ []) ?_ ?_, ?_⟩
        · rw [he]; show ReadsAll _ [en.key] _ _; rw [hk']; exact .cons (.str x t') .nil
        · rw [he]; show ReadsAll _ [en.val] _ _; rw [hv, h2]; exact .cons (.int i t) .nil
        · simp [Ne.symm ns']
theorem Dq.readsAll (I : Inv X pins σ H s) : ∀ (ds : List PyData) (vs : List V) (us : List Value), DqAll X.K N H vs ds → Vals vs us → ∃ as, ReadsAll s.heap us ds as ∧ sysModules ∉ as
  | [], _, _, h, r => by
    cases h; cases r; exact ⟨_, ReadsAll.nil, by simp⟩
  | d :: ds, _, _, h, r => by
    cases h with
    | cons h1 h2 =>
      cases r with
      | cons r1 r2 =>
        obtain ⟨as, q1, n1⟩ := Dq.reads I d _ _ h1 r1
        obtain ⟨bs, q2, n2⟩ := Dq.readsAll I ds _ _ h2 r2
        exact ⟨_, ReadsAll.cons q1 q2, by simp [n1, n2]⟩
end
end
/-! ### how deep, how long -/
structure Shq (dep n : Nat) (d : PyData) : Prop where
  sh : d.showable = true
  dp : d.depth ≤ dep
  ln : d.shown.length ≤ n
theorem Shq.mono {dep dep' n n' : Nat} {d : PyData} (h : Shq dep n d) (h1 : dep ≤ dep') (h2 : n ≤ n') : Shq dep' n' d := ⟨h.sh, Nat.le_trans h.dp h1, Nat.le_trans h.ln h2⟩
theorem Shw.q {dep n : Nat} {d : PyData} (h : Shw dep n d) : Shq dep n d := ⟨h.sh, h.dp, h.ln⟩
theorem shqAll {dep n : Nat} : ∀ {ds : List PyData}, (∀ d ∈ ds, Shq dep n d) → PyData.showableAll ds = true ∧ PyData.depthAll ds ≤ dep
  | [], _ => ⟨by simp only [PyData.showableAll], by simp [PyData.depthAll]⟩
  | d :: r, h => by
    obtain ⟨h1, h3⟩ := shqAll (ds := r) fun x hx => h x (List.mem_cons_of_mem _ hx)
    have g := h d List.mem_cons_self
    refine ⟨by simp only [PyData.showableAll, g.sh, h1, Bool.and_self], ?_⟩
    simp only [PyData.depthAll]
    exact Nat.max_le.mpr ⟨g.dp, h3⟩
theorem Shq.tuple {dep n m : Nat} {ds : List PyData} (h : ∀ d ∈ ds, Shq dep n d) (hm : ds.length ≤ m) : Shq (dep + 1) (m * (n + 2) + 3) (.tuple ds) := by
  obtain ⟨h1, h3⟩ := shqAll h
  refine ⟨by simp only [PyData.showable, h1], by simp only [PyData.depth]; omega, ?_⟩
  simp only [PyData.shown]
  rw [shownAll_map]
  have a1 := tupleText_len (ds.map PyData.shown)
  have a2 := piled_le fun d hd => (h d hd).ln
  have a3 : ds.length * (n + 2) ≤ m * (n + 2) := Nat.mul_le_mul_right _ hm
  omega
theorem Shq.list {dep n m : Nat} {ds : List PyData} (h : ∀ d ∈ ds, Shq dep n d) (hm : ds.length ≤ m) : Shq (dep + 1) (m * (n + 2) + 3) (.list ds) := by
  obtain ⟨h1, h3⟩ := shqAll h
  refine ⟨by simp only [PyData.showable, h1], by simp only [PyData.depth]; omega, ?_⟩
  simp only [PyData.shown]
  rw [shownAll_map]
  have a1 := listText_len (ds.map PyData.shown)
  have a2 := piled_le fun d hd => (h d hd).ln
  have a3 : ds.length * (n + 2) ≤ m * (n + 2) := Nat.mul_le_mul_right _ hm
  omega
/-! ### repr of such data -/
def rReprQ (K : PySem.W.Frag) : List V → Hp → VK → Prop := fun xs H Q => ∃ (N : Addr → Prop) (v : V) (d : PyData), xs = [v] ∧ Dq K N H v d ∧ Shq 60 sizeLine d ∧ Q (.str d.shown) H
theorem call_reprQ {X : Cx} {k : Nat} (gd : X.A.guards = some []) (hr : Room k X.A) : CallR X (.builtin "repr") (rReprQ X.K) := by
  intro pins s σ H xs us Q I rv h
  obtain ⟨N, v, d, rfl, hd, hs, q⟩ := h
  obtain ⟨u, rfl, rx⟩ := vals1 rv
  have isref : ∀ (l : Addr), v = .ref l → wpAny (model X.prog X.w) X.A (call (.builtin "repr") [u]) (EP X pins σ Q) X.xe s := fun l e => by
    subst e
    obtain ⟨as, r, hn⟩ := Dq.reads I d _ _ hd rx
    obtain rfl : u = .ref l := rx
    exact repr_of_reads' r hs.sh (fun _ => hn) gd (by have := hr.un; have := hs.dp; omega) (fun _ _ e => e) (fun h' t tk hk => ⟨.str d.shown, H, I.kept hk, ⟨t, rfl⟩, q⟩) hs.ln
  cases hd with
  | non => obtain rfl : u = .none := rx; exact PySem.P.repr_of_none ⟨.str "None", H, I.tok _, ⟨_, rfl⟩, by simpa only [PyData.shown] using q⟩
  | bl b => obtain rfl : u = .bool b := rx; exact PySem.P.repr_of_bool ⟨.str _, H, I.tok _, ⟨_, rfl⟩, by simpa only [PyData.shown] using q⟩
  | int i =>
    obtain ⟨t, rfl⟩ := rx
    have h1 : i.natAbs.log2 < 1920 := by simpa only [PyData.showable, decide_eq_true_eq] using hs.sh
    exact PySem.P.repr_of_int h1 ⟨.str _, H, I.tok _, ⟨_, rfl⟩, by simpa only [PyData.shown] using q⟩
  | str x =>
    obtain ⟨t, rfl⟩ := rx
    have h1 : (reprText x).length ≤ sizeLine := by simpa only [PyData.shown] using hs.ln
    exact PySem.P.repr_of_str ⟨.str _, H, I.tok _, ⟨_, rfl⟩, by simpa only [PyData.shown] using q⟩ h1
  | lst _ _ _ _ => exact isref _ rfl
  | tup _ _ => exact isref _ rfl
  | dct0 _ => exact isref _ rfl
  | dct1 _ => exact isref _ rfl
end Pr
/-! Rules for what the laws do with values of any kind. -/
namespace Pr
open PySem PySem.Spec PyProof.Rows L2
section
variable {X : Cx} {es : List Expr} {t : TA} {pos : Pos}
/-- a list that stands apart from the modules' table -/
def tLstG (t : TA) : TE := fun σ H Q => t σ H fun xs H1 => xs.length ≤ sizeLine ∧ ∀ p, H1 p = none → p ≠ sysModules → Q (.ref p) (upd H1 p (.lst xs))
theorem pe_lstG (h : PA X es t) : PE X (.List es pos) (tLstG t) := by
  refine ⟨fun pins s σ H Q I hq => wpAny_List_spliced (thn (h.run pos pins s σ H _ I hq) fun us s1 ⟨xs, H1, I1, r, z, q⟩ => ⟨by rw [← r.length]; exact z, ?_⟩)⟩
  refine ⟨.ref s1.heap.objs.size, upd H1 s1.heap.objs.size (.lst xs), I1.laid (t' := s1.toks) (fun b u e => Heap.get?_push_of_some _ e) (Nat.le_refl _) ⟨z, us, 0, r, Heap.get?_push_size _ rfl⟩, rfl,
    q _ (I1.hok.fresh (Nat.le_refl _)) (Nat.ne_of_gt I1.big)⟩
def rListG (K : PySem.W.Frag) : List V → Hp → VK → Prop := fun xs H Q => ∃ p ys, xs = [.ref p] ∧ SqT K H p ys ∧ ∀ l, H l = none → l ≠ sysModules → Q (.ref l) (upd H l (.lst ys))
theorem call_listG : CallR X (.type "list") (rListG X.K) := by
  intro pins s σ H xs us Q I r h
  obtain ⟨p, ys, rfl, hq, q⟩ := h
  obtain ⟨u, rfl, rx⟩ := vals1 r
  cases rx
  obtain ⟨its, r', ⟨o, ho, hc, n, hd⟩, hz⟩ := I.tuple hq
  have hlen := r'.length
  refine call_list_seq p (.inr rfl) ho hc hd (fun h' c' kp e => ?_) (by simp only [List.size_toArray] <;> omega)
  exact ⟨.ref s.heap.objs.size, _, I.laid (t' := s.toks) kp (Nat.le_refl _) (show ObjOk X.prog X.w _ h' _ (.lst ys) from ⟨hz, its, c', r', e⟩), rfl, q _ (I.hok.fresh (Nat.le_refl _)) (Nat.ne_of_gt I.big)⟩
/-- sorted(tuple of ints) -/
def rSortT (K : PySem.W.Frag) : List V → Hp → VK → Prop := fun vs H Q => ∃ (a : Addr) (ns : List Int), vs = [V.ref a] ∧ SqT K H a (ns.map V.int) ∧ ns.length < 64 ∧
  ∀ (ns' : List Int) (p : Addr), ns'.Perm ns → ns'.Pairwise (· ≤ ·) → H p = none → Q (.ref p) (upd H p (.lst (ns'.map V.int)))
theorem cr_sortT : CallR X (.builtin "sorted") (rSortT X.K) := by
  intro pins s σ H vs us Q I r h
  obtain ⟨a, ns, rfl, hs, h64, q⟩ := h
  obtain ⟨its, rv, ⟨o, ho, hc, n, hd⟩, hz⟩ := I.tuple hs
  rw [Vals.ref1 r]
  have hi := rv.ints
  have hlen := hi.length
  refine Calls.call_function_entry kind_sorted plain_sorted entry_sorted (args_sorted1 _) ?_
  unfold Builtin.«sorted»
  refine wpAny_bind (m := checkCount "sorted" 1 1 _) (wpAny_pure ?_)
  refine wpAny_bind (wpAny_collect_seq a (.inr rfl) ho hc hd (fun h' kp => ?_) (by rw [List.size_toArray, hlen]; exact small64 h64))
  have e : its.toArray.toList = its := by simp
  rw [e]
  refine wpAny_bind (wpAny_newList ?_)
  have I1 : Inv X pins σ H { s with heap := h' } := I.kept (t' := s.toks) kp
  have hoL : (h'.push (seqObj "list" its.toArray 0)).get? h'.objs.size = some (seqObj "list" its.toArray 0) := Heap.get?_push_size _ rfl
  refine wpAny_bind (wpAny_holding (wpAny_call_entry slot_list_sort ⟨_, hoL, rfl⟩ entry_list_sort (list_sort_tree hoL hi (by rw [hlen]; exact h64) fun out ns' a1 a2 a3 => ⟨_, rfl, ?_⟩) (args_list_sort _)))
  obtain ⟨ep, he'⟩ := PyProof.Rows.sortedHeap_at (vs := its) (out := out) hoL
  have hl2 : (ns'.map V.int).length ≤ sizeLine := by rw [List.length_map, a2.length_eq]; exact small64 h64
  refine wpAny_pure ⟨_, rfl, .ref h'.objs.size, upd H h'.objs.size (.lst (ns'.map V.int)), I1.laid (t' := s.toks) (fun b ob q => ?_) (Nat.le_refl _) ⟨hl2, out.toList, ep, vals_of_ints a1, he'⟩, rfl, q ns' _ a2 a3 (I1.hok.fresh (Nat.le_refl _))⟩
  have hb : b < h'.objs.size := Heap.lt_size q
  rw [PyProof.Rows.sortedHeap_old (Nat.ne_of_lt hb) (by rw [Heap.size_push]; exact Nat.lt_succ_of_lt hb)]
  exact Heap.get?_push_of_some _ q
/-- set(tuple of ints) -/
def rSetI (K : PySem.W.Frag) (w : World) : List V → Hp → VK → Prop := fun vs H Q => ∃ (a : Addr) (ns : List Int), vs = [V.ref a] ∧ SqT K H a (ns.map V.int) ∧ ns.length ≤ 200 ∧
  ∀ (l : Addr) (n : Nat), H l = none → n ≤ ns.length → Q (.ref l) (upd H l (SetO w l (fun j => decide (j ∈ ns)) n))
theorem cr_setI (hc : X.calm = true) : CallR X (.type "set") (rSetI X.K X.w) := by
  intro pins s σ H vs us Q I r h
  obtain ⟨a, ns, rfl, hs, hn, q⟩ := h
  obtain ⟨its, rv, pt, hz⟩ := I.tuple hs
  rw [Vals.ref1 r]
  have hi := rv.ints
  refine call_set_tupI ns (I.ok.hd hc) pt (by simpa using hi) (Nat.lt_of_le_of_lt (Nat.add_le_add_right hn 1) (by decide)) fun h' tk n R hn' kp => ?_
  exact ⟨.ref s.heap.objs.size, _, I.laid (t' := tk) kp (Nat.le_refl _) (setO_new R), rfl, q _ n (I.hok.fresh (Nat.le_refl _)) hn'⟩
end
/-! ### t[::-1] -/
section
variable {prog : Program} {w : World} {A : Around} {E : Value → Shared → Prop} {s : Shared}
theorem fm_congr {f g : Nat → Option Value} : ∀ {l : List Nat}, (∀ x ∈ l, f x = g x) → l.filterMap f = l.filterMap g
  | [], _ => rfl
  | x :: r, h => by
    rw [List.filterMap_cons, List.filterMap_cons, h x List.mem_cons_self, fm_congr fun y hy => h y (List.mem_cons_of_mem _ hy)]
theorem pick_back (l : List Value) : (List.range l.length).filterMap (fun (k : Nat) => l[(((l.length : Int) - 1) + (k : Int) * (-1)).toNat]?) = l.reverse := by
  have h1 : (List.range l.length).filterMap (fun (k : Nat) => l[(((l.length : Int) - 1) + (k : Int) * (-1)).toNat]?) = (List.range l.length).filterMap (fun (k : Nat) => some ((l[l.length - 1 - k]?).getD .none)) := by
    refine fm_congr fun k hk => ?_
    have hk' := List.mem_range.mp hk
    rw [show (((l.length : Int) - 1) + (k : Int) * (-1)).toNat = l.length - 1 - k by omega, List.getElem?_eq_getElem (by omega)]; rfl
  rw [h1, show (fun (k : Nat) => some ((l[l.length - 1 - k]?).getD Value.none)) = some ∘ (fun k : Nat => (l[l.length - 1 - k]?).getD Value.none) from rfl, List.filterMap_eq_map]
  refine List.ext_getElem? fun i => ?_
  by_cases hi : i < l.length
  · rw [List.getElem?_map, List.getElem?_range hi, List.getElem?_reverse hi, List.getElem?_eq_getElem (by omega)]
    show some ((l[l.length - 1 - i]?).getD Value.none) = _
    rw [List.getElem?_eq_getElem (by omega)]; rfl
  · rw [List.getElem?_eq_none (by rw [List.length_map, List.length_range]; omega), List.getElem?_eq_none (by rw [List.length_reverse]; omega)]
theorem getItem_tuple_back {t sl : Addr} {its : List Value} {Q : Value → Shared → Prop} {vs : Value} (ht : IsTup s.heap t its.toArray) (hs : s.heap.IsSliceOf sl .none .none vs) (ps : IsPart vs (some (-1)))
    (h : Q (.ref s.heap.objs.size) { s with heap := s.heap.push { cls := .type "tuple", data := .seq its.reverse.toArray } }) (hsz : its.length ≤ sizeLine) : wpAny (model prog w) A (getItem (.ref t) (.ref sl)) Q E s := by
  obtain ⟨os, hos, hcs, hds⟩ := id hs
  have hTs : s.TypeIs (.ref sl) "slice" := ⟨os, hos, hcs⟩
  unfold getItem
  try with_reducible refine wpAny_holding ?_
  first | refine wpAny_bind (wpAny_pure ?_) | skip
  refine wpAny_bind (wpAny_sequenceKey ht.typeIs (by decide) ?_)
  refine wpAny_bind (wpAny_callSpecial?_slot (name := Str.ofString "__getitem__") ht.typeIs PyProof.Rows.slot_tuple_getitem (wpAny_call_entry PyProof.Rows.slot_tuple_getitem ht.typeIs entry_tuple_getitem ?_ (args_tuple_getitem _ _)))
  show wpAny _ _ (Builtin.Tuple.tupleItemsOf (.ref t) >>= _) _ _ s
  refine wpAny_bind (tupleItemsOf_ ht (wpAny_bind (wpAny_typeOf hTs ?_)))
  rw [if_pos (by decide)]
  have hp : Builtin.Slice.slicePlaces ((its.length : Int) - 1) (-1) (-1) = its.length := by
    unfold Builtin.Slice.slicePlaces
    rw [if_neg (by omega)]
    split
    · simp only [Int.neg_neg, Int.ediv_one]; omega
    · omega
  refine wpAny_bind ?_
  unfold Builtin.Slice.sliceApplied Builtin.Slice.sliceFields
  refine wpAny_bind (wpAny_bind (wpAny_field hos hds (x := .none) rfl (wpAny_bind (wpAny_field hos hds (x := .none) rfl (wpAny_bind (wpAny_field hos hds (x := vs) rfl (wpAny_pure ?_)))))))
  refine wpAny_bind (HT.slicePart_ ps ?_)
  show wpAny _ _ (if ((-1 : Int) == 0) = true then _ else _) _ _ s
  rw [if_neg (by decide)]
  refine wpAny_bind (slicePart_none (wpAny_bind (slicePart_none (wpAny_bind (wpAny_pure ?_)))))
  show wpAny _ _ (pure (((its.toArray.size : Nat) : Int) - 1, (-1 : Int), Builtin.Slice.slicePlaces (((its.toArray.size : Nat) : Int) - 1) (-1) (-1))) _ _ s
  rw [List.size_toArray, hp]
  refine wpAny_pure ?_
  show wpAny _ _ (if ((((its.length : Nat) : Int) - 1 == 0 && (-1 : Int) == 1 && its.length == its.toArray.size) = true) then _ else _) _ _ s
  rw [if_neg (by rw [show ((-1 : Int) == 1) = false by decide, Bool.and_false, Bool.false_and]; exact Bool.false_ne_true)]
  have ep : ((List.range its.length).filterMap fun (k : Nat) => its.toArray[((its.length : Int) - 1 + (k : Int) * (-1)).toNat]?).toArray = its.reverse.toArray := by
    have := pick_back its
    simp only [List.getElem?_toArray]
    rw [this]
  rw [ep]
  have htake : sizeOk (.seq its.reverse.toArray) := by
    show its.reverse.toArray.size ≤ sizeLine
    rw [List.size_toArray, List.length_reverse]; exact hsz
  first
    | exact wpAny_bind (m := Builtin.Tuple.tupleExact _) (wpAny_newObj_type (wpAny_pure ⟨_, rfl, wpAny_pure h⟩) htake)
    | exact wpAny_bind (m := Builtin.Tuple.tupleExact _) (wpAny_newObj_type (wpAny_bind (wpAny_pure (wpAny_pure ⟨_, rfl, wpAny_pure h⟩))) htake)
    | exact wpAny_bind (wpAny_bind (m := Builtin.Tuple.tupleExact _) (wpAny_newObj_type (wpAny_pure (wpAny_pure ⟨_, rfl, wpAny_pure h⟩)) htake))
    | exact wpAny_bind (wpAny_bind (m := Builtin.Tuple.tupleExact _) (wpAny_newObj_type (wpAny_pure ⟨_, rfl, wpAny_pure h⟩) htake))
end
section
variable {X : Cx}
def tRevT (K : PySem.W.Frag) (te : TE) : TE := fun σ H Q => te σ H fun x H1 => ∃ a xs, x = .ref a ∧ SqT K H1 a xs ∧ ∀ p, H1 p = none → Q (.ref p) (upd H1 p (.tup xs.reverse))
theorem pe_revT {e : Expr} {te : TE} {k : Nat} {p1 p2 p3 pos : Pos} (he : PE X e te) : PE X (.Subscript e (.Slice none none (some (.UnaryOp .USub (.Constant (.int 1) k p1) p2)) p3) pos) (tRevT X.K te) := by
  refine ⟨fun pins s σ H Q I h => Subscript_ (thn (he.run pins s σ H _ I h) fun v s1 ⟨x, H1, I1, r1, a, xs, ex, hx, q⟩ => ?_)⟩
  subst ex
  cases r1
  have hst : PO X (some (.UnaryOp .USub (.Constant (.int 1) k p1) p2)) (tPart (tUn (rU fun i => .int (-i)) (tC (.int 1)))) := po_some (pe_un un_neg pe_int)
  refine wpAny_Slice (thn (po_none.run pins s1 σ H1 (fun o H2 => o = none ∧ H2 = H1) I1 ⟨rfl, rfl⟩) fun vl s2 ⟨l, H2, I2, pl, el, e2⟩ => ?_)
  subst el e2
  refine thn (po_none.run pins s2 σ H2 (fun o H3 => o = none ∧ H3 = H2) I2 ⟨rfl, rfl⟩) fun vu s3 ⟨u, H3, I3, pu, eu, e3⟩ => ?_
  subst eu e3
  refine thn (hst.run pins s3 σ H3 (fun o H4 => o = some (-1) ∧ H4 = H3) I3 ⟨1, rfl, -1, rfl, rfl, rfl⟩) fun vs s4 ⟨o, H4, I4, ps, eo, e4⟩ => ?_
  subst eo e4
  cases pl
  cases pu
  have I5 : Inv X pins σ H4 { s4 with heap := s4.heap.push { cls := .type "slice", data := .fields #[.none, .none, vs] } } := I4.kept (t' := s4.toks) fun b ob q => Heap.get?_push_of_some _ q
  obtain ⟨its, r, ht, hz⟩ := I5.tuple hx
  have hlen := r.length
  show wpAny (model X.prog X.w) X.A (subscriptTail e (.Slice none none (some (.UnaryOp .USub (.Constant (.int 1) k p1) p2)) p3) (.ref a) (.ref s4.heap.objs.size)) (EP X pins σ Q) X.xe { s4 with heap := s4.heap.push { cls := .type "slice", data := .fields #[.none, .none, vs] } }
  refine tail_any (ops := [.ref a, .ref s4.heap.objs.size]) ht.typeIs (PyProof.Rows.slot_tuple_getitem.lookup) ?_ (by with_unfolding_all rfl)
  refine getItem_tuple_back ht (Heap.IsSliceOf.new _ .none .none vs) ps ?_ (by omega)
  refine ⟨.ref _, _, I5.laid (t' := s4.toks) (o := .tup xs.reverse) (fun b ob q => Heap.get?_push_of_some _ q) (Nat.le_refl _) ?_, rfl, q _ (I5.hok.fresh (Nat.le_refl _))⟩
  exact ⟨by rw [List.length_reverse]; exact hz, _, r.reverse, IsTup.new _ _⟩
end
end Pr
/-! Expressions that make data and leave all that stood. -/
namespace Pr
open PySem PySem.Spec PyProof.Rows L2
section
variable (K : PySem.W.Frag) (N : Addr → Prop) (σ : L2.St) (H0 : Hp)
def Ev (t : TE) (P : PyData → Prop) : Prop := ∀ (H : Hp) (Q : VK), Same H0 H → (∀ v d H', Same H H' → Dq K N H' v d → P d → Q v H') → t σ H Q
def EvA (t : TA) (P : List PyData → Prop) : Prop := ∀ (H : Hp) (Q : List V → Hp → Prop), Same H0 H → (∀ vs ds H', Same H H' → DqAll K N H' vs ds → P ds → Q vs H') → t σ H Q
end
/-- n items of which P holds -/
def AllP (P : PyData → Prop) (n : Nat) (ds : List PyData) : Prop := ds.length = n ∧ ∀ d ∈ ds, P d
/-- a tuple of at most n items of which P holds -/
def TupP (P : PyData → Prop) (n : Nat) (d : PyData) : Prop := ∃ ds, d = .tuple ds ∧ ds.length ≤ n ∧ ∀ x ∈ ds, P x
def LstP (P : PyData → Prop) (n : Nat) (d : PyData) : Prop := ∃ ds, d = .list ds ∧ ds.length ≤ n ∧ ∀ x ∈ ds, P x
theorem AllP.nil {P : PyData → Prop} : AllP P 0 [] := ⟨rfl, fun _ h => by cases h⟩
theorem AllP.cons {P : PyData → Prop} {n : Nat} {d : PyData} {ds : List PyData} (h : P d) (r : AllP P n ds) : AllP P (n + 1) (d :: ds) :=
  ⟨by rw [List.length_cons, r.1], fun x hx => by
    rcases List.mem_cons.mp hx with rfl | hx
    · exact h
    · exact r.2 x hx⟩
theorem AllP.append {P : PyData → Prop} {n m : Nat} {ds es : List PyData} (h : AllP P n ds) (r : AllP P m es) : AllP P (n + m) (ds ++ es) :=
  ⟨by rw [List.length_append, h.1, r.1], fun x hx => (List.mem_append.mp hx).elim (h.2 x) (r.2 x)⟩
theorem AllP.mono {P P' : PyData → Prop} {n : Nat} {ds : List PyData} (h : AllP P n ds) (f : ∀ d, P d → P' d) : AllP P' n ds := ⟨h.1, fun d hd => f d (h.2 d hd)⟩
theorem TupP.mono {P P' : PyData → Prop} {n m : Nat} {d : PyData} (h : TupP P n d) (f : ∀ d, P d → P' d) (hm : n ≤ m) : TupP P' m d :=
  let ⟨ds, e, l, q⟩ := h; ⟨ds, e, Nat.le_trans l hm, fun x hx => f x (q x hx)⟩
section
variable {K : PySem.W.Frag} {N : Addr → Prop} {σ : L2.St} {H0 : Hp} {P P' : PyData → Prop} {t t1 t2 : TE} {ta : TA}
theorem Ev.weak (h : Ev K N σ H0 t P) (f : ∀ d, P d → P' d) : Ev K N σ H0 t P' := fun H Q s k => h H Q s fun v d H' s' hd hp => k v d H' s' hd (f d hp)
theorem EvA.weak {R R' : List PyData → Prop} (h : EvA K N σ H0 ta R) (f : ∀ d, R d → R' d) : EvA K N σ H0 ta R' := fun H Q s k => h H Q s fun v d H' s' hd hp => k v d H' s' hd (f d hp)
theorem ev_int {i : Int} (h : P (.int i)) : Ev K N σ H0 (tC (.int i)) P := fun H Q s k => k _ _ H (Same.refl _) (.int i) h
theorem ev_bl {b : Bool} (h : P (.bool b)) : Ev K N σ H0 (tC (.bl b)) P := fun H Q s k => k _ _ H (Same.refl _) (.bl b) h
theorem ev_non (h : P .none) : Ev K N σ H0 (tC .non) P := fun H Q s k => k _ _ H (Same.refl _) .non h
theorem ev_str {x : Str} (h : P (.str x)) : Ev K N σ H0 (tC (.str x)) P := fun H Q s k => k _ _ H (Same.refl _) (.str x) h
theorem ev_neg {i : Int} (h : P (.int (-i))) : Ev K N σ H0 (tUn (rU fun i => .int (-i)) (tC (.int i))) P := fun H Q s k => ⟨i, rfl, k _ _ H (Same.refl _) (.int (-i)) h⟩
theorem ev_pow {i j : Int} (hc : CPow i j) (h : P (.int (i ^ j.toNat))) : Ev K N σ H0 (tOp (rI CPow fun i j => .int (i ^ j.toNat)) (tC (.int i)) (tC (.int j))) P := fun H Q s k => ⟨i, j, rfl, rfl, hc, k _ _ H (Same.refl _) (.int _) h⟩
theorem ev_var (i : Nat) {v : V} {d : PyData} (hv : σ[i]? = some (some v)) (hd : Dq K N H0 v d) (h : P d) : Ev K N σ H0 (tVar i) P := fun H Q s k => ⟨v, hv, k _ _ H (Same.refl _) (Dq.same s d v hd) h⟩
theorem eva_nil {R : List PyData → Prop} (h : R []) : EvA K N σ H0 tNil R := fun H Q s k => k [] [] H (Same.refl _) .nil h
theorem eva_cons {n : Nat} (h : Ev K N σ H0 t P) (r : EvA K N σ H0 ta (AllP P n)) : EvA K N σ H0 (tCons t ta) (AllP P (n + 1)) := fun H Q s k =>
  h H _ s fun v d H1 s1 hd hp => r H1 _ (s.trans s1) fun vs ds H2 s2 hds hps => k (v :: vs) (d :: ds) H2 (s1.trans s2) (.cons (Dq.same s2 d v hd) hds) (hps.cons hp)
theorem eva_consE {d : PyData} {ds : List PyData} (h : Ev K N σ H0 t (· = d)) (r : EvA K N σ H0 ta (· = ds)) : EvA K N σ H0 (tCons t ta) (· = d :: ds) := fun H Q s k =>
  h H _ s fun v d' H1 s1 hd hp => r H1 _ (s.trans s1) fun vs ds' H2 s2 hds hps => k (v :: vs) (d' :: ds') H2 (s1.trans s2) (.cons (Dq.same s2 d' v hd) hds) (by rw [hp, hps])
theorem ev_tup {R : List PyData → Prop} (h : EvA K N σ H0 ta R) (hz : ∀ ds, R ds → ds.length ≤ 1000) (f : ∀ ds, R ds → P (.tuple ds)) : Ev K N σ H0 (tTup ta) P := fun H Q s k =>
  h H _ s fun vs ds H1 s1 hds hp => ⟨by rw [hds.length]; exact Nat.le_of_lt (small1000 (hz ds hp)), fun p np => k _ _ _ (s1.trans (same_new np)) (.tup (.inl (.inl upd_same)) (Dq.sameAll (same_new np) ds vs hds)) (f ds hp)⟩
theorem ev_lst {R : List PyData → Prop} (kN : ∀ x, N x → H0 x ≠ none) (h : EvA K N σ H0 ta R) (hz : ∀ ds, R ds → ds.length ≤ 1000) (f : ∀ ds, R ds → P (.list ds)) : Ev K N σ H0 (tLstG ta) P := fun H Q s k =>
  h H _ s fun vs ds H1 s1 hds hp => ⟨by rw [hds.length]; exact Nat.le_of_lt (small1000 (hz ds hp)), fun p np hsys => by
    have fr : ¬ N p := fun e => by
      cases hh : H0 p with
      | none => exact kN p e hh
      | some o => have := (s.trans s1) _ _ hh; rw [np] at this; cases this
    exact k _ _ _ (s1.trans (same_new np)) (.lst hsys fr upd_same (Dq.sameAll (same_new np) ds vs hds)) (f ds hp)⟩
theorem ev_dct0 (h : P (.dict [])) : Ev K N σ H0 tDNewK P := fun H Q s k p np => k _ _ _ (same_new np) (.dct0 upd_same) h
theorem ev_dct1 {x : Str} {i : Int} (h : P (.dict [(.str x, .int i)])) : Ev K N σ H0 (tDisp [(tC (.str x), tC (.int i))]) P := fun H Q s k p np =>
  ⟨upd_same, [(Sum.inr x, .int i)], rfl, (by show 1 ≤ 15; decide), by
    rw [upd_upd]
    exact k _ _ _ (same_new np) (.dct1 upd_same) h⟩
theorem ev_cat {n m : Nat} (h1 : Ev K N σ H0 t1 (TupP P n)) (h2 : Ev K N σ H0 t2 (TupP P m)) (hz : n + m ≤ 1000) (f : ∀ d, TupP P (n + m) d → P' d) : Ev K N σ H0 (tOp (rCatA K) t1 t2) P' := fun H Q s k =>
  h1 H _ s fun v1 d1 H1 s1 q1 ⟨ds, e1, l1, p1⟩ => h2 H1 _ (s.trans s1) fun v2 d2 H2 s2 q2 ⟨es, e2, l2, p2⟩ => by
    subst e1 e2
    cases q1 with
    | tup hs1 ha1 =>
      cases q2 with
      | tup hs2 ha2 =>
        have ha1' := Dq.sameAll s2 ds _ ha1
        have hcat := ha1'.append ha2
        have hP : ∀ x ∈ ds ++ es, P x := fun x hx => (List.mem_append.mp hx).elim (p1 x) (p2 x)
        have lz := hcat.length
        rw [List.length_append, List.length_append] at lz
        refine ⟨_, _, _, _, rfl, rfl, same_sqT s2 hs1, hs2, by rw [lz]; exact Nat.le_of_lt (small1000 (by omega)), fun e => ?_, fun _ e => ?_, fun _ _ p np => ?_⟩
        · subst e
          cases ha1'
          exact k _ _ _ (s1.trans s2) (.tup hs2 ha2) (f _ ⟨es, rfl, by omega, p2⟩)
        · subst e
          cases ha2
          exact k _ _ _ (s1.trans s2) (.tup (same_sqT s2 hs1) ha1') (f _ ⟨ds, rfl, by omega, p1⟩)
        · exact k _ _ _ ((s1.trans s2).trans (same_new np)) (.tup (.inl (.inl upd_same)) (Dq.sameAll (same_new np) _ _ hcat)) (f _ ⟨ds ++ es, rfl, by rw [List.length_append]; omega, hP⟩)
theorem ev_cut {n : Nat} {tl th : TO} {lo hi : Option Int} (h : Ev K N σ H0 t (TupP P n)) (hl : ∀ (H : Hp) (Q : Option Int → Hp → Prop), Q lo H → tl σ H Q) (hh : ∀ (H : Hp) (Q : Option Int → Hp → Prop), Q hi H → th σ H Q) (f : ∀ d, TupP P n d → P' d) :
    Ev K N σ H0 (tSl (rSlA K) t tl th) P' := fun H Q s k =>
  h H _ s fun v d H1 s1 q ⟨ds, e, l, p⟩ => by
    subst e
    refine hl _ _ (hh _ _ ?_)
    cases q with
    | @tup ad xs _ hs ha =>
      refine ⟨_, _, rfl, hs, fun _ => k _ _ _ s1 (.tup hs ha) (f _ ⟨ds, rfl, l, p⟩), fun _ p' np => k _ _ _ (s1.trans (same_new np)) (.tup (.inl (.inl upd_same)) (Dq.sameAll (same_new np) _ _ ((ha.drop _).take _))) (f _ ⟨_, rfl, ?_, fun x hx => p x (List.mem_of_mem_drop (List.mem_of_mem_take hx))⟩)⟩
      rw [List.length_take, List.length_drop]; omega
theorem ev_rev {n : Nat} (h : Ev K N σ H0 t (TupP P n)) (f : ∀ d, TupP P n d → P' d) : Ev K N σ H0 (tRevT K t) P' := fun H Q s k =>
  h H _ s fun v d H1 s1 q ⟨ds, e, l, p⟩ => by
    subst e
    cases q with
    | tup hs ha => exact ⟨_, _, rfl, hs, fun p' np => k _ _ _ (s1.trans (same_new np)) (.tup (.inl (.inl upd_same)) (Dq.sameAll (same_new np) _ _ ha.reverse)) (f _ ⟨ds.reverse, rfl, by rw [List.length_reverse]; exact l, fun x hx => p x (List.mem_reverse.mp hx)⟩)⟩
theorem ev_list {n : Nat} (kN : ∀ x, N x → H0 x ≠ none) (h : Ev K N σ H0 t (TupP P n)) (f : ∀ d, LstP P n d → P' d) : Ev K N σ H0 (tCB (rListG K) (tCons t tNil)) P' := fun H Q s k =>
  h H _ s fun v d H1 s1 q ⟨ds, e, l, p⟩ => by
    subst e
    cases q with
    | tup hs ha =>
      refine ⟨_, _, rfl, hs, fun p' np hsys => ?_⟩
      have fr : ¬ N p' := fun e => by
        cases hh : H0 p' with
        | none => exact kN p' e hh
        | some o => have := (s.trans s1) _ _ hh; rw [np] at this; cases this
      exact k _ _ _ (s1.trans (same_new np)) (.lst hsys fr upd_same (Dq.sameAll (same_new np) _ _ ha)) (f _ ⟨ds, rfl, l, p⟩)
theorem ev_rep {n : Nat} {k : Int} (h : Ev K N σ H0 t (fun d => TupP P n d ∧ d ≠ .tuple [])) (hk : 2 ≤ k) (hk2 : k ≤ 1000) (hn : n ≤ 1000) (f : ∀ d, TupP P (k.toNat * n) d → P' d) : Ev K N σ H0 (tOp (rRepT K) t (tC (.int k))) P' := fun H Q s kk =>
  h H _ s fun v d H1 s1 q ⟨⟨ds, e, l, p⟩, ne⟩ => by
    subst e
    cases q with
    | @tup ad xs _ hs ha =>
      have hlen := ha.length
      refine ⟨_, k, _, rfl, rfl, hs, fun e => ?_, hk, hk2, by omega, fun p' np => kk _ _ _ (s1.trans (same_new np)) (.tup (.inl (.inl upd_same)) (Dq.sameAll (same_new np) _ _ (ha.rep k.toNat))) (f _ ⟨_, rfl, ?_, fun x hx => ?_⟩)⟩
      · subst e
        cases ha
        exact ne rfl
      · rw [PyProof.Rows.lm_len_rep_flat]
        exact Nat.mul_le_mul_left _ l
      · obtain ⟨l', h1, h2⟩ := List.mem_flatten.mp hx
        rw [List.mem_replicate] at h1
        rw [h1.2] at h2
        exact p x h2
end
end Pr
/-! Buttons, ascending tuples of them and the errors of panels, over data of any kind. -/
namespace Pr
open PySem PySem.Spec PyProof.Rows L2
theorem list_neL (l : Addr) (items : Array Value) (n : Nat) (b : Addr) (items2 : Array Value) (n2 : Nat) (hc0 : (items.size != items2.size) = true) :
    Meets (Builtin.«list.__ne__» ⟨[.ref l, .ref b], []⟩) (fun _ R s => s.heap.get? l = some { cls := .type "list", dict := none, data := .seq items n, slots := #[] } ∧ s.heap.get? b = some { cls := .type "list", dict := none, data := .seq items2 n2, slots := #[] } ∧ R (.ok (.ret (Value.bool (CmpOp.NotEq == CmpOp.NotEq)))) { s with heap := s.heap, toks := s.toks }) :=
  .of_wp fun prog w A R s h => by
    obtain ⟨hp, g, d, tk, os⟩ := s; obtain ⟨hl, hb, h⟩ := h
    have f3 := AutoSeq1.sub_list_list
    wp_walk using AutoSeq1.wpAny_loadPart' hl, AutoSeq1.wpAny_loadPart' hb
    exact ⟨_, rfl, h⟩
section
variable {X : Cx}
/-- xs != [], two lists that stand -/
def rNeE : R2 := fun x y H Q => ∃ l b xs, x = .ref l ∧ y = .ref b ∧ H l = some (.lst xs) ∧ H b = some (.lst []) ∧ Q (.bl (!xs.isEmpty)) H
theorem op_neE (hu : X.A.units + 64 < cLine) : OpR X (compareOp .NotEq) rNeE := by
  intro pins s σ H x y v u Q I rx ry h
  obtain ⟨l, b, xs, rfl, rfl, hl, hb, q⟩ := h
  by_cases e : xs = []
  · subst e
    exact op_neD hu pins s σ H _ _ v u Q I rx ry ⟨.list [], .list [], .lst (.inl (.inl hl)) .nil, .lst (.inl (.inl hb)) .nil, rfl, rfl, q⟩
  · cases rx
    cases ry
    obtain ⟨_, its, n, rv, ho⟩ := I.hok _ _ hl
    obtain ⟨_, its2, n2, rv2, ho2⟩ := I.hok _ _ hb
    cases rv2
    have hlen := rv.length
    have hne : its.toArray.size ≠ 0 := by
      rw [List.size_toArray, ← hlen]
      exact fun z => e (List.eq_nil_of_length_eq_zero z)
    have q' : Q (.bl true) H := by
      have : xs.isEmpty = false := by
        cases xs with
        | nil => exact absurd rfl e
        | cons _ _ => rfl
      rw [this] at q; exact q
    exact richCompare_meets_room (op := .NotEq) ⟨_, ho, rfl⟩ ⟨_, ho2, rfl⟩ PySem.F.slot_list_ne PySem.F.entry_list_ne (PySem.F.args_list_ne_2 _ _) (list_neL l its.toArray n b ([] : List Value).toArray n2 (by simpa using hne))
      ⟨ho, ho2, show Value.bool (CmpOp.NotEq == CmpOp.NotEq) ≠ Value.notImplemented ∧ _ from ⟨(fun z => nomatch z), .bl true, H, I, rfl, q'⟩⟩ (by omega)
end
/-! ### kinds -/
def isB : PyData → Bool
  | .bool _ => true
  | _ => false
theorem isB_kit {K : PySem.W.Frag} (d : PyData) : PySem.W.kitOne K (.type (tyD d)) (.type "bool") = some (isB d) := by
  cases d with
  | none => exact kit_ty (show kitB "NoneType" "bool" = some false by decide +kernel)
  | bool _ => exact kit_ty (show kitB "bool" "bool" = some true by decide +kernel)
  | int _ => exact kit_ty (show kitB "int" "bool" = some false by decide +kernel)
  | str _ => exact kit_ty (show kitB "str" "bool" = some false by decide +kernel)
  | list _ => exact kit_ty (show kitB "list" "bool" = some false by decide +kernel)
  | tuple _ => exact kit_ty (show kitB "tuple" "bool" = some false by decide +kernel)
  | dict _ => exact kit_ty (show kitB "dict" "bool" = some false by decide +kernel)
def isI : PyData → Bool
  | .bool _ => true
  | .int _ => true
  | _ => false
theorem isI_kit {K : PySem.W.Frag} (d : PyData) : PySem.W.kitOne K (.type (tyD d)) (.type "int") = some (isI d) := by
  cases d with
  | none => exact kit_ty (show kitB "NoneType" "int" = some false by decide +kernel)
  | bool _ => exact kit_ty (show kitB "bool" "int" = some true by decide +kernel)
  | int _ => exact kit_ty (show kitB "int" "int" = some true by decide +kernel)
  | str _ => exact kit_ty (show kitB "str" "int" = some false by decide +kernel)
  | list _ => exact kit_ty (show kitB "list" "int" = some false by decide +kernel)
  | tuple _ => exact kit_ty (show kitB "tuple" "int" = some false by decide +kernel)
  | dict _ => exact kit_ty (show kitB "dict" "int" = some false by decide +kernel)
def isT : PyData → Bool
  | .tuple _ => true
  | _ => false
theorem isT_kit {K : PySem.W.Frag} (d : PyData) : PySem.W.kitOne K (.type (tyD d)) (.type "tuple") = some (isT d) := by
  cases d with
  | none => exact kit_ty (show kitB "NoneType" "tuple" = some false by decide +kernel)
  | bool _ => exact kit_ty (show kitB "bool" "tuple" = some false by decide +kernel)
  | int _ => exact kit_ty (show kitB "int" "tuple" = some false by decide +kernel)
  | str _ => exact kit_ty (show kitB "str" "tuple" = some false by decide +kernel)
  | list _ => exact kit_ty (show kitB "list" "tuple" = some false by decide +kernel)
  | tuple _ => exact kit_ty (show kitB "tuple" "tuple" = some true by decide +kernel)
  | dict _ => exact kit_ty (show kitB "dict" "tuple" = some false by decide +kernel)
/-! ### the mathematics -/
def isBtn (n : Int) : PyData → Bool
  | .int i => decide (0 ≤ i) && decide (i < n)
  | _ => false
def ascFrom (n : Int) : Int → List PyData → Bool
  | _, [] => true
  | b, .int i :: r => decide (0 ≤ i) && decide (i < n) && decide (b < i) && ascFrom n i r
  | _, _ :: _ => false
def btnT (n : Int) : PyData → Bool
  | .tuple ds => ascFrom n (-1) ds
  | _ => false
def dErr (k : PyData) (x : Str) : PyData := .tuple [k, .str x]
def hasInt (k : Int) : PyData → Bool
  | .tuple ds => ds.any fun d => match d with | .int i => decide (i = k) | _ => false
  | _ => false
def errFrom (n : Int) : Nat → List PyData → PyData
  | _, [] => .none
  | k, d :: r => if btnT n d then (if hasInt (k : Int) d then dErr (.int (k : Int)) "itself" else errFrom n (k + 1) r) else dErr (.int (k : Int)) "list"
def errD : PyData → PyData
  | .tuple ds => if 1 ≤ ds.length ∧ ds.length ≤ 10 then errFrom (ds.length : Int) 0 ds else dErr .none "panel"
  | _ => dErr .none "panel"
theorem ascFrom_ints {n : Int} : ∀ {b : Int} {ds : List PyData}, ascFrom n b ds = true → ∃ ns : List Int, ds = ns.map PyData.int ∧ ns.Pairwise (· < ·) ∧ ∀ x ∈ ns, b < x ∧ 0 ≤ x ∧ x < n
  | b, [], _ => ⟨[], rfl, List.Pairwise.nil, fun _ h => by cases h⟩
  | b, d :: r, h => by
    cases d with
    | int i =>
      simp only [ascFrom, Bool.and_eq_true, decide_eq_true_eq] at h
      obtain ⟨ns, rfl, h2, h3⟩ := ascFrom_ints h.2
      refine ⟨i :: ns, rfl, List.pairwise_cons.mpr ⟨fun x hx => (h3 x hx).1, h2⟩, fun x hx => ?_⟩
      rcases List.mem_cons.mp hx with rfl | hx
      · exact ⟨h.1.2, h.1.1⟩
      · have := h3 x hx; omega
    | none => simp [ascFrom] at h
    | bool _ => simp [ascFrom] at h
    | str _ => simp [ascFrom] at h
    | list _ => simp [ascFrom] at h
    | tuple _ => simp [ascFrom] at h
    | dict _ => simp [ascFrom] at h
theorem ascFrom_of {n : Int} : ∀ {b : Int} {ns : List Int}, ns.Pairwise (· < ·) → (∀ x ∈ ns, b < x ∧ 0 ≤ x ∧ x < n) → ascFrom n b (ns.map PyData.int) = true
  | b, [], _, _ => rfl
  | b, i :: r, h, h2 => by
    rw [List.pairwise_cons] at h
    have hi := h2 i List.mem_cons_self
    simp only [List.map_cons, ascFrom, Bool.and_eq_true, decide_eq_true_eq]
    exact ⟨⟨⟨hi.2.1, hi.2.2⟩, hi.1⟩, ascFrom_of h.2 fun x hx => ⟨h.1 x hx, (h2 x (List.mem_cons_of_mem _ hx)).2⟩⟩
theorem hasInt_ints {k : Int} (ns : List Int) : hasInt k (.tuple (ns.map PyData.int)) = decide (k ∈ ns) := by
  show (ns.map PyData.int).any _ = _
  rw [List.any_map, Bool.eq_iff_iff, List.any_eq_true, decide_eq_true_eq]
  constructor
  · rintro ⟨x, hx, e⟩
    have e' : x = k := by simpa using e
    rw [← e']; exact hx
  · intro h
    exact ⟨k, h, by simp⟩
theorem dqAll_of_ints {K : PySem.W.Frag} {N : Addr → Prop} {H : Hp} : ∀ {xs : List V} {ns : List Int}, DqAll K N H xs (ns.map PyData.int) → xs = ns.map V.int
  | _, [], h => by cases h; rfl
  | _, x :: r, h => by
    cases h with
    | cons h1 h2 => cases h1; rw [List.map_cons, dqAll_of_ints h2]
theorem errFrom_drop {n : Int} {ds : List PyData} {i : Nat} {d : PyData} (h : ds[i]? = some d) : errFrom n i (ds.drop i) = if btnT n d then (if hasInt (i : Int) d then dErr (.int (i : Int)) "itself" else errFrom n (i + 1) (ds.drop (i + 1))) else dErr (.int (i : Int)) "list" := by
  have hi := (List.getElem?_eq_some_iff.mp h).1
  have : ds.drop i = d :: ds.drop (i + 1) := by
    rw [List.drop_eq_getElem_cons hi, (List.getElem?_eq_some_iff.mp h).2]
  rw [this]; rfl
theorem eqv_intsL : ∀ (ns ms : List Int), PyData.eqvAll (ns.map PyData.int) (ms.map PyData.int) = decide (ns = ms)
  | [], [] => by simp [PyData.eqvAll]
  | [], _ :: _ => by simp [PyData.eqvAll]
  | _ :: _, [] => by simp [PyData.eqvAll]
  | x :: r, y :: t => by
    simp only [List.map_cons, PyData.eqvAll, PyData.eqv, eqv_intsL r t]
    by_cases h : x = y <;> by_cases h2 : r = t <;> simp [h, h2]
theorem canLay_ints : ∀ ns : List Int, PyData.canLayAll0 (ns.map PyData.int) = true ∧ PyData.depthAll (ns.map PyData.int) = 0
  | [] => ⟨by simp [PyData.canLayAll0], by simp [PyData.depthAll]⟩
  | x :: r => by
    obtain ⟨h1, h2⟩ := canLay_ints r
    exact ⟨by simp [PyData.canLayAll0, PyData.canLay0, h1], by simp [PyData.depthAll, PyData.depth, h2]⟩
theorem shaped_ints (ns : List Int) : SeqAt.shaped (.list (ns.map PyData.int)) = true := by
  obtain ⟨h1, h2⟩ := canLay_ints ns
  simp [SeqAt.shaped, PyData.canLay0, PyData.depth, h1, h2]
end Pr
/-! Small data of any kind. -/
namespace Pr
open PySem PySem.Spec PyProof.Rows L2
def tlen : PyData → Bool
  | .tuple es => decide (es.length ≤ 60)
  | _ => true
def smlB : PyData → Bool
  | .tuple ds => ds.all tlen
  | _ => true
def lowB (d : PyData) : Bool := d.showable && decide (d.depth ≤ 3) && decide (d.shown.length ≤ 60) && tlen d && smlB d
/-- a small thing: at most three deep, at most sixty signs -/
def Low (d : PyData) : Prop := lowB d = true
theorem Low.shq {d : PyData} (h : Low d) : Shq 3 60 d := by
  simp only [Low, lowB, Bool.and_eq_true, decide_eq_true_eq] at h
  exact ⟨h.1.1.1.1, h.1.1.1.2, h.1.1.2⟩
theorem Low.len {d : PyData} (h : Low d) : tlen d = true := by
  simp only [Low, lowB, Bool.and_eq_true, decide_eq_true_eq] at h
  exact h.1.2
theorem Low.sml {d : PyData} (h : Low d) : smlB d = true := by
  simp only [Low, lowB, Bool.and_eq_true, decide_eq_true_eq] at h
  exact h.2
theorem low_int {i : Int} (h0 : 0 ≤ i) (h : i < 100) : Low (.int i) := by
  have s := Shw.int (k := 2) h0 (by decide) (by decide) h
  simp only [Low, lowB, Bool.and_eq_true, decide_eq_true_eq]
  exact ⟨⟨⟨⟨s.sh, Nat.le_trans s.dp (by decide)⟩, Nat.le_trans s.ln (by decide)⟩, rfl⟩, rfl⟩
theorem low_bool (b : Bool) : Low (.bool b) := by cases b <;> (show lowB _ = true; decide +kernel)
/-- what may stand in a panel's place: a small thing, or a tuple or list of at most sixty small ones -/
def Mid (d : PyData) : Prop := Shq 4 4000 d ∧ tlen d = true
theorem Low.mid {d : PyData} (h : Low d) : Mid d := ⟨h.shq.mono (by decide) (by decide), h.len⟩
theorem tup_mid {d : PyData} (h : TupP Low 60 d) : Mid d := by
  obtain ⟨ds, rfl, l, p⟩ := h
  exact ⟨(Shq.tuple (fun x hx => (p x hx).shq) l).mono (by decide) (by decide), decide_eq_true l⟩
theorem lst_mid {d : PyData} (h : LstP Low 60 d) : Mid d := by
  obtain ⟨ds, rfl, l, p⟩ := h
  exact ⟨(Shq.list (fun x hx => (p x hx).shq) l).mono (by decide) (by decide), rfl⟩
/-- values of the laws -/
def Top (d : PyData) : Prop := Shq 5 2000000 d ∧ smlB d = true
theorem tup_top {d : PyData} (h : TupP Mid 200 d) : Top d := by
  obtain ⟨ds, rfl, l, p⟩ := h
  exact ⟨(Shq.tuple (fun x hx => (p x hx).1) l).mono (by decide) (by decide), List.all_eq_true.mpr fun x hx => (p x hx).2⟩
theorem lst_top {d : PyData} (h : LstP Mid 200 d) : Top d := by
  obtain ⟨ds, rfl, l, p⟩ := h
  exact ⟨(Shq.list (fun x hx => (p x hx).1) l).mono (by decide) (by decide), rfl⟩
theorem Low.top {d : PyData} (h : Low d) : Top d := ⟨h.shq.mono (by decide) (by decide), h.sml⟩
theorem smlB_spec {d : PyData} (h : smlB d = true) : ∀ ds, d = .tuple ds → ∀ x ∈ ds, ∀ es, x = .tuple es → es.length ≤ 60 := by
  intro ds e x hx es e'
  subst e e'
  exact of_decide_eq_true (List.all_eq_true.mp h _ hx)
end Pr
namespace K00
open PySem PySem.Spec PyProof.Rows L2 Pr
def topS (i : Nat) : Stmt := PySem.Challenge.pw_pressrelease_k00_panels_judged.main.body.getD i (.Pass ⟨0, 0, 0, 0⟩)
abbrev sBtn : Stmt := topS 2
abbrev sBtnT : Stmt := topS 3
abbrev sIsPan : Stmt := topS 4
abbrev sPErr : Stmt := topS 5
abbrev sDeck : Stmt := topS 7
abbrev sDraw : Stmt := topS 8
abbrev sSame : Stmt := topS 9
abbrev sIsNum : Stmt := topS 10
abbrev sPanel : Stmt := topS 11
abbrev sOdd : Stmt := topS 12
abbrev sErr : Stmt := topS 13
abbrev sTwin : Stmt := topS 14
abbrev sChanged : Stmt := topS 15
abbrev sLaw : Stmt := topS 16
theorem scDeck : FnScope ["_law_script", "_law_cell"] ["_law_script"] (defScope sDeck) := ⟨rfl, rfl, rfl, by decide +kernel, rfl, by decide +kernel, by decide +kernel⟩
theorem scDraw : FnScope ["_law_deck_here", "_law_limit", "_law_cell", "_law_index"] ["_law_deck_here", "_law_limit"] (defScope sDraw) := ⟨rfl, rfl, rfl, by decide +kernel, rfl, by decide +kernel, by decide +kernel⟩
theorem scSame : FnScope ["_law_value", "_law_due"] ["_law_value", "_law_due"] (defScope sSame) := ⟨rfl, rfl, rfl, by decide +kernel, rfl, by decide +kernel, by decide +kernel⟩
theorem cut_ints (ns : List Int) (lo hi : Option Int) : ∃ ms : List Int, cutV (ns.map V.int) lo hi = ms.map V.int ∧ ms.length ≤ ns.length := by
  refine ⟨(ns.drop (HT.sIx ns.length 0 lo)).take (HT.sIx ns.length ns.length hi - HT.sIx ns.length 0 lo), ?_, ?_⟩
  · unfold cutV
    rw [List.length_map, List.map_take, List.map_drop]
  · rw [List.length_take, List.length_drop]; omega
theorem tyes {σ : L2.St} {H : Hp} {Q : Bool → Hp → Prop} (h : Q true H) : tYes σ H Q := h
theorem gen_heap {X : Hp} {R : Hp → Prop} (C : Hp → Prop) (hX : C X) (h : ∀ H', C H' → R H') : R X := h X hX
section
variable {P : Program} {w : World} {K : PySem.W.Frag} {mg : Str → Option Value} {base : Heap}
def spDeck (K : PySem.W.Frag) : Sp := fun vs H Q _ => ∃ (s : Addr) (ns : List Int), vs = [.ref s] ∧ SqL K H s (ns.map V.int) ∧ ns.length ≤ 63 ∧
  ∀ H' a c, Same H H' → Deck H' a c 1000000 → Q (.ref a) H'
theorem ok_deck {f : Addr} {fd : FuncData} {k : Nat} (F : Fun K "_law_deck" "_law_deck" sDeck f fd) (ma : mg "abs" = none) : FnOk P w K mg base CX0 (k + 1) f fd ["_law_script"] (spDeck K) := by
  refine F.ok scDeck (fun vs H Q E h => ?_) (fun cdv A outer s H vs Q E hr h => ?_)
  · obtain ⟨s, ns, rfl, _⟩ := h
    rfl
  · obtain ⟨sa, ns, rfl, hS, hlen, q⟩ := h
    refine ⟨_, pss_one (ps_ret (pe_lst (pa_cons
      (pe_lc (own := [("_law_cell", 1)]) (g := gName 1) (tt := tYes) rfl scDeck.nd (pi_list (pe_slice sl_list (pv 0) po_none (po_some pe_int)))
        (blkOk_by (own := [("_law_cell", 1)]) (N := ["_law_script", "_law_cell"]) (sc := defScope sDeck) (by decide +kernel))
        (fun _ _ _ _ _ => pg_name (i := 1) scDeck.nd rfl (Or.inl rfl)) (fun _ _ _ _ _ => pts_nil)
        (fun _ _ _ _ _ => pe_callB call_abs (by rfl) ma (by decide +kernel) (pa_cons (pv 1) pa_nil)))
      (pa_cons pe_int pa_nil)))), ?_⟩
    refine ⟨.ref sa, rfl, 63, rfl, sa, ns.map V.int, rfl, hS, fun l nl => ?_⟩
    obtain ⟨ms, em, lm⟩ := cut_ints ns none (some 63)
    rw [em]
    have s1 : Same H (upd H l (.lst (ms.map V.int))) := same_new nl
    refine ⟨l, rfl, ⟨_, .inl (.inl upd_same)⟩, fun D nD => ?_⟩
    refine lc_list (xs := ms.map V.int) (fun i H3 => Same (upd H l (.lst (ms.map V.int))) H3 ∧ ∃ cells : List Int, cells.length = i ∧ H3 D = some (.lst (cells.map V.int)))
      ⟨same_new nD, [], rfl, upd_same⟩ (fun i H3 _ hP => hP.1.seq (.inl (.inl upd_same))) (fun i x H3 hx hP => ?_) (fun H3 hP => ?_)
    · obtain ⟨sm, cells, hc, eD⟩ := hP
      rw [List.getElem?_map] at hx
      obtain ⟨z, hz, rfl⟩ : ∃ z, ms[i]? = some z ∧ x = V.int z := by
        cases e : ms[i]? with
        | none => rw [e] at hx; cases hx
        | some z => rw [e] at hx; exact ⟨z, rfl, (Option.some.inj hx).symm⟩
      have hi : i < ms.length := (List.getElem?_eq_some_iff.mp hz).1
      refine ⟨rfl, tyes (iteT ⟨_, rfl, _, rfl, cells.map V.int, eD, ?_, ?_, cells ++ [if z < 0 then -z else z], ?_, ?_⟩)⟩
      · rw [List.length_map]; exact small1000 (by omega)
      · intro b o e
        rw [upd_ne (ne_of_none e nD)]
        exact sm _ _ e
      · rw [List.length_append, hc]; rfl
      · rw [upd_same, List.map_append]; rfl
    · obtain ⟨sm, cells, hc, eD⟩ := hP
      rw [List.length_map] at hc
      refine ⟨by show 2 ≤ sizeLine; decide, fun p np => ?_⟩
      have nDp : D ≠ p := ne_of_none eD np
      refine q _ p D ((s1.trans sm).trans (same_new np)) ⟨cells, 0, upd_same, ?_, Ne.symm nDp, by omega, by omega⟩
      rw [upd_ne nDp]; exact eD

def spDraw : Sp := fun vs H Q _ => ∃ (a c : Addr) (m : Nat) (lim : Int), vs = [.ref a, .int lim] ∧ Deck H a c (m + 1) ∧ 0 < lim ∧ lim < 1000000 ∧
  ∀ H' r, But a c H H' → Deck H' a c m → 0 ≤ r → r < lim → Q (.int r) H'
theorem ok_draw {f : Addr} {fd : FuncData} {k : Nat} (F : Fun K "_law_draw" "_law_draw" sDraw f fd) (ml : mg "len" = none) : FnOk P w K mg base CX0 (k + 1) f fd ["_law_deck_here", "_law_limit"] spDraw := by
  refine F.ok scDraw (fun vs H Q E h => ?_) (fun cdv A outer s H vs Q E hr h => ?_)
  · obtain ⟨a, c, m, lim, rfl, _⟩ := h
    rfl
  · obtain ⟨a, c, m, lim, rfl, hD, l0, l1, q⟩ := h
    refine ⟨_, pss_cons (ps_asg (pe_op op_add (pe_ix ix_list (pv 0) pe_int (fun _ _ => rfl)) pe_int) (pg_sub (pv 0) pe_int set_list))
      (pss_cons (ps_asg (pe_tup (pa_cons pe_int (pa_cons (pe_un un_neg pe_int) pa_nil))) (pg_tup rfl (pgs_cons (pg_name (i := 2) scDraw.nd rfl (.inl rfl)) (pgs_cons (pg_name (i := 3) scDraw.nd rfl (.inl rfl)) pgs_nil))))
      (pss_cons (ps_if (pt_cmpR op_gt (pe_callB call_len_seq (by rfl) ml PySem.boot_len (pa_cons (pe_ix ix_list (pv 0) pe_int (fun _ _ => rfl)) pa_nil)) pe_int (nomark _))
        (pss_cons (ps_set (i := 3) scDraw.nd rfl (.inl rfl) (pe_op op_mod (pe_ix ix_list (pv 0) pe_int (fun _ _ => rfl)) (pe_callB call_len_seq (by rfl) ml PySem.boot_len (pa_cons (pe_ix ix_list (pv 0) pe_int (fun _ _ => rfl)) pa_nil))))
          (pss_one (ps_set (i := 2) scDraw.nd rfl (.inl rfl) (pe_ix ix_list (pe_ix ix_list (pv 0) pe_int (fun _ _ => rfl)) (pv 3) (fun _ _ => rfl)))))
        pss_nil)
      (pss_cons (ps_if (pt_cmpR op_ge (pv 2) (pe_op op_pow pe_int pe_int) (nomark _))
        (pss_cons (ps_asg (pe_op op_fdiv (pv 2) (pv 1)) (pg_sub (pe_ix ix_list (pv 0) pe_int (fun _ _ => rfl)) (pv 3) set_list))
          (pss_one (ps_ret (pe_op op_mod (pv 2) (pv 1)))))
        pss_nil)
      (pss_one (ps_ret (pe_op op_mod (pe_op op_fdiv (pe_op op_mod (pe_op op_pow (pe_op op_add (pe_op op_add (pe_op op_mod (pv 2) pe_int) (pe_op op_mul pe_int (pe_ix ix_list (pv 0) pe_int (fun _ _ => rfl)))) pe_int) pe_int) pe_int) pe_int) (pv 1))))))), ?_⟩
    obtain ⟨cells, n, ha, hc, nac, hlen, hn⟩ := hD
    refine ⟨.ref a, rfl, a, _, 1, .int n, rfl, rfl, .inl (.inl ha), atI_nat (j := 1) rfl, n, 1, rfl, rfl, .ref a, rfl, a, _, 1, 1, rfl, rfl, ha, rfl, ?_⟩
    refine gen_heap (fun H1 => H1 a = some (.lst [.ref c, .int ((n : Int) + 1)]) ∧ H1 c = some (.lst (cells.map V.int)) ∧ But a c H H1) ⟨upd_same, by rw [upd_ne (Ne.symm nac)]; exact hc, fun b o h1 _ e => by rw [upd_ne h1]; exact e⟩ fun H1 ⟨ha1, hc1, b1⟩ => ?_
    refine ⟨1, rfl, by show 2 ≤ sizeLine; decide, fun T nT => ⟨T, _, rfl, .inl (.inl upd_same), rfl, _, _, rfl, _, _, rfl, rfl, ?_⟩⟩
    have s2 : Same H1 (upd H1 T (.tup [.int 0, .int (-1)])) := same_new nT
    refine gen_heap (fun H2 => H2 a = some (.lst [.ref c, .int ((n : Int) + 1)]) ∧ H2 c = some (.lst (cells.map V.int)) ∧ But a c H H2) ⟨s2 _ _ ha1, s2 _ _ hc1, b1.trans (But.of s2)⟩ fun H2 ⟨ha2, hc2, b2⟩ => ?_
    have hcs : SqL K H2 c (cells.map V.int) := .inl (.inl hc2)
    have has : SqL K H2 a [.ref c, .int ((n : Int) + 1)] := .inl (.inl ha2)
    -- the end of the walk, from any cell
    have fin : ∀ (z ix : Int) (j : Nat), (10 ^ 18 ≤ z → ixN cells.length ix = some j) →
        tSeq (tIfS (tTest (tOp (rI0 fun i j => V.bl (decide (j ≤ i))) (tVar 2) (tOp (rI CPow fun i j => V.int (i ^ j.toNat)) (tC (V.int 10)) (tC (V.int 18)))))
          (tSeq (tAsg (tOp (rI CDiv fun i j => V.int (i / j)) (tVar 2) (tVar 1)) (gSub (tOp (rIxL K) (tVar 0) (tC (V.int 0))) (tVar 3) rSetL))
            (tRet (tOp (rI (fun x j => 0 < j) fun i j => V.int (i % j)) (tVar 2) (tVar 1)))) tNext)
        (tRet (tOp (rI (fun x j => 0 < j) fun i j => V.int (i % j)) (tOp (rI CDiv fun i j => V.int (i / j)) (tOp (rI (fun x j => 0 < j) fun i j => V.int (i % j)) (tOp (rI CPow fun i j => V.int (i ^ j.toNat))
          (tOp (rI0 fun i j => V.int (i + j)) (tOp (rI0 fun i j => V.int (i + j)) (tOp (rI (fun x j => 0 < j) fun i j => V.int (i % j)) (tVar 2) (tC (V.int 2147483587)))
            (tOp (rI CMul fun i j => V.int (i * j)) (tC (V.int 7919)) (tOp (rIxL K) (tVar 0) (tC (V.int 1))))) (tC (V.int 1))) (tC (V.int 5))) (tC (V.int 2147483647))) (tC (V.int 7))) (tVar 1)))
        { nx := fun _ H' => Q .non H', rt := Q } [some (.ref a), some (.int lim), some (.int z), some (.int ix)] H2 := by
      intro z ix j hj
      refine ⟨.int z, rfl, 10, 18, rfl, rfl, ⟨by decide, by decide, by decide⟩, z, _, rfl, rfl, _, rfl, ite2 (fun e => ?_) (fun e => ?_)⟩
      · have ez : (10 : Int) ^ 18 ≤ z := of_decide_eq_true e
        refine ⟨.int z, rfl, .int lim, rfl, z, lim, rfl, rfl, ⟨l0, by omega⟩, .ref a, rfl, a, _, 0, .ref c, rfl, rfl, has, rfl, .int ix, rfl, c, _, ix, j, rfl, rfl, hc2, by rw [List.length_map]; exact hj ez,
          .int z, rfl, .int lim, rfl, z, lim, rfl, rfl, l0, ?_⟩
        refine q _ _ (b2.trans fun b o _ h2 e => by rw [upd_ne h2]; exact e) ⟨cells.set j (z / lim), n + 1, ?_, ?_, nac, by rw [List.length_set]; exact hlen, by omega⟩ (Int.emod_nonneg _ (by omega)) (Int.emod_lt_of_pos _ l0)
        · rw [upd_ne nac, ha2]; rfl
        · rw [upd_same, List.map_set]
      · have m1 : 0 ≤ z % 2147483587 := Int.emod_nonneg _ (by decide)
        have m2 : z % 2147483587 < 2147483587 := Int.emod_lt_of_pos _ (by decide)
        refine ⟨.int z, rfl, z, 2147483587, rfl, rfl, (by show (0 : Int) < 2147483587; decide), .ref a, rfl, a, _, 1, .int ((n : Int) + 1), rfl, rfl, has, rfl, 7919, (n : Int) + 1, rfl, rfl, .inl ⟨by decide, by decide⟩, _, _, rfl, rfl, _, 1, rfl, rfl, _, 5, rfl, rfl, ⟨by decide, by decide, ?_⟩,
          _, 2147483647, rfl, rfl, (by show (0 : Int) < 2147483647; decide), _, 7, rfl, rfl, ⟨by decide, by decide⟩, .int lim, rfl, _, lim, rfl, rfl, l0, ?_⟩
        · omega
        · exact q _ _ b2 ⟨cells, n + 1, by rw [ha2]; rfl, hc2, nac, hlen, by omega⟩ (Int.emod_nonneg _ (by omega)) (Int.emod_lt_of_pos _ l0)
    refine ⟨.ref a, rfl, a, _, 0, .ref c, rfl, rfl, has, rfl, c, _, rfl, .inl hcs, _, 0, rfl, rfl, _, rfl, ite2 (fun e => ?_) (fun e => ?_)⟩
    · have ez : (0 : Int) < ((cells.map V.int).length : Int) := of_decide_eq_true e
      rw [List.length_map] at ez
      have l2 := Int.emod_nonneg ((n : Int) + 1) (show ((cells.length : Int)) ≠ 0 by omega)
      have l3 := Int.emod_lt_of_pos ((n : Int) + 1) ez
      obtain ⟨j, hj⟩ : ∃ j : Nat, ((n : Int) + 1) % (cells.length : Int) = (j : Int) := ⟨_, (Int.toNat_of_nonneg l2).symm⟩
      have hjl : j < cells.length := by omega
      have gj : (cells.map V.int)[j]? = some (.int cells[j]) := by rw [List.getElem?_map, List.getElem?_eq_getElem hjl]; rfl
      refine ⟨.ref a, rfl, a, _, 1, .int ((n : Int) + 1), rfl, rfl, has, rfl, .ref a, rfl, a, _, 0, .ref c, rfl, rfl, has, rfl, c, _, rfl, .inl hcs, _, _, rfl, rfl, by rw [List.length_map]; exact ez, ?_⟩
      refine ⟨.ref a, rfl, a, _, 0, .ref c, rfl, rfl, has, rfl, _, rfl, c, _, _, _, rfl, rfl, hcs, by rw [List.length_map, hj]; exact atI_nat gj, ?_⟩
      rw [List.length_map]
      refine fin _ (((n : Int) + 1) % (cells.length : Int)) j fun _ => ?_
      rw [hj]
      unfold ixN
      rw [if_pos (by omega), if_pos (by omega)]; rfl
    · refine fin 0 (-1) 0 fun h => ?_
      exact absurd h (by decide)
end
end K00
namespace K00
open PySem PySem.Spec PyProof.Rows L2 Pr
def nPanel : List Str := ["_law_deck_here", "_law_most", "_law_count", "_law_way", "_law_found", "_law_button", "_law_others", "_law_kept", "_law_other"]
theorem scPanel : FnScope nPanel ["_law_deck_here", "_law_most"] (defScope sPanel) := ⟨rfl, rfl, rfl, by decide +kernel, rfl, by decide +kernel, by decide +kernel⟩
theorem pick5 {y : Int} (h0 : 0 ≤ y) (h1 : y < 5) : ∃ v : Int, atI [V.int 3, .int 2, .int 6, .int 1, .int 4] y = some (.int v) ∧ 0 < v ∧ v < 1000000 := by
  obtain rfl | rfl | rfl | rfl | rfl : y = 0 ∨ y = 1 ∨ y = 2 ∨ y = 3 ∨ y = 4 := by omega
  · exact ⟨3, rfl, by decide, by decide⟩
  · exact ⟨2, rfl, by decide, by decide⟩
  · exact ⟨6, rfl, by decide, by decide⟩
  · exact ⟨1, rfl, by decide, by decide⟩
  · exact ⟨4, rfl, by decide, by decide⟩
section
variable {P : Program} {w : World} {K : PySem.W.Frag} {mg : Str → Option Value} {base : Heap}
def spSame (K : PySem.W.Frag) : Sp := fun vs H Q _ => ∃ (v u : Addr) (d : PyData), vs = [.ref v, .ref u] ∧ Dp K H (.ref v) d ∧ Dp K H (.ref u) d ∧ Shw 60 sizeLine d ∧ Q (.bl true) H
theorem ok_same {f : Addr} {fd : FuncData} {k : Nat} (F : Fun K "_law_same" "_law_same" sSame f fd) (mr : mg "repr" = none) : FnG P w K mg base (k + 1) f fd ["_law_value", "_law_due"] (spSame K) := by
  refine okG F scSame (fun vs H Q E h => ?_) (fun cdv A outer s H vs Q E gd hr h => ?_)
  · obtain ⟨v, u, d, rfl, _⟩ := h
    rfl
  · obtain ⟨v, u, d, rfl, hv, hu, hs, q⟩ := h
    refine ⟨_, pss_one (ps_ret (pe_cmpR op_eq (pe_callB (call_repr gd hr) (by rfl) mr (by decide +kernel) (pa_cons (pv 0) pa_nil))
      (pe_callB (call_repr gd hr) (by rfl) mr (by decide +kernel) (pa_cons (pv 1) pa_nil)) (nomark _))), ?_⟩
    refine ⟨.ref v, rfl, v, d, rfl, hv, hs.sh, hs.nd, hs.dp, hs.ln, .ref u, rfl, u, d, rfl, hu, hs.sh, hs.nd, hs.dp, hs.ln, rfl, ?_⟩
    rw [decide_eq_true rfl]
    exact q

/-- found.append(tuple(kept)) -/
theorem panel_append {D : Ends} {σ : L2.St} {a c F K7 : Addr} {m : Nat} {qs : List Addr} {pan : List (List Int)} {l : List Int} {H H8 : Hp} (h4 : σ[4]? = some (some (.ref F))) (h7 : σ[7]? = some (some (.ref K7)))
    (nF : H F = none) (b8 : But a c H H8) (D8 : Deck H8 a c m) (Fa : F ≠ a) (Fc : F ≠ c) (hF : H8 F = some (.lst (qs.map V.ref))) (hqs : Paired (fun q l => FT H8 q (l.map V.int)) qs pan) (hK : H8 K7 = some (.lst (l.map V.int))) (few : qs.length ≤ 100)
    (nx : ∀ H9 q', But a c H H9 → Deck H9 a c m → H9 F = some (.lst ((qs ++ [q']).map V.ref)) → Paired (fun q l => FT H9 q (l.map V.int)) (qs ++ [q']) (pan ++ [l]) → D.nx σ H9) :
    tDrop (tBM K "list" rAppend (tVar 4) (tCons (tCB (rTupF K) (tCons (tVar 7) tNil)) tNil)) D σ H8 := by
  refine ⟨.ref F, h4, .inl ⟨rfl, _, .inl (.inl hF)⟩, .ref K7, h7, K7, _, rfl, .inl (.inl hK), fun p o np ho => ?_⟩
  have sp : Same H8 (upd H8 p (.frz o (.tup (l.map V.int)))) := same_new np
  have pF : p ≠ F := Ne.symm (ne_of_none hF np)
  refine ⟨F, _, .ref p, rfl, rfl, sp _ _ hF, by rw [List.length_map]; exact small1000 (by omega), ?_⟩
  have keep : ∀ b o', b ≠ F → H8 b = some o' → (upd (upd H8 p (.frz o (.tup (l.map V.int)))) F (.lst (qs.map V.ref ++ [.ref p]))) b = some o' := fun b o' hb e => by
    rw [upd_ne hb]; exact sp _ _ e
  have ftk : ∀ q xs, FT H8 q xs → FT (upd (upd H8 p (.frz o (.tup (l.map V.int)))) F (.lst (qs.map V.ref ++ [.ref p]))) q xs := fun q xs ⟨oq, e, z⟩ => ⟨oq, keep q _ (ne_of e hF (by intro z; cases z)) e, z⟩
  refine nx _ p ?_ ?_ ?_ ?_
  · intro b o' h1 h2 e
    exact keep b o' (ne_of_none e nF) (b8 b o' h1 h2 e)
  · obtain ⟨cs, n, e1, e2, e3⟩ := D8
    exact ⟨cs, n, keep _ _ (Ne.symm Fa) e1, keep _ _ (Ne.symm Fc) e2, e3⟩
  · rw [upd_same, List.map_append]; rfl
  · refine Paired.snoc (hqs.mono fun q l h => ftk q _ h) ⟨o, ?_, ho⟩
    rw [upd_ne pF, upd_same]
theorem sub_snoc {acc os : List Int} {k : Nat} {z : Int} (h : acc.Sublist (os.take k)) (hz : os[k]? = some z) : (acc ++ [z]).Sublist (os.take (k + 1)) := by
  rw [List.take_add_one, hz]
  exact h.append (List.Sublist.refl _)
theorem sub_skip {acc os : List Int} {k : Nat} (h : acc.Sublist (os.take k)) : acc.Sublist (os.take (k + 1)) := by
  rw [List.take_add_one]
  exact h.trans (List.sublist_append_left _ _)
theorem map_get {os : List Int} {k : Nat} {x : V} (h : (os.map V.int)[k]? = some x) : ∃ z, os[k]? = some z ∧ x = .int z := by
  rw [List.getElem?_map] at h
  cases e : os[k]? with
  | none => rw [e] at h; cases h
  | some z => rw [e] at h; exact ⟨z, rfl, (Option.some.inj h).symm⟩
def spPanel : Sp := fun vs H Q _ => ∃ (a c : Addr) (m : Nat) (most : Int), vs = [.ref a, .int most] ∧ Deck H a c (m + 200) ∧ 1 ≤ most ∧ most ≤ 10 ∧
  ∀ H' p pan, But a c H H' → Deck H' a c m → PanAt H' p pan → Good pan → Q (.ref p) H'
theorem ok_panel {f fD : Addr} {fd fdD : FuncData} {k : Nat} (F : Fun K "_law_panel" "_law_panel" sPanel f fd) (FD : Fun K "_law_draw" "_law_draw" sDraw fD fdD) (bD : Binds K fdD ["_law_deck_here", "_law_limit"] []) (gD : mg "_law_draw" = some (.ref fD))
    (ml : mg "len" = none) (mr : mg "range" = none) (mt : mg "tuple" = none) : FnOk P w K mg base CX0 (k + 2) f fd ["_law_deck_here", "_law_most"] spPanel := by
  have GD : FnOk P w K mg base CX0 (k + 1) fD fdD ["_law_deck_here", "_law_limit"] spDraw := ok_draw FD ml
  refine F.ok scPanel (fun vs H Q E h => ?_) (fun cdv A outer s H vs Q E hr h => ?_)
  · obtain ⟨a, c, m, most, rfl, _⟩ := h
    rfl
  · obtain ⟨a, c, m, most, rfl, hD, m1, m2, q⟩ := h
    refine ⟨_, pss_cons (ps_asg (pe_tup (pa_cons (pe_ix ix_list (pe_lst (pa_cons (pe_op op_add pe_int (pe_call GD hr (by rfl) gD FD.kp bD .nil pass0 (pa_cons (pv 0) (pa_cons (pv 1) pa_nil)))) (pa_cons (pv 1) pa_nil)))
            (pe_call GD hr (by rfl) gD FD.kp bD .nil pass0 (pa_cons (pv 0) (pa_cons pe_int pa_nil))) (fun _ _ => rfl))
          (pa_cons (pe_call GD hr (by rfl) gD FD.kp bD .nil pass0 (pa_cons (pv 0) (pa_cons pe_int pa_nil))) pa_nil)))
        (pg_tup rfl (pgs_cons (pg_name (i := 2) scPanel.nd rfl (.inr rfl)) (pgs_cons (pg_name (i := 3) scPanel.nd rfl (.inr rfl)) pgs_nil))))
      (pss_cons (ps_set (i := 4) scPanel.nd rfl (.inl rfl) (pe_lst pa_nil))
      (pss_cons (ps_for PassesOwn.never rfl (pi_range1 (by rfl) mr (pa_cons (pv 2) pa_nil)) (pg_name (i := 5) scPanel.nd rfl (.inr rfl))
        (pss_cons (ps_setLc (i := 6) (own := [("_law_other", 8)]) (g := gName 8) rfl scPanel.nd rfl rfl (sw_true rfl rfl rfl (by decide +kernel)) (pi_range1 (by rfl) mr (pa_cons (pv 2) pa_nil))
            (blkOk_by (own := [("_law_other", 8)]) (N := nPanel) (sc := defScope sPanel) (by decide +kernel)) (fun _ _ _ _ _ => pg_name (i := 8) scPanel.nd rfl (Or.inl rfl))
            (fun _ _ _ _ _ => pts_one (pt_cmpR op_ne (pv 8) (pv 5) (nomark _))) (fun _ _ _ _ _ => pv 8))
        (pss_cons (ps_setLc (i := 7) (own := [("_law_other", 8)]) (g := gName 8) rfl scPanel.nd rfl rfl (sw_true rfl rfl rfl (by decide +kernel)) (pi_list (pv 6))
            (blkOk_by (own := [("_law_other", 8)]) (N := nPanel) (sc := defScope sPanel) (by decide +kernel)) (fun _ _ _ _ _ => pg_name (i := 8) scPanel.nd rfl (Or.inl rfl))
            (fun _ _ _ _ _ => pts_one (pt_cmpR op_eq (pe_call GD hr (by rfl) gD FD.kp bD .nil pass0 (pa_cons (pv 0) (pa_cons (pe_ix (show IxR _ (rIxL K) from ix_list) (pe_lst (pa_cons pe_int (pa_cons pe_int (pa_cons pe_int (pa_cons pe_int (pa_cons pe_int pa_nil)))))) (pv 3) (fun _ _ => rfl)) pa_nil))) pe_int (nomark _)))
            (fun _ _ _ _ _ => pv 8))
        (pss_cons (ps_if (pt_cmpR op_eq (pv 3) pe_int (nomark _))
          (pss_one (ps_setLc (i := 7) (own := [("_law_other", 8)]) (g := gName 8) rfl scPanel.nd rfl rfl (sw_true rfl rfl rfl (by decide +kernel)) (pi_list (pv 6))
            (blkOk_by (own := [("_law_other", 8)]) (N := nPanel) (sc := defScope sPanel) (by decide +kernel)) (fun _ _ _ _ _ => pg_name (i := 8) scPanel.nd rfl (Or.inl rfl))
            (fun _ _ _ _ _ => pts_one (pt_cmpR op_eq (pv 8) (pe_op op_mod (pe_op op_add (pv 5) pe_int) (pv 2)) (nomark _)))
            (fun _ _ _ _ _ => pv 8))) pss_nil)
        (pss_one (ps_expr (pe_bm PySem.F.plainAttrs_list PySem.F.slot_list_append PySem.F.type_list_append mt_append (pv 4) (pa_cons (pe_callTy call_tupF (by rfl) mt (by decide +kernel) (pa_cons (pv 7) pa_nil)) pa_nil))))))))
      (pss_one (ps_ret (pe_callTy call_tupF (by rfl) mt (by decide +kernel) (pa_cons (pv 4) pa_nil)))))), ?_⟩
    refine ⟨.ref a, rfl, .int most, rfl, a, c, m + 199, most, rfl, hD.less (by omega), by omega, by omega, fun H1 r1 b1 D1 r1a r1b => ?_⟩
    refine ⟨1, r1, rfl, rfl, .int most, rfl, by show 2 ≤ sizeLine; decide, fun L nL => ?_⟩
    have sL : Same H1 (upd H1 L (.lst [.int (1 + r1), .int most])) := same_new nL
    refine ⟨.ref a, rfl, a, c, m + 198, 2, rfl, D1.same sL, by decide, by decide, fun H2 r2 b2 D2 r2a r2b => ?_⟩
    have hL : H2 L = some (.lst [.int (1 + r1), .int most]) := b2 _ _ (D1.fresh nL).1 (D1.fresh nL).2 upd_same
    obtain ⟨n, hn, n1, n2⟩ : ∃ n : Int, atI [V.int (1 + r1), V.int most] r2 = some (.int n) ∧ 1 ≤ n ∧ n ≤ 10 := by
      obtain rfl | rfl : r2 = 0 ∨ r2 = 1 := by omega
      · exact ⟨1 + r1, rfl, by omega, by omega⟩
      · exact ⟨most, rfl, m1, m2⟩
    refine ⟨L, _, r2, .int n, rfl, rfl, .inl (.inl hL), hn, .ref a, rfl, a, c, m + 197, 5, rfl, D2, by decide, by decide, fun H3 y b3 D3 y0 y5 => ?_⟩
    refine ⟨by show 2 ≤ sizeLine; decide, fun T nT => ⟨T, _, rfl, .inl (.inl upd_same), rfl, _, _, rfl, _, _, rfl, rfl, ?_⟩⟩
    refine gen_heap (fun H4 => But a c H H4 ∧ Deck H4 a c (m + 197)) ⟨(((b1.trans (But.of sL)).trans b2).trans b3).trans (But.of (same_new nT)), D3.same (same_new nT)⟩ fun H4 ⟨b4, D4⟩ => ?_
    -- found = []
    refine ⟨Nat.zero_le _, fun F nF => ?_⟩
    have hnF : H F = none := by
      cases e : H F with
      | none => rfl
      | some o =>
        have := b4 F o (D4.fresh nF).1 (D4.fresh nF).2 e
        rw [nF] at this; cases this
    have FD' := D4.fresh nF
    -- the loop over the buttons
    obtain ⟨nn, rfl⟩ : ∃ nn : Nat, n = (nn : Int) := ⟨n.toNat, (Int.toNat_of_nonneg (by omega)).symm⟩
    refine ⟨_, rfl, _, rfl, by omega, by omega, ?_⟩
    refine for_range (n := nn) (fun i σ H5 => But a c H H5 ∧ Deck H5 a c (m + 10 * (10 - i)) ∧ i ≤ nn ∧
        (∃ (qs : List Addr) (pan : List (List Int)), H5 F = some (.lst (qs.map V.ref)) ∧ Paired (fun q l => FT H5 q (l.map V.int)) qs pan ∧ pan.length = i ∧
          ∀ (j : Nat) (l : List Int), pan[j]? = some l → l.Pairwise (· < ·) ∧ ∀ x ∈ l, 0 ≤ x ∧ x < (nn : Int) ∧ x ≠ (j : Int)) ∧
        ∃ x5 x6 x7 x8, σ = [some (.ref a), some (.int most), some (.int (nn : Int)), some (.int y), some (.ref F), x5, x6, x7, x8]) ?_ ?_ ?_
    · refine ⟨b4.trans (But.of (same_new nF)), (D4.same (same_new nF)).less (by omega), Nat.zero_le _, ⟨[], [], upd_same, .nil, rfl, fun j l h => by simp at h⟩, none, none, none, none, rfl⟩
    · intro i σ H5 hi hP
      obtain ⟨b5, D5, _, ⟨qs, pan, hF, hqs, hpl, hpan⟩, x5, x6, x7, x8, rfl⟩ := hP
      -- others
      refine ⟨_, rfl, _, rfl, by omega, by omega, fun O nO => ?_⟩
      refine lc_range (n := nn) (fun k H6 => Same H5 H6 ∧ ∃ acc : List Int, H6 O = some (.lst (acc.map V.int)) ∧ acc.length ≤ k ∧ acc.Pairwise (· < ·) ∧ ∀ x ∈ acc, 0 ≤ x ∧ x < (k : Int) ∧ x ≠ (i : Int))
        ⟨same_new nO, [], upd_same, Nat.le_refl _, List.Pairwise.nil, fun x h => by cases h⟩ (fun k H6 hk hP => ?_) (fun H6 hP => ?_)
      · obtain ⟨s6, acc, eO, al, ap, am⟩ := hP
        have am' : ∀ x ∈ acc, 0 ≤ x ∧ x < ((k + 1 : Nat) : Int) ∧ x ≠ (i : Int) := fun x hx => by have := am x hx; omega
        refine ⟨rfl, .int (0 + (k : Int)), rfl, .int (0 + (i : Int)), rfl, rfl, _, rfl, ite2 (fun e => ?_) (fun e => ?_)⟩
        · have hne : (k : Int) ≠ (i : Int) := fun z => by
            rw [show (0 + (k : Int)) = (0 + (i : Int)) by omega] at e
            simp at e
          refine ⟨_, rfl, acc.map V.int, eO, by rw [List.length_map]; exact small1000 (by omega), ?_, acc ++ [0 + (k : Int)], ?_, by rw [List.length_append]; show acc.length + 1 ≤ k + 1; omega, ?_, ?_⟩
          · intro b o e
            rw [upd_ne (ne_of_none e nO)]
            exact s6 _ _ e
          · rw [upd_same, List.map_append]; rfl
          · rw [List.pairwise_append]
            refine ⟨ap, List.pairwise_singleton _ _, fun x hx z hz => ?_⟩
            have := am x hx
            rw [List.mem_singleton.mp hz]; omega
          · intro x hx
            rcases List.mem_append.mp hx with h | h
            · exact am' x h
            · rw [List.mem_singleton.mp h]; omega
        · exact ⟨s6, acc, eO, by omega, ap, am'⟩
      · obtain ⟨s6, os, eO, ol, op, om⟩ := hP
        have D6 := D5.same s6
        have oO := D5.fresh nO
        have olen : os.length ≤ 10 := by omega
        -- kept
        refine ⟨.ref O, rfl, O, rfl, ⟨_, .inl (.inl eO)⟩, fun T2 nT2 => ?_⟩
        have oT := D6.fresh nT2
        refine lc_list (xs := os.map V.int) (fun k H7 => But a c H6 H7 ∧ Deck H7 a c (m + 10 * (10 - i) - k) ∧ ∃ acc : List Int, H7 T2 = some (.lst (acc.map V.int)) ∧ acc.Sublist (os.take k))
          ⟨But.of (same_new nT2), (D6.same (same_new nT2)).less (by omega), [], upd_same, List.nil_sublist _⟩ (fun k H7 _ hP => .inl (.inl (hP.1 _ _ oO.1 oO.2 eO))) (fun k x H7 hx hP => ?_) (fun H7 hP => ?_)
        · obtain ⟨b7, D7, acc, eT, as⟩ := hP
          obtain ⟨z, hz, rfl⟩ := map_get hx
          have hk : k < os.length := (List.getElem?_eq_some_iff.mp hz).1
          obtain ⟨v, hv, v0, v1⟩ := pick5 y0 y5
          refine ⟨rfl, .ref a, rfl, by show 5 ≤ sizeLine; decide, fun L nL => ⟨.int y, rfl, L, _, y, .int v, rfl, rfl, .inl (.inl upd_same), hv, a, c, m + 10 * (10 - i) - (k + 1), v, rfl,
            (D7.same (same_new nL)).less (by omega), v0, v1, fun H8 r b8 D8 r0 r1 => ⟨rfl, _, rfl, ite2 (fun e => ?_) (fun e => ?_)⟩⟩⟩
          all_goals
            have b78 : But a c H7 H8 := (But.of (same_new nL)).trans b8
            have eT8 : H8 T2 = some (.lst (acc.map V.int)) := b78 _ _ oT.1 oT.2 eT
          · refine ⟨_, rfl, acc.map V.int, eT8, ?_, ?_, ?_, acc ++ [z], ?_, sub_snoc as hz⟩
            · have := as.length_le
              rw [List.length_take] at this
              rw [List.length_map]; exact small1000 (by omega)
            · intro b o h1 h2 e
              rw [upd_ne (ne_of_none e nT2)]
              exact b78 _ _ h1 h2 (b7 _ _ h1 h2 e)
            · obtain ⟨cs, n, e1, e2, e3⟩ := D8
              exact ⟨cs, n, by rw [upd_ne (Ne.symm oT.1)]; exact e1, by rw [upd_ne (Ne.symm oT.2)]; exact e2, e3⟩
            · rw [upd_same, List.map_append]; rfl
          · exact ⟨b7.trans b78, D8, acc, eT8, sub_skip as⟩
        · obtain ⟨b7, D7, kp, eT, as⟩ := hP
          rw [List.length_map] at D7
          have fine : ∀ l : List Int, l.Sublist os → l.Pairwise (· < ·) ∧ ∀ x ∈ l, 0 ≤ x ∧ x < (nn : Int) ∧ x ≠ (i : Int) := fun l hl => ⟨op.sublist hl, fun x hx => om x (hl.subset hx)⟩
          have b57 : But a c H5 H7 := (But.of s6).trans b7
          have eF7 := b57 _ _ FD'.1 FD'.2 hF
          have ft7 : Paired (fun q l => FT H7 q (l.map V.int)) qs pan := hqs.mono fun q l h => h.but D5 b57
          have eO7 := b7 _ _ oO.1 oO.2 eO
          have close : ∀ (l : List Int) (H9 : Hp) (q' : Addr) (x5 x6 x7 x8 : Option V), l.Sublist os → But a c H H9 → Deck H9 a c (m + 10 * (10 - (i + 1))) → H9 F = some (.lst ((qs ++ [q']).map V.ref)) → Paired (fun q l => FT H9 q (l.map V.int)) (qs ++ [q']) (pan ++ [l]) →
              But a c H H9 ∧ Deck H9 a c (m + 10 * (10 - (i + 1))) ∧ i + 1 ≤ nn ∧ (∃ (qs : List Addr) (pan : List (List Int)), H9 F = some (.lst (qs.map V.ref)) ∧ Paired (fun q l => FT H9 q (l.map V.int)) qs pan ∧ pan.length = i + 1 ∧
                ∀ (j : Nat) (l : List Int), pan[j]? = some l → l.Pairwise (· < ·) ∧ ∀ x ∈ l, 0 ≤ x ∧ x < (nn : Int) ∧ x ≠ (j : Int)) := by
            intro l H9 q' x5 x6 x7 x8 hl g1 g2 g3 g4
            refine ⟨g1, g2, hi, _, _, g3, g4, by rw [List.length_append, hpl]; rfl, fun j l' hj => ?_⟩
            by_cases hji : j < i
            · rw [List.getElem?_append_left (by omega)] at hj
              exact hpan j l' hj
            · rw [List.getElem?_append_right (by omega), hpl] at hj
              obtain rfl : j = i := by
                have := (List.getElem?_eq_some_iff.mp hj).1
                rw [List.length_singleton] at this; omega
              rw [Nat.sub_self] at hj
              obtain rfl : l = l' := by simpa using hj
              exact fine _ hl
          have few : qs.length ≤ 100 := by rw [hqs.length, hpl]; omega
          refine ⟨.int y, rfl, rfl, _, rfl, ite2 (fun e => ?_) (fun e => ?_)⟩
          · -- kept once more
            refine ⟨.ref O, rfl, O, rfl, ⟨_, .inl (.inl eO7)⟩, fun T3 nT3 => ?_⟩
            have oT3 := D7.fresh nT3
            refine lc_list (xs := os.map V.int) (fun k H8 => Same H7 H8 ∧ ∃ acc : List Int, H8 T3 = some (.lst (acc.map V.int)) ∧ acc.Sublist (os.take k))
              ⟨same_new nT3, [], upd_same, List.nil_sublist _⟩ (fun k H8 _ hP => .inl (.inl (hP.1 _ _ eO7))) (fun k x H8 hx hP => ?_) (fun H8 hP => ?_)
            · obtain ⟨s8, acc, eT3, as3⟩ := hP
              obtain ⟨z, hz, rfl⟩ := map_get hx
              refine ⟨rfl, .int z, rfl, .int (0 + (i : Int)), rfl, _, 1, rfl, rfl, .int (nn : Int), rfl, _, _, rfl, rfl, (by show (0 : Int) < (nn : Int); omega), rfl, _, rfl, ite2 (fun e => ?_) (fun e => ?_)⟩
              · refine ⟨_, rfl, acc.map V.int, eT3, ?_, ?_, acc ++ [z], ?_, sub_snoc as3 hz⟩
                · have := as3.length_le
                  rw [List.length_take] at this
                  rw [List.length_map]; exact small1000 (by omega)
                · intro b o e
                  rw [upd_ne (ne_of_none e nT3)]
                  exact s8 _ _ e
                · rw [upd_same, List.map_append]; rfl
              · exact ⟨s8, acc, eT3, sub_skip as3⟩
            · obtain ⟨s8, l3, eT3, as3⟩ := hP
              rw [List.length_map, List.take_length] at as3
              refine panel_append (m := m + 10 * (10 - (i + 1))) (l := l3) rfl rfl hnF ((b5.trans b57).trans (But.of s8)) ((D7.same s8).less (by omega)) FD'.1 FD'.2 (s8 _ _ eF7) (ft7.mono fun _ _ h => h.same s8) eT3 few fun H9 q' g1 g2 g3 g4 => ?_
              obtain ⟨r1, r2, r3, r4⟩ := close l3 H9 q' none none none none as3 g1 g2 g3 g4
              exact ⟨r1, r2, r3, r4, _, _, _, _, rfl⟩
          · rw [List.length_map, List.take_length] at as
            refine panel_append (m := m + 10 * (10 - (i + 1))) (l := kp) rfl rfl hnF (b5.trans b57) (D7.less (by omega)) FD'.1 FD'.2 eF7 ft7 eT few fun H9 q' g1 g2 g3 g4 => ?_
            obtain ⟨r1, r2, r3, r4⟩ := close kp H9 q' none none none none as g1 g2 g3 g4
            exact ⟨r1, r2, r3, r4, _, _, _, _, rfl⟩
    · intro σ H5 hP
      obtain ⟨b5, D5, _, ⟨qs, pan, hF, hqs, hpl, hpan⟩, x5, x6, x7, x8, rfl⟩ := hP
      refine ⟨.ref F, rfl, F, _, rfl, .inl (.inl hF), fun l o nl ho => ?_⟩
      have sl : Same H5 (upd H5 l (.frz o (.tup (qs.map V.ref)))) := same_new nl
      refine q _ l pan (b5.trans (But.of sl)) ((D5.same sl).less (by omega)) ⟨qs, ⟨o, upd_same, ho⟩, hqs.mono fun _ _ z => z.same sl⟩ ?_
      have hnn : (pan.length : Int) = (nn : Int) := by omega
      refine ⟨by omega, by omega, fun l hl => ?_, fun l hl => ?_, fun j l hl h => ?_⟩
      · obtain ⟨j, hj⟩ := List.getElem?_of_mem hl
        exact (hpan j l hj).1
      · obtain ⟨j, hj⟩ := List.getElem?_of_mem hl
        intro x hx
        have := (hpan j l hj).2 x hx
        exact ⟨this.1, by omega⟩
      · exact ((hpan j l hl).2 _ h).2.2 rfl
end
end K00
namespace K00
open PySem PySem.Spec PyProof.Rows L2 Pr
theorem scBtn : FnScope ["value", "many"] ["value", "many"] (defScope sBtn) := ⟨rfl, rfl, rfl, by decide +kernel, rfl, by decide +kernel, by decide +kernel⟩
theorem scBtnT : FnScope ["value", "many", "before", "item"] ["value", "many"] (defScope sBtnT) := ⟨rfl, rfl, rfl, by decide +kernel, rfl, by decide +kernel, by decide +kernel⟩
theorem scIsPan : FnScope ["value"] ["value"] (defScope sIsPan) := ⟨rfl, rfl, rfl, by decide +kernel, rfl, by decide +kernel, by decide +kernel⟩
theorem scPErr : FnScope ["value", "index", "item"] ["value"] (defScope sPErr) := ⟨rfl, rfl, rfl, by decide +kernel, rfl, by decide +kernel, by decide +kernel⟩
section
variable {P : Program} {w : World} {K : PySem.W.Frag} {mg : Str → Option Value} {base : Heap}
def spBtn (K : PySem.W.Frag) : Sp := fun vs H Q _ => ∃ (N : Addr → Prop) (v : V) (d : PyData) (n : Int), vs = [v, .int n] ∧ Dq K N H v d ∧ Q (.bl (isBtn n d)) H
theorem ok_btn {f : Addr} {fd : FuncData} {k : Nat} (F : Fun K "is_button" "is_button" sBtn f fd) (mi : mg "isinstance" = none) (mb : mg "bool" = none) (mn : mg "int" = none) : FnOk P w K mg base CX0 (k + 1) f fd ["value", "many"] (spBtn K) := by
  refine F.ok scBtn (fun vs H Q E h => ?_) (fun cdv A outer s H vs Q E hr h => ?_)
  · obtain ⟨N, v, d, n, rfl, _⟩ := h
    rfl
  · obtain ⟨N, v, d, n, rfl, hd, q⟩ := h
    refine ⟨_, pss_cons (ps_if (PW.pt (pw_or (pt_val (pe_callB call_isi (by rfl) mi (by decide +kernel) (pa_cons (pv 0) (pa_cons (pe_bltn (v := .ty "bool") (by rfl) mb (by decide +kernel) rfl) pa_nil))))
        (pw_or1 (pt_not (pt_val (pe_callB call_isi (by rfl) mi (by decide +kernel) (pa_cons (pv 0) (pa_cons (pe_bltn (v := .ty "int") (by rfl) mn (by decide +kernel) rfl) pa_nil))))))))
        (pss_one (ps_ret pe_bl)) pss_nil)
      (pss_one (ps_ret (pe_chain op_le op_lt pe_int (pv 0) (pv 1)))), ?_⟩
    refine ⟨v, rfl, v, .ty "bool", _, _, _, rfl, .ty "bool", hd.ty, isB_kit d, _, rfl, ?_⟩
    by_cases hb : ∃ b, d = .bool b
    · obtain ⟨b, rfl⟩ := hb
      exact iteT (iteT q)
    · have e1 : isB d = false := by
        cases d <;> first | rfl | exact absurd ⟨_, rfl⟩ hb
      rw [e1]
      refine iteF ⟨v, rfl, v, .ty "int", _, _, _, rfl, .ty "int", hd.ty, isI_kit d, _, rfl, ?_⟩
      by_cases hi : ∃ i, d = .int i
      · obtain ⟨i, rfl⟩ := hi
        cases hd
        refine iteF ⟨.int i, rfl, 0, i, rfl, rfl, _, rfl, ite2 (fun e => ?_) (fun e => ?_)⟩
        · refine ⟨.int n, rfl, i, n, rfl, rfl, ?_⟩
          have q' : Q (.bl (decide (0 ≤ i) && decide (i < n))) H := q
          rw [e, Bool.true_and] at q'
          exact q'
        · have q' : Q (.bl (decide (0 ≤ i) && decide (i < n))) H := q
          rw [(Bool.not_eq_true _).mp e, Bool.false_and] at q'
          exact q'
      · have e2 : isI d = false := by
          cases d <;> first | rfl | exact absurd ⟨_, rfl⟩ hi | exact absurd ⟨_, rfl⟩ hb
        rw [e2]
        have q' : Q (.bl false) H := by
          cases d <;> first | exact q | exact absurd ⟨_, rfl⟩ hi
        exact iteT q'

def spBtnT (K : PySem.W.Frag) : Sp := fun vs H Q _ => ∃ (N : Addr → Prop) (v : V) (d : PyData) (n : Int), vs = [v, .int n] ∧ Dq K N H v d ∧ Q (.bl (btnT n d)) H
theorem ok_btnT {f fB : Addr} {fd fdB : FuncData} {k : Nat} (F : Fun K "is_button_tuple" "is_button_tuple" sBtnT f fd) (FB : Fun K "is_button" "is_button" sBtn fB fdB) (bB : Binds K fdB ["value", "many"] []) (gB : mg "is_button" = some (.ref fB))
    (mi : mg "isinstance" = none) (mb : mg "bool" = none) (mn : mg "int" = none) (mt : mg "tuple" = none) : FnOk P w K mg base CX0 (k + 2) f fd ["value", "many"] (spBtnT K) := by
  have GB : FnOk P w K mg base CX0 (k + 1) fB fdB ["value", "many"] (spBtn K) := ok_btn FB mi mb mn
  refine F.ok scBtnT (fun vs H Q E h => ?_) (fun cdv A outer s H vs Q E hr h => ?_)
  · obtain ⟨N, v, d, n, rfl, _⟩ := h
    rfl
  · obtain ⟨N, v, d, n, rfl, hd, q⟩ := h
    refine ⟨_, pss_cons (ps_if (pt_not (pt_val (pe_callB call_isi (by rfl) mi (by decide +kernel) (pa_cons (pv 0) (pa_cons (pe_bltn (v := .ty "tuple") (by rfl) mt (by decide +kernel) rfl) pa_nil))))) (pss_one (ps_ret pe_bl)) pss_nil)
      (pss_cons (ps_set (i := 2) scBtnT.nd rfl (.inl rfl) (pe_un un_neg pe_int))
      (pss_cons (ps_for PassesOwn.never rfl (pi_tup (pv 0)) (pg_name (i := 3) scBtnT.nd rfl (.inl rfl))
        (pss_cons (ps_if (PW.pt (pw_or (pt_not (pt_val (pe_call GB hr (by rfl) gB FB.kp bB .nil pass0 (pa_cons (pv 3) (pa_cons (pv 1) pa_nil))))) (pw_or1 (pt_cmpR op_le (pv 3) (pv 2) (nomark _))))) (pss_one (ps_ret pe_bl)) pss_nil)
        (pss_one (ps_set (i := 2) scBtnT.nd rfl (.inl rfl) (pv 3)))))
      (pss_one (ps_ret pe_bl)))), ?_⟩
    refine ⟨v, rfl, v, .ty "tuple", _, _, _, rfl, .ty "tuple", hd.ty, isT_kit d, _, rfl, ?_⟩
    by_cases ht : ∃ ds, d = .tuple ds
    · obtain ⟨ds, rfl⟩ := ht
      cases hd with
      | @tup l xs _ hs ha =>
        have q' : Q (.bl (ascFrom n (-1) ds)) H := q
        refine iteF ⟨1, rfl, .ref l, rfl, l, rfl, ⟨_, hs⟩, ?_⟩
        refine for_tup (xs := xs) (fun i σ H' => H' = H ∧ ∃ b x3, σ = [some (.ref l), some (.int n), some (.int b), x3] ∧ ascFrom n (-1) ds = ascFrom n b (ds.drop i)) ⟨rfl, -1, none, rfl, rfl⟩ (fun i σ H' _ hP => by rw [hP.1]; exact hs) (fun i x σ H' hx hP => ?_) (fun σ H' hP => ?_)
        · obtain ⟨rfl, b, x3, rfl, ea⟩ := hP
          obtain ⟨di, hdi, hq⟩ := ha.get i x hx
          have hi := (List.getElem?_eq_some_iff.mp hdi).1
          have ed : ds.drop i = di :: ds.drop (i + 1) := by rw [List.drop_eq_getElem_cons hi, (List.getElem?_eq_some_iff.mp hdi).2]
          rw [ed] at ea
          refine ⟨x, rfl, .int n, rfl, N, x, di, n, rfl, hq, _, rfl, ?_⟩
          by_cases hb : isBtn n di = true
          · rw [hb]
            obtain ⟨j, rfl⟩ : ∃ j, di = .int j := by
              cases di <;> first | exact ⟨_, rfl⟩ | (simp [isBtn] at hb)
            cases hq
            have ea' : ascFrom n (-1) ds = (decide (0 ≤ j) && decide (j < n) && decide (b < j) && ascFrom n j (ds.drop (i + 1))) := ea
            have hb' : (decide (0 ≤ j) && decide (j < n)) = true := hb
            rw [hb', Bool.true_and] at ea'
            refine iteF ⟨.int j, rfl, .int b, rfl, j, b, rfl, rfl, _, rfl, ite2 (fun e => ?_) (fun e => ?_)⟩
            · have : ¬ b < j := by have := of_decide_eq_true e; omega
              rw [decide_eq_false this, Bool.false_and] at ea'
              rw [ea'] at q'
              exact q'
            · have : b < j := by
                have : ¬ j ≤ b := fun h => e (decide_eq_true h)
                omega
              rw [decide_eq_true this, Bool.true_and] at ea'
              exact ⟨.int j, rfl, rfl, j, _, rfl, ea'⟩
          · rw [(Bool.not_eq_true _).mp hb]
            have ef : ascFrom n (-1) ds = false := by
              rw [ea]
              cases di with
              | int j =>
                have hb' : (decide (0 ≤ j) && decide (j < n)) = false := (Bool.not_eq_true _).mp hb
                show (decide (0 ≤ j) && decide (j < n) && decide (b < j) && ascFrom n j (ds.drop (i + 1))) = false
                rw [hb', Bool.false_and, Bool.false_and]
              | _ => rfl
            rw [ef] at q'
            exact iteT q'
        · obtain ⟨rfl, b, x3, rfl, ea⟩ := hP
          rw [ha.length, List.drop_length] at ea
          rw [ea] at q'
          exact q'
    · have e1 : isT d = false := by
        cases d <;> first | rfl | exact absurd ⟨_, rfl⟩ ht
      rw [e1]
      have q' : Q (.bl false) H := by
        cases d <;> first | exact q | exact absurd ⟨_, rfl⟩ ht
      exact iteT q'
end
end K00
namespace K00
open PySem PySem.Spec PyProof.Rows L2 Pr
theorem inV_ints {b : Int} (l : List Int) : inV (.int b) (l.map V.int) = decide (b ∈ l) := by
  unfold inV
  rw [List.any_map, Bool.eq_iff_iff, List.any_eq_true, decide_eq_true_eq]
  constructor
  · rintro ⟨x, hx, e⟩
    have e' : x = b := by simpa [eqV] using e
    rw [← e']; exact hx
  · intro h
    exact ⟨b, h, by simp [eqV]⟩
theorem flat_ints : ∀ l : List Int, (l.map V.int).all flatV = true
  | [] => rfl
  | x :: r => by rw [List.map_cons, List.all_cons, flat_ints r]; rfl
section
variable {P : Program} {w : World} {K : PySem.W.Frag} {mg : Str → Option Value} {base : Heap}
def spPErr (K : PySem.W.Frag) : Sp := fun vs H Q _ => ∃ (N : Addr → Prop) (v : V) (d : PyData), vs = [v] ∧ Dq K N H v d ∧ ∀ H' u, Same H H' → Dp K H' u (errD d) → Q u H'
theorem dp_err {H : Hp} {p : Addr} {v : V} {d : PyData} {x : Str} (hv : Dp K (upd H p (.tup [v, .str x])) v d) : Dp K (upd H p (.tup [v, .str x])) (.ref p) (dErr d x) := .tup (.inl (.inl upd_same)) (.cons hv (.cons (.str x) .nil))
theorem ok_perr {f fB fT : Addr} {fd fdB fdT : FuncData} {k : Nat} {tk : Tok} (F : Fun K "panel_error" "panel_error" sPErr f fd) (FB : Fun K "is_button" "is_button" sBtn fB fdB) (bB : Binds K fdB ["value", "many"] []) (gB : mg "is_button" = some (.ref fB))
    (FT' : Fun K "is_button_tuple" "is_button_tuple" sBtnT fT fdT) (bT : Binds K fdT ["value", "many"] []) (gT : mg "is_button_tuple" = some (.ref fT)) (mM : mg "MAX_BUTTONS" = some (.int 10 tk))
    (mi : mg "isinstance" = none) (mb : mg "bool" = none) (mn : mg "int" = none) (mt : mg "tuple" = none) (ml : mg "len" = none) (me : mg "enumerate" = none) : FnOk P w K mg base CX0 (k + 3) f fd ["value"] (spPErr K) := by
  have GT : FnOk P w K mg base CX0 (k + 2) fT fdT ["value", "many"] (spBtnT K) := ok_btnT FT' FB bB gB mi mb mn mt
  refine F.ok scPErr (fun vs H Q E h => ?_) (fun cdv A outer s H vs Q E hr h => ?_)
  · obtain ⟨N, v, d, rfl, _⟩ := h
    rfl
  · obtain ⟨N, v, d, rfl, hd, q⟩ := h
    refine ⟨_, pss_cons (ps_if (PW.pt (pw_or (pt_not (pt_val (pe_callB call_isi (by rfl) mi (by decide +kernel) (pa_cons (pv 0) (pa_cons (pe_bltn (v := .ty "tuple") (by rfl) mt (by decide +kernel) rfl) pa_nil)))))
        (pw_or1 (pt_not (pt_chain op_le op_le pe_int (pe_callB call_len_seq (by rfl) ml PySem.boot_len (pa_cons (pv 0) pa_nil)) (pe_glob (v := .int 10) rfl mM ⟨_, rfl⟩))))))
        (pss_one (ps_ret (pe_tup (pa_cons pe_non (pa_cons pe_str pa_nil))))) pss_nil)
      (pss_cons (ps_for PassesOwn.never rfl (pi_enumT (by rfl) me (pa_cons (pv 0) pa_nil)) (pg_tup rfl (pgs_cons (pg_name (i := 1) scPErr.nd rfl (.inl rfl)) (pgs_cons (pg_name (i := 2) scPErr.nd rfl (.inl rfl)) pgs_nil)))
        (pss_cons (ps_if (pt_not (pt_val (pe_call GT hr (by rfl) gT FT'.kp bT .nil pass0 (pa_cons (pv 2) (pa_cons (pe_callB call_len_seq (by rfl) ml PySem.boot_len (pa_cons (pv 0) pa_nil)) pa_nil)))))
          (pss_one (ps_ret (pe_tup (pa_cons (pv 1) (pa_cons pe_str pa_nil))))) pss_nil)
        (pss_one (ps_if (pt_cmpR op_in_seq (pv 1) (pv 2) (by rfl)) (pss_one (ps_ret (pe_tup (pa_cons (pv 1) (pa_cons pe_str pa_nil))))) pss_nil))))
      (pss_one (ps_ret pe_non))), ?_⟩
    have bad : errD d = dErr .none "panel" → ∀ p, H p = none → Q (.ref p) (upd H p (.tup [.non, .str "panel"])) := fun e p np => by
      refine q _ _ (same_new np) ?_
      rw [e]
      exact dp_err .non
    refine ⟨v, rfl, v, .ty "tuple", _, _, _, rfl, .ty "tuple", hd.ty, isT_kit d, _, rfl, ?_⟩
    by_cases ht : ∃ ds, d = .tuple ds
    · obtain ⟨ds, rfl⟩ := ht
      cases hd with
      | @tup l xs _ hs ha =>
        have hl := ha.length
        refine iteF ⟨.ref l, rfl, l, xs, rfl, .inr hs, 1, (xs.length : Int), rfl, rfl, _, rfl, ?_⟩
        by_cases h1 : (1 : Int) ≤ (xs.length : Int)
        · rw [decide_eq_true h1]
          refine iteT ⟨(xs.length : Int), 10, rfl, rfl, _, rfl, ?_⟩
          by_cases h2 : (xs.length : Int) ≤ 10
          · rw [decide_eq_true h2]
            refine iteF ⟨.ref l, rfl, l, xs, rfl, hs, ?_⟩
            have ed : errD (.tuple ds) = errFrom (ds.length : Int) 0 ds := if_pos ⟨by omega, by omega⟩
            rw [ed] at q
            refine for_it (walk_enumT (xs := xs)) (fun i σ H' => Same H H' ∧ ∃ x1 x2, σ = [some (.ref l), x1, x2] ∧ errFrom (ds.length : Int) 0 ds = errFrom (ds.length : Int) i (ds.drop i)) ⟨Same.refl _, none, none, rfl, rfl⟩ (fun i σ H' _ hP => same_sqT hP.1 hs) (fun i x σ H3 H4 hi hP hY => ?_) (fun σ H' hP => ?_)
            · obtain ⟨s3, x1, x2, rfl, ea⟩ := hP
              obtain ⟨T, y1, y2, rfl, nT, rfl, e1, e2⟩ := hY
              cases e1
              replace e2 : xs[i]? = some y2 := e2
              have sT : Same H3 (upd H3 T (.tup [.int (i : Nat), y2])) := same_new nT
              obtain ⟨di, hdi, hq⟩ := ha.get i y2 e2
              rw [errFrom_drop hdi] at ea
              have s4 := s3.trans sT
              have hq4 := Dq.same s4 di y2 hq
              refine ⟨T, _, rfl, .inl (.inl upd_same), rfl, _, _, rfl, _, _, rfl, rfl, ?_⟩
              refine ⟨y2, rfl, .ref l, rfl, l, xs, rfl, .inr (same_sqT s4 hs), N, y2, di, (xs.length : Int), rfl, hq4, _, rfl, ?_⟩
              rw [hl]
              by_cases hb : btnT (ds.length : Int) di = true
              · rw [hb] at ea ⊢
                rw [if_pos rfl] at ea
                obtain ⟨es, rfl⟩ : ∃ es, di = .tuple es := by
                  cases di <;> first | exact ⟨_, rfl⟩ | (simp [btnT] at hb)
                obtain ⟨ns, rfl, up, rg⟩ := ascFrom_ints (show ascFrom (ds.length : Int) (-1) es = true from hb)
                rw [hasInt_ints] at ea
                cases hq4 with
                | @tup l2 zs _ hs2 ha2 =>
                  obtain rfl := dqAll_of_ints ha2
                  refine iteF ⟨.int (i : Int), rfl, .ref l2, rfl, l2, _, rfl, .inr hs2, rfl, flat_ints ns, _, rfl, ?_⟩
                  rw [if_neg Bool.false_ne_true, inV_ints]
                  refine ite2 (fun e => ?_) (fun e => ?_)
                  · rw [e, if_pos rfl] at ea
                    refine ⟨.int (i : Int), rfl, by show 2 ≤ sizeLine; decide, fun p np => q _ _ (s4.trans (same_new np)) ?_⟩
                    rw [ea]
                    exact dp_err (.int _)
                  · rw [if_neg e] at ea
                    exact ⟨s4, _, _, rfl, ea⟩
              · rw [(Bool.not_eq_true _).mp hb] at ea ⊢
                rw [if_neg Bool.false_ne_true] at ea
                refine iteT ⟨.int (i : Int), rfl, by show 2 ≤ sizeLine; decide, fun p np => q _ _ (s4.trans (same_new np)) ?_⟩
                rw [ea]
                exact dp_err (.int _)
            · obtain ⟨s3, x1, x2, rfl, ea⟩ := hP
              rw [hl, List.drop_length] at ea
              refine q _ _ s3 ?_
              rw [ea]
              exact .non
          · rw [decide_eq_false h2]
            exact iteT ⟨by show 2 ≤ sizeLine; decide, bad (if_neg (by omega))⟩
        · rw [decide_eq_false h1]
          refine iteF ⟨_, rfl, ?_⟩
          exact iteT ⟨by show 2 ≤ sizeLine; decide, bad (if_neg (by omega))⟩
    · have e1 : isT d = false := by
        cases d <;> first | rfl | exact absurd ⟨_, rfl⟩ ht
      rw [e1]
      refine iteT (iteT ⟨by show 2 ≤ sizeLine; decide, bad ?_⟩)
      cases d <;> first | rfl | exact absurd ⟨_, rfl⟩ ht
end
end K00
namespace K00
open PySem PySem.Spec PyProof.Rows L2 Pr
theorem scNum : FnScope ["_law_value", "_law_low", "_law_high"] ["_law_value", "_law_low", "_law_high"] (defScope sIsNum) := ⟨rfl, rfl, rfl, by decide +kernel, rfl, by decide +kernel, by decide +kernel⟩
def nErr : List Str := ["_law_value", "_law_k", "_law_released", "_law_one"]
theorem scErr : FnScope nErr ["_law_value"] (defScope sErr) := ⟨rfl, rfl, rfl, by decide +kernel, rfl, by decide +kernel, by decide +kernel⟩
def isN : PyData → Bool
  | .none => true
  | _ => false
def rLenQ (K : PySem.W.Frag) : List V → Hp → VK → Prop := fun xs H Q => ∃ p ys, xs = [.ref p] ∧ (SqL K H p ys ∨ SqT K H p ys) ∧ Q (.int ys.length) H
/-- the items that are tuples are short -/
def Sml (d : PyData) : Prop := ∀ ds, d = .tuple ds → ∀ x ∈ ds, ∀ es, x = .tuple es → es.length ≤ 60
theorem asc_all {n : Int} {b : Int} {ds : List PyData} (h : ascFrom n b ds = true) : ds.all (isBtn n) = true := by
  obtain ⟨ns, rfl, _, rg⟩ := ascFrom_ints h
  rw [List.all_map, List.all_eq_true]
  intro x hx
  have := rg x hx
  show (decide (0 ≤ x) && decide (x < n)) = true
  rw [decide_eq_true this.2.1, decide_eq_true this.2.2]; rfl
theorem all_ints {n : Int} : ∀ {ds : List PyData}, ds.all (isBtn n) = true → ∃ ns : List Int, ds = ns.map PyData.int ∧ ∀ x ∈ ns, 0 ≤ x ∧ x < n
  | [], _ => ⟨[], rfl, fun _ h => by cases h⟩
  | d :: r, h => by
    rw [List.all_cons, Bool.and_eq_true] at h
    obtain ⟨ns, rfl, hn⟩ := all_ints h.2
    obtain ⟨j, rfl⟩ : ∃ j, d = .int j := by
      have h1 := h.1
      cases d <;> first | exact ⟨_, rfl⟩ | (simp [isBtn] at h1)
    have hj : (decide (0 ≤ j) && decide (j < n)) = true := h.1
    rw [Bool.and_eq_true, decide_eq_true_eq, decide_eq_true_eq] at hj
    exact ⟨j :: ns, rfl, fun x hx => (List.mem_cons.mp hx).elim (fun e => by rw [e]; exact hj) (hn x)⟩
theorem map_int_inj : ∀ {ns ms : List Int}, ns.map PyData.int = ms.map PyData.int → ns = ms
  | [], [], _ => rfl
  | [], _ :: _, h => by cases h
  | _ :: _, [], h => by cases h
  | x :: r, y :: t, h => by
    rw [List.map_cons, List.map_cons, List.cons.injEq] at h
    rw [PyData.int.inj h.1, map_int_inj h.2]
section
variable {P : Program} {w : World} {K : PySem.W.Frag} {mg : Str → Option Value} {base : Heap}
def spIsPan (K : PySem.W.Frag) : Sp := fun vs H Q _ => ∃ (N : Addr → Prop) (v : V) (d : PyData), vs = [v] ∧ Dq K N H v d ∧ ∀ H', Same H H' → Q (.bl (isN (errD d))) H'
theorem dp_isN {H : Hp} {u : V} {d : PyData} (h : Dp K H u d) : decide (u = .non) = isN d := by
  cases h with
  | non => rfl
  | bl b => rfl
  | int i => rfl
  | str x => rfl
  | lst _ _ => rfl
  | tup _ _ => rfl
theorem ok_isPan {f fE : Addr} {fd fdE : FuncData} {k : Nat} (F : Fun K "is_panel" "is_panel" sIsPan f fd) (FE : Fun K "panel_error" "panel_error" sPErr fE fdE) (bE : Binds K fdE ["value"] []) (gE : mg "panel_error" = some (.ref fE))
    (GE : FnOk P w K mg base CX0 (k + 3) fE fdE ["value"] (spPErr K)) : FnOk P w K mg base CX0 (k + 4) f fd ["value"] (spIsPan K) := by
  refine F.ok scIsPan (fun vs H Q E h => ?_) (fun cdv A outer s H vs Q E hr h => ?_)
  · obtain ⟨N, v, d, rfl, _⟩ := h
    rfl
  · obtain ⟨N, v, d, rfl, hd, q⟩ := h
    refine ⟨_, pss_one (ps_ret (pe_cmp (pc_isN (pe_call GE hr (by rfl) gE FE.kp bE .nil pass0 (pa_cons (pv 0) pa_nil))) rfl)), ?_⟩
    refine ⟨v, rfl, N, v, d, rfl, hd, fun H' u s' hu => ?_⟩
    show Q (.bl (decide (u = .non))) H'
    rw [dp_isN hu]
    exact q H' s'
def spNum (K : PySem.W.Frag) : Sp := fun vs H Q _ => ∃ (N : Addr → Prop) (v : V) (d : PyData) (m : Int), vs = [v, .int 0, .int m] ∧ Dq K N H v d ∧ Q (.bl (isBtn (m + 1) d)) H
theorem ok_num {f : Addr} {fd : FuncData} {k : Nat} (F : Fun K "_law_is_number" "_law_is_number" sIsNum f fd) (mi : mg "isinstance" = none) (mb : mg "bool" = none) (mn : mg "int" = none) : FnOk P w K mg base CX0 (k + 1) f fd ["_law_value", "_law_low", "_law_high"] (spNum K) := by
  refine F.ok scNum (fun vs H Q E h => ?_) (fun cdv A outer s H vs Q E hr h => ?_)
  · obtain ⟨N, v, d, m, rfl, _⟩ := h
    rfl
  · obtain ⟨N, v, d, m, rfl, hd, q⟩ := h
    refine ⟨_, pss_one (ps_ret (pe_and (pe_callB call_isi (by rfl) mi (by decide +kernel) (pa_cons (pv 0) (pa_cons (pe_bltn (v := .ty "int") (by rfl) mn (by decide +kernel) rfl) pa_nil)))
      (pe_and (pe_not (pe_callB call_isi (by rfl) mi (by decide +kernel) (pa_cons (pv 0) (pa_cons (pe_bltn (v := .ty "bool") (by rfl) mb (by decide +kernel) rfl) pa_nil)))) (pe_one (pe_chain op_le op_le (pv 1) (pv 0) (pv 2)))))), ?_⟩
    refine ⟨v, rfl, v, .ty "int", _, _, _, rfl, .ty "int", hd.ty, isI_kit d, _, rfl, ?_⟩
    have second : isI d = true → (isB d = true → Q (.bl false) H) ∧ (isB d = false → ∃ i, d = .int i) := fun e => by
      cases d with
      | bool b => exact ⟨fun _ => q, (fun z => Bool.noConfusion z)⟩
      | int i => exact ⟨(fun z => Bool.noConfusion z), fun _ => ⟨i, rfl⟩⟩
      | none => cases e
      | str _ => cases e
      | list _ => cases e
      | tuple _ => cases e
      | dict _ => cases e
    refine ite2 (fun e => ⟨v, rfl, v, .ty "bool", _, _, _, rfl, .ty "bool", hd.ty, isB_kit d, _, rfl, _, rfl, ?_⟩) (fun e => ?_)
    · cases eb : isB d with
      | true => exact iteF ((second e).1 eb)
      | false =>
        obtain ⟨i, rfl⟩ := (second e).2 eb
        cases hd
        have q' : Q (.bl (decide (0 ≤ i) && decide (i < m + 1))) H := q
        refine iteT ⟨.int 0, rfl, .int i, rfl, 0, i, rfl, rfl, _, rfl, ite2 (fun e => ?_) (fun e => ?_)⟩
        · refine ⟨.int m, rfl, i, m, rfl, rfl, ?_⟩
          rw [e, Bool.true_and] at q'
          show Q (.bl (decide (i ≤ m))) H
          rw [show decide (i ≤ m) = decide (i < m + 1) from decide_eq_decide.mpr (by omega)]
          exact q'
        · rw [(Bool.not_eq_true _).mp e, Bool.false_and] at q'
          exact q'
    · have : isBtn (m + 1) d = false := by
        cases d <;> first | rfl | exact absurd rfl e
      rw [this] at q
      exact q
def spErr (K : PySem.W.Frag) : Sp := fun vs H Q _ => ∃ (N : Addr → Prop) (v : V) (d : PyData), vs = [v] ∧ Dq K N H v d ∧ Sml d ∧ ∀ H' u, Same H H' → Dp K H' u (errD d) → Q u H'
theorem ok_err {f fN : Addr} {fd fdN : FuncData} {k : Nat} (F : Fun K "_law_error" "_law_error" sErr f fd) (FN : Fun K "_law_is_number" "_law_is_number" sIsNum fN fdN) (bN : Binds K fdN ["_law_value", "_law_low", "_law_high"] []) (gN : mg "_law_is_number" = some (.ref fN))
    (mi : mg "isinstance" = none) (mb : mg "bool" = none) (mn : mg "int" = none) (mt : mg "tuple" = none) (ml : mg "len" = none) (me : mg "enumerate" = none) (mL : mg "list" = none) (mS : mg "sorted" = none) (mO : mg "set" = none) :
    FnOk P w K mg base CX0 (k + 2) f fd ["_law_value"] (spErr K) := by
  have GN : FnOk P w K mg base CX0 (k + 1) fN fdN ["_law_value", "_law_low", "_law_high"] (spNum K) := ok_num FN mi mb mn
  refine F.ok scErr (fun vs H Q E h => ?_) (fun cdv A outer s H vs Q E hr h => ?_)
  · obtain ⟨N, v, d, rfl, _⟩ := h
    rfl
  · obtain ⟨N, v, d, rfl, hd, hsm, q⟩ := h
    refine ⟨_, pss_cons (ps_if (PW.pt (pw_or (pt_not (pt_val (pe_callB call_isi (by rfl) mi (by decide +kernel) (pa_cons (pv 0) (pa_cons (pe_bltn (v := .ty "tuple") (by rfl) mt (by decide +kernel) rfl) pa_nil)))))
        (pw_or (pt_cmpR op_lt (pe_callB call_len_seq (by rfl) ml PySem.boot_len (pa_cons (pv 0) pa_nil)) pe_int (nomark _)) (pw_or1 (pt_cmpR op_gt (pe_callB call_len_seq (by rfl) ml PySem.boot_len (pa_cons (pv 0) pa_nil)) pe_int (nomark _))))))
        (pss_one (ps_ret (pe_tup (pa_cons pe_non (pa_cons pe_str pa_nil))))) pss_nil)
      (pss_cons (ps_for PassesOwn.never rfl (pi_enumT (by rfl) me (pa_cons (pv 0) pa_nil)) (pg_tup rfl (pgs_cons (pg_name (i := 1) scErr.nd rfl (.inl rfl)) (pgs_cons (pg_name (i := 2) scErr.nd rfl (.inl rfl)) pgs_nil)))
        (pss_cons (ps_if (pt_not (pt_val (pe_callB call_isi (by rfl) mi (by decide +kernel) (pa_cons (pv 2) (pa_cons (pe_bltn (v := .ty "tuple") (by rfl) mt (by decide +kernel) rfl) pa_nil))))) (pss_one (ps_ret (pe_tup (pa_cons (pv 1) (pa_cons pe_str pa_nil))))) pss_nil)
        (pss_cons (ps_if (pt_cmpR (op_neE hr.units) (pe_lc (own := [("_law_one", 3)]) (g := gName 3) rfl scErr.nd (pi_tup (pv 2)) (blkOk_by (own := [("_law_one", 3)]) (N := nErr) (sc := defScope sErr) (by decide +kernel)) (fun _ _ _ _ _ => pg_name (i := 3) scErr.nd rfl (Or.inl rfl))
            (fun _ _ _ _ _ => pts_one (pt_not (pt_val (pe_call GN hr (by rfl) gN FN.kp bN .nil pass0 (pa_cons (pv 3) (pa_cons pe_int (pa_cons (pe_op op_sub (pe_callB (show CallR _ _ (rLenQ K) from call_len_seq) (by rfl) ml PySem.boot_len (pa_cons (pv 0) pa_nil)) pe_int) pa_nil)))))))
            (fun _ _ _ _ _ => pv 3)) (pe_lst pa_nil) (nomark _)) (pss_one (ps_ret (pe_tup (pa_cons (pv 1) (pa_cons pe_str pa_nil))))) pss_nil)
        (pss_cons (ps_if (pt_cmpR (op_neD hr.units) (pe_callTy call_list_of (by rfl) mL (by decide +kernel) (pa_cons (pv 2) pa_nil)) (pe_callB (cr_sortedSet rfl) (by rfl) mS (by decide +kernel) (pa_cons (pe_callTy (cr_setI rfl) (by rfl) mO (by decide +kernel) (pa_cons (pv 2) pa_nil)) pa_nil)) (nomark _))
            (pss_one (ps_ret (pe_tup (pa_cons (pv 1) (pa_cons pe_str pa_nil))))) pss_nil)
        (pss_one (ps_if (pt_cmpR op_in_seq (pv 1) (pv 2) (by rfl)) (pss_one (ps_ret (pe_tup (pa_cons (pv 1) (pa_cons pe_str pa_nil))))) pss_nil))))))
      (pss_one (ps_ret pe_non))), ?_⟩
    have bad : errD d = dErr .none "panel" → ∀ p, H p = none → Q (.ref p) (upd H p (.tup [.non, .str "panel"])) := fun e p np => by
      refine q _ _ (same_new np) ?_
      rw [e]
      exact dp_err .non
    refine ⟨v, rfl, v, .ty "tuple", _, _, _, rfl, .ty "tuple", hd.ty, isT_kit d, _, rfl, ?_⟩
    by_cases ht : ∃ ds, d = .tuple ds
    · obtain ⟨ds, rfl⟩ := ht
      cases hd with
      | @tup l xs _ hs ha =>
        have hl := ha.length
        refine iteF ⟨.ref l, rfl, l, xs, rfl, .inr hs, (xs.length : Int), 1, rfl, rfl, _, rfl, ite2 (fun e => ?_) (fun e => ?_)⟩
        · have h1 := of_decide_eq_true e
          exact iteT ⟨by show 2 ≤ sizeLine; decide, bad (if_neg (by omega))⟩
        · have h1 : ¬ (xs.length : Int) < 1 := fun h => e (decide_eq_true h)
          refine ⟨.ref l, rfl, l, xs, rfl, .inr hs, (xs.length : Int), 10, rfl, rfl, _, rfl, ite2 (fun e => ?_) (fun e => ?_)⟩
          · have h2 := of_decide_eq_true e
            exact ⟨by show 2 ≤ sizeLine; decide, bad (if_neg (by omega))⟩
          · have h2 : ¬ (10 : Int) < (xs.length : Int) := fun h => e (decide_eq_true h)
            have ed : errD (.tuple ds) = errFrom (ds.length : Int) 0 ds := if_pos ⟨by omega, by omega⟩
            rw [ed] at q
            refine ⟨.ref l, rfl, l, xs, rfl, hs, ?_⟩
            refine for_it (walk_enumT (xs := xs)) (fun i σ H' => Same H H' ∧ ∃ x1 x2 x3, σ = [some (.ref l), x1, x2, x3] ∧ errFrom (ds.length : Int) 0 ds = errFrom (ds.length : Int) i (ds.drop i)) ⟨Same.refl _, none, none, none, rfl, rfl⟩ (fun i σ H' _ hP => same_sqT hP.1 hs) (fun i x σ H3 H4 hi hP hY => ?_) (fun σ H' hP => ?_)
            · obtain ⟨s3, x1, x2, x3, rfl, ea⟩ := hP
              obtain ⟨T, y1, y2, rfl, nT, rfl, e1, e2⟩ := hY
              cases e1
              replace e2 : xs[i]? = some y2 := e2
              have sT : Same H3 (upd H3 T (.tup [.int (i : Nat), y2])) := same_new nT
              obtain ⟨di, hdi, hq⟩ := ha.get i y2 e2
              rw [errFrom_drop hdi] at ea
              have s4 := s3.trans sT
              have hq4 := Dq.same s4 di y2 hq
              have told : ∀ (He : Hp) (x : Str), Same H He → errFrom (ds.length : Int) 0 ds = dErr (.int (i : Int)) x → ∀ p, He p = none → Q (.ref p) (upd He p (.tup [.int (i : Int), .str x])) := fun He x se ex p np => by
                refine q _ _ (se.trans (same_new np)) ?_
                rw [ex]
                exact dp_err (.int _)
              refine ⟨T, _, rfl, .inl (.inl upd_same), rfl, _, _, rfl, _, _, rfl, rfl, ?_⟩
              refine ⟨y2, rfl, y2, .ty "tuple", _, _, _, rfl, .ty "tuple", hq4.ty, isT_kit di, _, rfl, ?_⟩
              by_cases hti : ∃ es, di = .tuple es
              · obtain ⟨es, rfl⟩ := hti
                have hes : es.length ≤ 60 := hsm ds rfl (.tuple es) (List.mem_of_getElem? hdi) es rfl
                cases hq4 with
                | @tup l2 zs _ hs2 ha2 =>
                  have hl2 := ha2.length
                  have em : (xs.length : Int) - 1 + 1 = (ds.length : Int) := by omega
                  refine iteF ⟨.ref l2, rfl, l2, rfl, ⟨_, hs2⟩, fun D nD => ?_⟩
                  refine lc_tup (xs := zs) (fun j H6 => Same (upd H3 T (.tup [.int (i : Nat), .ref l2])) H6 ∧ ∃ acc, H6 D = some (.lst acc) ∧ acc.length ≤ j ∧ acc.isEmpty = (es.take j).all (isBtn (ds.length : Int)))
                    ⟨same_new nD, [], upd_same, Nat.le_refl _, rfl⟩ (fun j H6 _ hP => same_sqT hP.1 hs2) (fun j z H6 hz hP => ?_) (fun H6 hP => ?_)
                  · obtain ⟨s6, acc, eD, al, ae⟩ := hP
                    obtain ⟨dj, hdj, hqj⟩ := ha2.get j z hz
                    have hj := (List.getElem?_eq_some_iff.mp hdj).1
                    have step : (es.take (j + 1)).all (isBtn (ds.length : Int)) = ((es.take j).all (isBtn (ds.length : Int)) && isBtn (ds.length : Int) dj) := by
                      rw [List.take_add_one, hdj, List.all_append]
                      show (_ && (isBtn _ dj && true)) = _
                      rw [Bool.and_true]
                    refine ⟨rfl, z, rfl, .ref l, rfl, l, xs, rfl, .inr (same_sqT (s4.trans s6) hs), (xs.length : Int), 1, rfl, rfl, N, z, dj, (xs.length : Int) - 1, rfl, Dq.same s6 dj z hqj, _, rfl, ?_⟩
                    rw [em]
                    cases hb : isBtn (ds.length : Int) dj with
                    | true =>
                      refine iteF ⟨s6, acc, eD, by omega, ?_⟩
                      rw [step, hb, Bool.and_true]; exact ae
                    | false =>
                      refine iteT ⟨z, rfl, acc, eD, small1000 (by omega), ?_, acc ++ [z], upd_same, by rw [List.length_append]; show acc.length + 1 ≤ j + 1; omega, ?_⟩
                      · intro b o e
                        rw [upd_ne (ne_of_none e nD)]
                        exact s6 _ _ e
                      · rw [step, hb, Bool.and_false]
                        cases acc <;> rfl
                  · obtain ⟨s6, acc, eD, al, ae⟩ := hP
                    rw [hl2, List.take_length] at ae
                    refine ⟨Nat.zero_le _, fun L nL => ?_⟩
                    have sL : Same H6 (upd H6 L (.lst [])) := same_new nL
                    have s7 := (s4.trans s6).trans sL
                    refine ⟨D, L, acc, rfl, rfl, sL _ _ eD, upd_same, _, rfl, ?_⟩
                    cases hall : acc.isEmpty with
                    | false =>
                      rw [hall] at ae
                      have eb : btnT (ds.length : Int) (.tuple es) = false := by
                        cases hh : btnT (ds.length : Int) (.tuple es) with
                        | false => rfl
                        | true => rw [asc_all (show ascFrom _ _ es = true from hh)] at ae; cases ae
                      rw [eb, if_neg Bool.false_ne_true] at ea
                      exact iteT ⟨.int (i : Int), rfl, by show 2 ≤ sizeLine; decide, told _ _ s7 ea⟩
                    | true =>
                      rw [hall] at ae
                      obtain ⟨ns, rfl, rg⟩ := all_ints ae.symm
                      obtain rfl := dqAll_of_ints ha2
                      rw [List.length_map] at hes
                      have hs7 : SqT K (upd H6 L (.lst [])) l2 (ns.map V.int) := same_sqT (s6.trans sL) hs2
                      refine iteF ⟨.ref l2, rfl, l2, _, rfl, .inr hs7, fun L2' nL2 => ?_⟩
                      have sL2 : Same (upd H6 L (.lst [])) (upd (upd H6 L (.lst [])) L2' (.lst (ns.map V.int))) := same_new nL2
                      refine ⟨.ref l2, rfl, l2, ns, rfl, same_sqT sL2 hs7, by omega, fun S nn nS hnn => ?_⟩
                      refine ⟨S, _, nn, rfl, upd_same, by omega, fun ms p up mem _ np => ?_⟩
                      have s8 := ((s7.trans sL2).trans (same_new (o := SetO w S (fun j => decide (j ∈ ns)) nn) nS)).trans (same_new (o := .lst (ms.map V.int)) np)
                      have eL2 := (same_new (o := .lst (ms.map V.int)) np) _ _ ((same_new (o := SetO w S (fun j => decide (j ∈ ns)) nn) nS) _ _ (upd_same (H := upd H6 L (.lst [])) (a := L2') (o := .lst (ns.map V.int))))
                      refine ⟨.list (ns.map PyData.int), .list (ms.map PyData.int), .lst (.inl (.inl eL2)) (dpAll_ints ns), .lst (.inl (.inl upd_same)) (dpAll_ints ms), shaped_ints ns, shaped_ints ms, _, rfl, ?_⟩
                      have eq1 : PyData.eqv (.list (ns.map PyData.int)) (.list (ms.map PyData.int)) = decide (ns = ms) := eqv_intsL ns ms
                      rw [eq1]
                      have mem' : ∀ x, x ∈ ms ↔ x ∈ ns := fun x => (mem x).trans (by rw [decide_eq_true_eq])
                      have iff : (ns = ms) ↔ ascFrom (ds.length : Int) (-1) (ns.map PyData.int) = true := by
                        constructor
                        · intro e
                          exact ascFrom_of (e ▸ up) fun x hx => by have := rg x hx; omega
                        · intro e
                          obtain ⟨ns', e', up', _⟩ := ascFrom_ints e
                          rw [← map_int_inj e'] at up'
                          exact asc_ext up' up fun x => (mem' x).symm
                      by_cases hnm : ns = ms
                      · have eb : btnT (ds.length : Int) (.tuple (ns.map PyData.int)) = true := iff.mp hnm
                        rw [eb, if_pos rfl, hasInt_ints] at ea
                        rw [decide_eq_true hnm]
                        refine iteF ⟨.int (i : Int), rfl, .ref l2, rfl, l2, _, rfl, .inr ?_, rfl, flat_ints ns, _, rfl, ?_⟩
                        · exact same_sqT ((same_new nS).trans (same_new np)) (same_sqT sL2 hs7)
                        · rw [if_neg Bool.false_ne_true, inV_ints]
                          refine ite2 (fun e => ?_) (fun e => ?_)
                          · rw [e, if_pos rfl] at ea
                            exact ⟨.int (i : Int), rfl, by show 2 ≤ sizeLine; decide, told _ _ s8 ea⟩
                          · rw [if_neg e] at ea
                            exact ⟨s8, _, _, _, rfl, ea⟩
                      · have eb : btnT (ds.length : Int) (.tuple (ns.map PyData.int)) = false := by
                          cases hh : btnT (ds.length : Int) (.tuple (ns.map PyData.int)) with
                          | false => rfl
                          | true => exact absurd (iff.mpr hh) hnm
                        rw [eb, if_neg Bool.false_ne_true] at ea
                        rw [decide_eq_false hnm]
                        exact iteT ⟨.int (i : Int), rfl, by show 2 ≤ sizeLine; decide, told _ _ s8 ea⟩
              · have e1 : isT di = false := by
                  cases di <;> first | rfl | exact absurd ⟨_, rfl⟩ hti
                have eb : btnT (ds.length : Int) di = false := by
                  cases di <;> first | rfl | exact absurd ⟨_, rfl⟩ hti
                rw [eb, if_neg Bool.false_ne_true] at ea
                rw [e1]
                exact iteT ⟨.int (i : Int), rfl, by show 2 ≤ sizeLine; decide, told _ _ s4 ea⟩
            · obtain ⟨s3, x1, x2, x3, rfl, ea⟩ := hP
              rw [hl, List.drop_length] at ea
              refine q _ _ s3 ?_
              rw [ea]
              exact .non
    · have e1 : isT d = false := by
        cases d <;> first | rfl | exact absurd ⟨_, rfl⟩ ht
      rw [e1]
      refine iteT (iteT ⟨by show 2 ≤ sizeLine; decide, bad ?_⟩)
      cases d <;> first | rfl | exact absurd ⟨_, rfl⟩ ht
end
end K00
namespace K00
open PySem PySem.Spec PyProof.Rows L2 Pr
theorem scOdd : FnScope ["_law_deck_here", "_law_some"] ["_law_deck_here"] (defScope sOdd) := ⟨rfl, rfl, rfl, by decide +kernel, rfl, by decide +kernel, by decide +kernel⟩
def tOdd18 : TA := tCons (tC .non) (tCons (tC (.bl true)) (tCons (tC (.bl false)) (tCons (tUn (rU fun i => .int (-i)) (tC (.int 1))) (tCons (tC (.int 0)) (tCons (tC (.int 1)) (tCons (tC (.int 10))
  (tCons (tOp (rI CPow fun i j => .int (i ^ j.toNat)) (tC (.int 10)) (tC (.int 39))) (tCons (tC (.str (Str.ofString ""))) (tCons (tC (.str (Str.ofString "0>1"))) (tCons (tTup tNil) (tCons (tLstG tNil) (tCons tDNewK (tCons (tTup (tCons (tC (.int 0)) tNil))
  (tCons (tLstG (tCons (tC (.int 0)) tNil)) (tCons (tTup (tCons (tC (.bl true)) tNil)) (tCons (tTup (tCons (tC (.int 1)) (tCons (tC (.int 0)) tNil))) (tCons (tTup (tCons (tC (.int 0)) (tCons (tC (.int 0)) tNil))) tNil)))))))))))))))))
theorem low_of {d : PyData} (h : lowB d = true) : Low d := h
theorem e18 {K : PySem.W.Frag} {N : Addr → Prop} (σ : L2.St) (H0 : Hp) (kN : ∀ x, N x → H0 x ≠ none) : EvA K N σ H0 tOdd18 (AllP Low 18) :=
      eva_cons (ev_non (show lowB _ = true by decide +kernel)) (eva_cons (ev_bl (low_bool true)) (eva_cons (ev_bl (low_bool false)) (eva_cons (ev_neg (i := 1) (show lowB _ = true by decide +kernel)) (eva_cons (ev_int (i := 0) (low_int (by decide) (by decide))) (eva_cons (ev_int (i := 1) (low_int (by decide) (by decide))) (eva_cons (ev_int (i := 10) (low_int (by decide) (by decide)))
      (eva_cons (ev_pow (i := 10) (j := 39) ⟨by decide, by decide, by decide⟩ (show lowB _ = true by decide +kernel)) (eva_cons (ev_str (x := Str.ofString "") (show lowB _ = true by decide +kernel)) (eva_cons (ev_str (x := Str.ofString "0>1") (show lowB _ = true by decide +kernel))
      (eva_cons (ev_tup (eva_nil (R := (· = [])) rfl) (fun _ e => by rw [e]; decide) (fun _ e => by rw [e]; show lowB _ = true; decide +kernel)) (eva_cons (ev_lst kN (eva_nil (R := (· = [])) rfl) (fun _ e => by rw [e]; decide) (fun _ e => by rw [e]; show lowB _ = true; decide +kernel))
      (eva_cons (ev_dct0 (show lowB _ = true by decide +kernel)) (eva_cons (ev_tup (eva_consE (d := .int 0) (ev_int rfl) (eva_nil rfl)) (fun _ e => by rw [e]; decide) (fun _ e => by rw [e]; show lowB _ = true; decide +kernel)) (eva_cons (ev_lst kN (eva_consE (d := .int 0) (ev_int rfl) (eva_nil rfl)) (fun _ e => by rw [e]; decide) (fun _ e => by rw [e]; show lowB _ = true; decide +kernel))
      (eva_cons (ev_tup (eva_consE (d := .bool true) (ev_bl rfl) (eva_nil rfl)) (fun _ e => by rw [e]; decide) (fun _ e => by rw [e]; show lowB _ = true; decide +kernel)) (eva_cons (ev_tup (eva_consE (d := .int 1) (ev_int rfl) (eva_consE (d := .int 0) (ev_int rfl) (eva_nil rfl))) (fun _ e => by rw [e]; decide) (fun _ e => by rw [e]; show lowB _ = true; decide +kernel))
      (eva_cons (ev_tup (eva_consE (d := .int 0) (ev_int rfl) (eva_consE (d := .int 0) (ev_int rfl) (eva_nil rfl))) (fun _ e => by rw [e]; decide) (fun _ e => by rw [e]; show lowB _ = true; decide +kernel)) (eva_nil AllP.nil))))))))))))))))))
def tOdd6 : TA := tCons (tTup (tCons (tC (.int 0)) (tCons (tC (.int 1)) tNil))) (tCons (tTup (tCons (tTup tNil) tNil)) (tCons (tTup (tCons (tLstG tNil) tNil)) (tCons (tTup (tCons (tC .non) tNil))
  (tCons (tTup (tCons (tC (.int 0)) (tCons (tC (.str (Str.ofString "1"))) tNil))) (tCons (tDisp [(tC (.str (Str.ofString "a")), tC (.int 0))]) tNil)))))
theorem e6 {K : PySem.W.Frag} {N : Addr → Prop} (σ : L2.St) (H0 : Hp) (kN : ∀ x, N x → H0 x ≠ none) : EvA K N σ H0 tOdd6 (AllP Low 6) :=
  eva_cons (ev_tup (eva_consE (d := .int 0) (ev_int rfl) (eva_consE (d := .int 1) (ev_int rfl) (eva_nil rfl))) (fun _ e => by rw [e]; decide) (fun _ e => by rw [e]; show lowB _ = true; decide +kernel))
  (eva_cons (ev_tup (eva_consE (d := .tuple []) (ev_tup (eva_nil (R := (· = [])) rfl) (fun _ e => by rw [e]; decide) (fun _ e => by rw [e])) (eva_nil rfl)) (fun _ e => by rw [e]; decide) (fun _ e => by rw [e]; show lowB _ = true; decide +kernel))
  (eva_cons (ev_tup (eva_consE (d := .list []) (ev_lst kN (eva_nil (R := (· = [])) rfl) (fun _ e => by rw [e]; decide) (fun _ e => by rw [e])) (eva_nil rfl)) (fun _ e => by rw [e]; decide) (fun _ e => by rw [e]; show lowB _ = true; decide +kernel))
  (eva_cons (ev_tup (eva_consE (d := .none) (ev_non rfl) (eva_nil rfl)) (fun _ e => by rw [e]; decide) (fun _ e => by rw [e]; show lowB _ = true; decide +kernel))
  (eva_cons (ev_tup (eva_consE (d := .int 0) (ev_int rfl) (eva_consE (d := .str (Str.ofString "1")) (ev_str rfl) (eva_nil rfl))) (fun _ e => by rw [e]; decide) (fun _ e => by rw [e]; show lowB _ = true; decide +kernel))
  (eva_cons (ev_dct1 (x := Str.ofString "a") (i := 0) (show lowB _ = true by decide +kernel)) (eva_nil AllP.nil))))))
theorem asg_lst {t : TA} {g : TG} {u : TS} {D : Ends} {σ : L2.St} {H : Hp} (h : t σ H fun xs H1 => xs.length ≤ sizeLine ∧ ∀ p, H1 p = none → g (.ref p) σ (upd H1 p (.lst xs)) (u D)) : tSeq (tAsg (tLst t) g) u D σ H := h
theorem of_lst {t : TA} {σ : L2.St} {H : Hp} {Q : VK} (h : t σ H fun xs H1 => xs.length ≤ sizeLine ∧ ∀ p, H1 p = none → Q (.ref p) (upd H1 p (.lst xs))) : tLst t σ H Q := h
section
variable {P : Program} {w : World} {K : PySem.W.Frag} {mg : Str → Option Value} {base : Heap}
def spOdd (K : PySem.W.Frag) : Sp := fun vs H Q _ => ∃ (N : Addr → Prop) (a c : Addr) (m : Nat), vs = [.ref a] ∧ Deck H a c (m + 1) ∧ N a ∧ N c ∧ (∀ x, N x → H x ≠ none) ∧
  ∀ H' v d, But a c H H' → Deck H' a c m → Dq K N H' v d → Low d → Q v H'
theorem ok_odd {f fD : Addr} {fd fdD : FuncData} {k : Nat} (F : Fun K "_law_odd" "_law_odd" sOdd f fd) (FD : Fun K "_law_draw" "_law_draw" sDraw fD fdD) (bD : Binds K fdD ["_law_deck_here", "_law_limit"] []) (gD : mg "_law_draw" = some (.ref fD))
    (ml : mg "len" = none) : FnOk P w K mg base CX0 (k + 2) f fd ["_law_deck_here"] (spOdd K) := by
  have GD : FnOk P w K mg base CX0 (k + 1) fD fdD ["_law_deck_here", "_law_limit"] spDraw := ok_draw FD ml
  refine F.ok scOdd (fun vs H Q E h => ?_) (fun cdv A outer s H vs Q E hr h => ?_)
  · obtain ⟨N, a, c, m, rfl, _⟩ := h
    rfl
  · obtain ⟨N, a, c, m, rfl, hD, na, nc, kN, q⟩ := h
    refine ⟨_, pss_cons (ps_set (i := 1) scOdd.nd rfl (.inl rfl) (pe_lst
        (pa_cons pe_non (pa_cons pe_bl (pa_cons pe_bl (pa_cons (pe_un un_neg pe_int) (pa_cons pe_int (pa_cons pe_int (pa_cons pe_int (pa_cons (pe_op op_pow pe_int pe_int) (pa_cons pe_str (pa_cons pe_str
        (pa_cons (pe_tup pa_nil) (pa_cons (pe_lstG pa_nil) (pa_cons pe_dnewK (pa_cons (pe_tup (pa_cons pe_int pa_nil)) (pa_cons (pe_lstG (pa_cons pe_int pa_nil)) (pa_cons (pe_tup (pa_cons pe_bl pa_nil))
        (pa_cons (pe_tup (pa_cons pe_int (pa_cons pe_int pa_nil))) (pa_cons (pe_tup (pa_cons pe_int (pa_cons pe_int pa_nil))) pa_nil))))))))))))))))))))
      (pss_one (ps_ret (pe_ix ix_list (pe_op op_cat (pv 1) (pe_lst (pa_cons (pe_tup (pa_cons pe_int (pa_cons pe_int pa_nil))) (pa_cons (pe_tup (pa_cons (pe_tup pa_nil) pa_nil)) (pa_cons (pe_tup (pa_cons (pe_lstG pa_nil) pa_nil))
          (pa_cons (pe_tup (pa_cons pe_non pa_nil)) (pa_cons (pe_tup (pa_cons pe_int (pa_cons pe_str pa_nil))) (pa_cons (pe_disp (pps_cons pe_str pe_int pps_nil) (by rfl) (by rfl) (fun z => by cases z) (by decide)) pa_nil))))))))
        (pe_call GD hr (by rfl) gD FD.kp bD .nil pass0 (pa_cons (pv 0) (pa_cons pe_int pa_nil))) (fun _ _ => rfl)))), ?_⟩
    refine asg_lst ?_
    refine e18 (K := K) (N := N) _ H kN H _ (Same.refl _) fun vs ds H1 s1 hds eds => ?_
    refine ⟨by rw [hds.length, eds.1]; decide, fun L nL => ?_⟩
    have sL : Same H1 (upd H1 L (.lst vs)) := same_new nL
    have s2 := s1.trans sL
    have kn : ∀ x, N x → (upd H1 L (.lst vs)) x ≠ none := fun x h e => by
      cases hh : H x with
      | none => exact kN x h hh
      | some o => have := s2 _ _ hh; rw [e] at this; cases this
    refine ⟨.ref L, rfl, of_lst ?_⟩
    refine e6 (K := K) (N := N) _ (upd H1 L (.lst vs)) kn (upd H1 L (.lst vs)) _ (Same.refl _) fun ws es H3 s3 hes ees => ?_
    refine ⟨by rw [hes.length, ees.1]; decide, fun L' nL' => ?_⟩
    have sL' : Same H3 (upd H3 L' (.lst ws)) := same_new nL'
    refine ⟨L, L', vs, ws, rfl, rfl, sL' _ _ (s3 _ _ upd_same), upd_same, by rw [hds.length, eds.1, hes.length, ees.1]; decide, fun p np => ?_⟩
    have sp : Same (upd H3 L' (.lst ws)) (upd (upd H3 L' (.lst ws)) p (.lst (vs ++ ws))) := same_new np
    have s4 : Same H (upd (upd H3 L' (.lst ws)) p (.lst (vs ++ ws))) := ((s2.trans s3).trans sL').trans sp
    have hall : DqAll K N (upd (upd H3 L' (.lst ws)) p (.lst (vs ++ ws))) (vs ++ ws) (ds ++ es) := (Dq.sameAll (((sL.trans s3).trans sL').trans sp) ds vs hds).append (Dq.sameAll (sL'.trans sp) es ws hes)
    have D4 := hD.same s4
    have fp := (hD.same ((s2.trans s3).trans sL')).fresh np
    refine ⟨.ref a, rfl, a, c, m, 24, rfl, D4, by decide, by decide, fun H5 r b5 D5 r0 r1 => ?_⟩
    obtain ⟨rn, rfl⟩ : ∃ rn : Nat, r = (rn : Int) := ⟨r.toNat, (Int.toNat_of_nonneg r0).symm⟩
    have hlen : (vs ++ ws).length = 24 := by rw [hall.length, (eds.append ees).1]
    have hrn : rn < (vs ++ ws).length := by omega
    obtain ⟨d, hd, hq⟩ := (hall.but na nc D4 b5).get rn _ (List.getElem?_eq_getElem hrn)
    refine ⟨p, _, _, _, rfl, rfl, .inl (.inl (b5 _ _ fp.1 fp.2 upd_same)), atI_nat (List.getElem?_eq_getElem hrn), ?_⟩
    exact q _ _ d ((But.of s4).trans b5) D5 hq ((eds.append ees).2 d (List.mem_of_getElem? hd))
end
end K00
namespace K00
open PySem PySem.Spec PyProof.Rows L2 Pr
def nTwin : List Str := ["_law_row", "_law_one"]
theorem scTwin : FnScope nTwin ["_law_row"] (defScope sTwin) := ⟨rfl, rfl, rfl, by decide +kernel, rfl, by decide +kernel, by decide +kernel⟩
def twV (x : Int) : V := if x < 2 then .bl (decide (V.int x = V.int 1)) else .int x
def twD (x : Int) : PyData := if x < 2 then .bool (decide (V.int x = V.int 1)) else .int x
def IntP (d : PyData) : Prop := ∃ i : Int, d = .int i ∧ 0 ≤ i ∧ i < 100
theorem IntP.low {d : PyData} (h : IntP d) : Low d := by
  obtain ⟨i, rfl, h0, h1⟩ := h
  exact low_int h0 h1
theorem tw_all {K : PySem.W.Frag} {N : Addr → Prop} {H : Hp} : ∀ ns : List Int, DqAll K N H (ns.map twV) (ns.map twD)
  | [] => .nil
  | x :: r => by
    refine .cons ?_ (tw_all r)
    unfold twV twD
    split
    · exact .bl _
    · exact .int x
theorem tw_low {ns : List Int} (h : ∀ x ∈ ns, 0 ≤ x ∧ x < 100) : ∀ d ∈ ns.map twD, Low d := by
  intro d hd
  obtain ⟨x, hx, rfl⟩ := List.mem_map.mp hd
  unfold twD
  split
  · exact low_bool _
  · exact low_int (h x hx).1 (h x hx).2
section
variable {P : Program} {w : World} {K : PySem.W.Frag} {mg : Str → Option Value} {base : Heap}
def spTwin (K : PySem.W.Frag) : Sp := fun vs H Q _ => ∃ (N : Addr → Prop) (r : Addr) (ns : List Int), vs = [.ref r] ∧ SqT K H r (ns.map V.int) ∧ ns.length ≤ 60 ∧ (∀ x ∈ ns, 0 ≤ x ∧ x < 100) ∧
  ∀ H' t d, Same H H' → Dq K N H' (.ref t) d → TupP Low 60 d → Q (.ref t) H'
theorem ok_twin {f : Addr} {fd : FuncData} {k : Nat} (F : Fun K "_law_twin" "_law_twin" sTwin f fd) (mt : mg "tuple" = none) (mn : mg "int" = none) : FnOk P w K mg base CX0 (k + 1) f fd ["_law_row"] (spTwin K) := by
  refine F.ok scTwin (fun vs H Q E h => ?_) (fun cdv A outer s H vs Q E hr h => ?_)
  · obtain ⟨N, r, ns, rfl, _⟩ := h
    rfl
  · obtain ⟨N, r, ns, rfl, hs, few, rg, q⟩ := h
    refine ⟨_, pss_one (ps_ret (pe_callTy call_tupF (by rfl) mt (by decide +kernel) (pa_cons
      (pe_lc (own := [("_law_one", 1)]) (g := gName 1) (tt := tYes) rfl scTwin.nd (pi_tup (pv 0)) (blkOk_by (own := [("_law_one", 1)]) (N := nTwin) (sc := defScope sTwin) (by decide +kernel)) (fun _ _ _ _ _ => pg_name (i := 1) scTwin.nd rfl (Or.inl rfl)) (fun _ _ _ _ _ => pts_nil)
        (fun _ _ _ _ _ => pe_ix (show IxR _ (rIxL K) from ix_list) (pe_lst (pa_cons (pv 1) (pa_cons (pe_cmpR op_eq (pv 1) pe_int (nomark _)) pa_nil))) (pe_callTy call_int1 (by rfl) mn (by decide +kernel) (pa_cons (pe_cmpR op_lt (pv 1) pe_int (nomark _)) pa_nil)) (fun _ _ => rfl))) pa_nil))), ?_⟩
    refine ⟨.ref r, rfl, r, rfl, ⟨_, hs⟩, fun D nD => ?_⟩
    refine lc_tup (xs := ns.map V.int) (fun i H3 => Same H H3 ∧ H3 D = some (.lst ((ns.take i).map twV))) ⟨same_new nD, upd_same⟩ (fun i H3 _ hP => same_sqT hP.1 hs) (fun i x H3 hx hP => ?_) (fun H3 hP => ?_)
    · obtain ⟨s3, eD⟩ := hP
      obtain ⟨z, hz, rfl⟩ := map_get hx
      have hi := (List.getElem?_eq_some_iff.mp hz).1
      refine ⟨rfl, tyes (iteT ⟨.int z, rfl, .int z, rfl, rfl, by show 2 ≤ sizeLine; decide, fun L nL => ?_⟩)⟩
      have sL : Same H3 (upd H3 L (.lst [.int z, .bl (decide (V.int z = V.int 1))])) := same_new nL
      have fin : ∀ v, v = twV z → ∃ acc, (upd H3 L (.lst [.int z, .bl (decide (V.int z = V.int 1))])) D = some (.lst acc) ∧ acc.length < sizeLine ∧ Same H (upd (upd H3 L (.lst [.int z, .bl (decide (V.int z = V.int 1))])) D (.lst (acc ++ [v]))) ∧
          (upd (upd H3 L (.lst [.int z, .bl (decide (V.int z = V.int 1))])) D (.lst (acc ++ [v]))) D = some (.lst ((ns.take (i + 1)).map twV)) := fun v ev => by
        refine ⟨_, sL _ _ eD, by rw [List.length_map, List.length_take]; exact small1000 (by omega), fun b o e => ?_, ?_⟩
        · rw [upd_ne (ne_of_none e nD)]
          exact sL _ _ (s3 _ _ e)
        · rw [upd_same, ev, List.take_add_one, hz, List.map_append]; rfl
      by_cases hz2 : z < 2
      · refine ⟨.int z, rfl, z, 2, rfl, rfl, .inr ⟨_, rfl, L, _, _, .bl (decide (V.int z = V.int 1)), rfl, rfl, .inl (.inl upd_same), ?_, fin _ (if_pos hz2).symm⟩⟩
        rw [decide_eq_true hz2]; rfl
      · refine ⟨.int z, rfl, z, 2, rfl, rfl, .inr ⟨_, rfl, L, _, _, .int z, rfl, rfl, .inl (.inl upd_same), ?_, fin _ (if_neg hz2).symm⟩⟩
        rw [decide_eq_false hz2]; rfl
    · obtain ⟨s3, eD⟩ := hP
      rw [List.length_map, List.take_length] at eD
      refine ⟨D, _, rfl, .inl (.inl eD), fun t o nt ho => ?_⟩
      exact q _ t (.tuple (ns.map twD)) (s3.trans (same_new nt)) (.tup (.inl (.inr ⟨o, upd_same⟩)) (tw_all ns)) ⟨_, rfl, by rw [List.length_map]; exact few, tw_low rg⟩
end
end K00
namespace K00
open PySem PySem.Spec PyProof.Rows L2 Pr
theorem scCh : FnScope ["_law_deck_here", "_law_panel_here", "_law_at", "_law_odd_here", "_law_released", "_law_bent", "_law_new", "_law_some"] ["_law_deck_here", "_law_panel_here"] (defScope sChanged) := ⟨rfl, rfl, rfl, by decide +kernel, rfl, by decide +kernel, by decide +kernel⟩
section
variable {K : PySem.W.Frag} {N : Addr → Prop} {σ : L2.St} {H0 : Hp} {P : PyData → Prop} {t : TE}
theorem ev_len {n : Nat} {P' : PyData → Prop} (h : Ev K N σ H0 t (TupP P n)) (f : ∀ i : Nat, i ≤ n → P' (.int (i : Int))) : Ev K N σ H0 (tCB (rLenQ K) (tCons t tNil)) P' := fun H Q s k =>
  h H _ s fun v d H1 s1 q ⟨ds, e, l, p⟩ => by
    subst e
    cases q with
    | tup hs ha => exact ⟨_, _, rfl, .inr hs, k _ _ _ s1 (.int _) (f _ (by rw [ha.length]; exact l))⟩
theorem tupInts {ds : List PyData} (h : ∀ x ∈ ds, IntP x) : ∃ ns : List Int, ds = ns.map PyData.int ∧ ∀ x ∈ ns, 0 ≤ x ∧ x < 100 := by
  induction ds with
  | nil => exact ⟨[], rfl, fun _ h => by cases h⟩
  | cons d r ih =>
    obtain ⟨ns, rfl, hn⟩ := ih fun x hx => h x (List.mem_cons_of_mem _ hx)
    obtain ⟨i, rfl, hi⟩ := h d List.mem_cons_self
    exact ⟨i :: ns, rfl, fun x hx => (List.mem_cons.mp hx).elim (fun e => by rw [e]; exact hi) (hn x)⟩
theorem ev_sort {n : Nat} {P' : PyData → Prop} (h : Ev K N σ H0 t (TupP IntP n)) (hn : n < 64) (f : ∀ d, TupP IntP n d → P' d) : Ev K N σ H0 (tCB (rTupF K) (tCons (tCB (rSortT K) (tCons t tNil)) tNil)) P' := fun H Q s k =>
  h H _ s fun v d H1 s1 q ⟨ds, e, l, p⟩ => by
    subst e
    obtain ⟨ns, rfl, rg⟩ := tupInts p
    rw [List.length_map] at l
    cases q with
    | tup hs ha =>
      obtain rfl := dqAll_of_ints ha
      refine ⟨_, ns, rfl, hs, by omega, fun ns' p1 perm _ np => ⟨p1, _, rfl, .inl (.inl upd_same), fun t o nt ho => ?_⟩⟩
      refine k _ (.tuple (ns'.map PyData.int)) _ ((s1.trans (same_new np)).trans (same_new nt)) (.tup (.inl (.inr ⟨o, upd_same⟩)) (dqAll_ints ns')) (f _ ⟨_, rfl, by rw [List.length_map, perm.length_eq]; exact l, fun x hx => ?_⟩)
      obtain ⟨y, hy, rfl⟩ := List.mem_map.mp hx
      exact ⟨y, rfl, rg y (perm.mem_iff.mp hy)⟩
def tBent5 (K : PySem.W.Frag) : TA := tCons (tOp (rCatA K) (tVar 4) (tTup (tCons (tVar 2) tNil))) (tCons (tRevT K (tVar 4)) (tCons (tOp (rCatA K) (tVar 4) (tSl (rSlA K) (tVar 4) (tPart (tUn (rU fun i => .int (-i)) (tC (.int 1)))) tNoPart))
  (tCons (tCB (rListG K) (tCons (tVar 4) tNil)) (tCons (tOp (rCatA K) (tVar 4) (tTup (tCons (tCB (rLenQ K) (tCons (tVar 1) tNil)) tNil))) tNil))))
def tBent8 (K : PySem.W.Frag) : TA := tCons (tCB (rTupF K) (tCons (tCB (rSortT K) (tCons (tOp (rCatA K) (tVar 4) (tTup (tCons (tVar 2) tNil))) tNil)) tNil)) (tCons (tTup (tCons (tVar 3) tNil)) (tCons (tOp (rCatA K) (tVar 4) (tTup (tCons (tVar 3) tNil))) (tCons (tVar 3)
  (tCons (tTup (tCons (tUn (rU fun i => .int (-i)) (tC (.int 1))) tNil)) (tCons (tTup (tCons (tC .non) tNil)) (tCons (tTup (tCons (tC (.str (Str.ofString "0"))) tNil)) (tCons (tTup (tCons (tLstG (tCons (tC (.int 0)) tNil)) tNil)) tNil)))))))
theorem one_tup {P' : PyData → Prop} (h : Ev K N σ H0 t P) (f : ∀ d, TupP P 1 d → P' d) : Ev K N σ H0 (tTup (tCons t tNil)) P' :=
  ev_tup (eva_cons h (eva_nil AllP.nil)) (fun ds hd => by rw [hd.1]; decide) fun ds hd => f _ ⟨ds, rfl, Nat.le_of_eq hd.1, hd.2⟩
variable (kN : ∀ x, N x → H0 x ≠ none)
include kN
theorem bent5 {vr vp : V} {dr dp : PyData} {at' : Int} (h4 : σ[4]? = some (some vr)) (q4 : Dq K N H0 vr dr) (p4 : TupP IntP 10 dr) (h2 : σ[2]? = some (some (.int at'))) (a0 : 0 ≤ at') (a1 : at' < 100)
    (h1 : σ[1]? = some (some vp)) (q1 : Dq K N H0 vp dp) (p1 : TupP Mid 10 dp) : EvA K N σ H0 (tBent5 K) (AllP Mid 5) := by
  have rel : Ev K N σ H0 (tVar 4) (TupP IntP 10) := ev_var 4 h4 q4 p4
  have relL : Ev K N σ H0 (tVar 4) (TupP Low 10) := rel.weak fun d h => h.mono (fun _ x => x.low) (Nat.le_refl _)
  refine eva_cons (ev_cat relL (one_tup (ev_var 2 h2 (.int at') (low_int a0 a1)) fun d h => h) (by decide) fun d h => tup_mid (h.mono (fun _ x => x) (by decide))) ?_
  refine eva_cons (ev_rev relL fun d h => tup_mid (h.mono (fun _ x => x) (by decide))) ?_
  refine eva_cons (ev_cat relL (ev_cut (lo := some (-1)) (hi := none) relL (fun H Q h => ⟨1, rfl, -1, rfl, h⟩) (fun H Q h => h) fun d h => h) (by decide) fun d h => tup_mid (h.mono (fun _ x => x) (by decide))) ?_
  refine eva_cons (ev_list kN relL fun d h => lst_mid (by obtain ⟨ds, e, l, p⟩ := h; exact ⟨ds, e, Nat.le_trans l (by decide), p⟩)) ?_
  refine eva_cons (ev_cat relL (one_tup (ev_len (ev_var 1 h1 q1 p1) fun i hi => low_int (by omega) (by omega)) fun d h => h) (by decide) fun d h => tup_mid (h.mono (fun _ x => x) (by decide))) (eva_nil AllP.nil)
theorem bent8 {vr vo : V} {dr dO : PyData} {at' : Int} (h4 : σ[4]? = some (some vr)) (q4 : Dq K N H0 vr dr) (p4 : TupP IntP 10 dr) (h2 : σ[2]? = some (some (.int at'))) (a0 : 0 ≤ at') (a1 : at' < 100)
    (h3 : σ[3]? = some (some vo)) (q3 : Dq K N H0 vo dO) (p3 : Low dO) : EvA K N σ H0 (tBent8 K) (AllP Mid 8) := by
  have rel : Ev K N σ H0 (tVar 4) (TupP IntP 10) := ev_var 4 h4 q4 p4
  have relL : Ev K N σ H0 (tVar 4) (TupP Low 10) := rel.weak fun d h => h.mono (fun _ x => x.low) (Nat.le_refl _)
  have odd : Ev K N σ H0 (tVar 3) Low := ev_var 3 h3 q3 p3
  have up : ∀ {n : Nat} {d : PyData}, n ≤ 60 → TupP Low n d → Mid d := fun hn h => tup_mid (h.mono (fun _ x => x) hn)
  refine eva_cons (ev_sort (n := 11) (ev_cat (P := IntP) rel (one_tup (ev_var 2 h2 (.int at') ⟨at', rfl, a0, a1⟩) fun d h => h) (by decide) fun d h => h) (by decide) fun d h => up (by decide) (h.mono (fun _ x => x.low) (Nat.le_refl _))) ?_
  refine eva_cons (one_tup odd fun d h => up (by decide) h) ?_
  refine eva_cons (ev_cat relL (one_tup odd fun d h => h) (by decide) fun d h => up (by decide) h) ?_
  refine eva_cons (odd.weak fun d h => h.mid) ?_
  refine eva_cons (one_tup (P := Low) (ev_neg (i := 1) (show lowB _ = true by decide +kernel)) fun d h => up (by decide) h) ?_
  refine eva_cons (one_tup (P := Low) (ev_non (show lowB _ = true by decide +kernel)) fun d h => up (by decide) h) ?_
  refine eva_cons (one_tup (P := Low) (ev_str (show lowB _ = true by decide +kernel)) fun d h => up (by decide) h) ?_
  exact eva_cons (one_tup (P := Low) (ev_lst kN (eva_consE (d := .int 0) (ev_int rfl) (eva_nil rfl)) (fun _ e => by rw [e]; decide) (fun _ e => by rw [e]; show lowB _ = true; decide +kernel)) fun d h => up (by decide) h) (eva_nil AllP.nil)
def tAt : TO := tPart (tVar 2)
def tAt1 : TO := tPart (tOp (rI0 fun i j => .int (i + j)) (tVar 2) (tC (.int 1)))
def tSome3 (K : PySem.W.Frag) : TA := tCons (tOp (rCatA K) (tOp (rCatA K) (tSl (rSlA K) (tVar 1) tNoPart tAt) (tTup (tCons (tVar 6) tNil))) (tSl (rSlA K) (tVar 1) tAt1 tNoPart))
  (tCons (tOp (rCatA K) (tOp (rCatA K) (tSl (rSlA K) (tVar 1) tNoPart tAt) (tTup (tCons (tVar 6) tNil))) (tSl (rSlA K) (tVar 1) tAt tNoPart)) (tCons (tOp (rCatA K) (tSl (rSlA K) (tVar 1) tNoPart tAt) (tSl (rSlA K) (tVar 1) tAt1 tNoPart)) tNil))
def tSome7 (K : PySem.W.Frag) : TA := tCons (tOp (rCatA K) (tVar 1) (tTup (tCons (tTup tNil) tNil))) (tCons (tOp (rCatA K) (tVar 1) (tTup (tCons (tVar 3) tNil))) (tCons (tCB (rListG K) (tCons (tVar 1) tNil)) (tCons (tVar 3) (tCons (tTup (tCons (tVar 1) tNil))
  (tCons (tRevT K (tVar 1)) (tCons (tSl (rSlA K) (tOp (rRepT K) (tVar 1) (tC (.int 11))) tNoPart (tPart (tC (.int 11)))) tNil))))))
omit kN in
theorem some3 {vp vn : V} {dp dn : PyData} {at' : Int} (h2 : σ[2]? = some (some (.int at'))) (h1 : σ[1]? = some (some vp)) (q1 : Dq K N H0 vp dp) (p1 : TupP Mid 10 dp) (h6 : σ[6]? = some (some vn)) (q6 : Dq K N H0 vn dn) (p6 : Mid dn) : EvA K N σ H0 (tSome3 K) (AllP Top 3) := by
  have pan : Ev K N σ H0 (tVar 1) (TupP Mid 10) := ev_var 1 h1 q1 p1
  have new : Ev K N σ H0 (tVar 6) Mid := ev_var 6 h6 q6 p6
  have up : ∀ {n : Nat} {d : PyData}, n ≤ 200 → TupP Mid n d → Top d := fun hn h => tup_top (h.mono (fun _ x => x) hn)
  have at1 : ∀ (H : Hp) (Q : Option Int → Hp → Prop), Q (some at') H → tAt σ H Q := fun H Q h => ⟨_, h2, at', rfl, h⟩
  have at2 : ∀ (H : Hp) (Q : Option Int → Hp → Prop), Q (some (at' + 1)) H → tAt1 σ H Q := fun H Q h => ⟨_, h2, at', 1, rfl, rfl, at' + 1, rfl, h⟩
  have no : ∀ (H : Hp) (Q : Option Int → Hp → Prop), Q none H → tNoPart σ H Q := fun H Q h => h
  have left : Ev K N σ H0 (tSl (rSlA K) (tVar 1) tNoPart tAt) (TupP Mid 10) := ev_cut pan no at1 fun d h => h
  have left2 : Ev K N σ H0 (tOp (rCatA K) (tSl (rSlA K) (tVar 1) tNoPart tAt) (tTup (tCons (tVar 6) tNil))) (TupP Mid 11) := ev_cat left (one_tup new fun d h => h) (by decide) fun d h => h
  refine eva_cons (ev_cat left2 (ev_cut pan at2 no fun d h => h) (by decide) fun d h => up (by decide) h) ?_
  refine eva_cons (ev_cat left2 (ev_cut pan at1 no fun d h => h) (by decide) fun d h => up (by decide) h) ?_
  exact eva_cons (ev_cat left (ev_cut pan at2 no fun d h => h) (by decide) fun d h => up (by decide) h) (eva_nil AllP.nil)
theorem some7 {vp vo : V} {dp dO : PyData} (h1 : σ[1]? = some (some vp)) (q1 : Dq K N H0 vp dp) (p1 : TupP Mid 10 dp) (m1 : Mid dp) (n1 : dp ≠ .tuple []) (h3 : σ[3]? = some (some vo)) (q3 : Dq K N H0 vo dO) (p3 : Low dO) : EvA K N σ H0 (tSome7 K) (AllP Top 7) := by
  have pan : Ev K N σ H0 (tVar 1) (TupP Mid 10) := ev_var 1 h1 q1 p1
  have odd : Ev K N σ H0 (tVar 3) Low := ev_var 3 h3 q3 p3
  have up : ∀ {n : Nat} {d : PyData}, n ≤ 200 → TupP Mid n d → Top d := fun hn h => tup_top (h.mono (fun _ x => x) hn)
  have no : ∀ (H : Hp) (Q : Option Int → Hp → Prop), Q none H → tNoPart σ H Q := fun H Q h => h
  have e0 : Ev K N σ H0 (tTup tNil) Mid := ev_tup (eva_nil (R := (· = [])) rfl) (fun _ e => by rw [e]; decide) (fun _ e => by rw [e]; exact Low.mid (show lowB _ = true by decide +kernel))
  refine eva_cons (ev_cat pan (one_tup e0 fun d h => h) (by decide) fun d h => up (by decide) h) ?_
  refine eva_cons (ev_cat pan (one_tup (odd.weak fun d h => h.mid) fun d h => h) (by decide) fun d h => up (by decide) h) ?_
  refine eva_cons (ev_list kN pan fun d h => lst_top (by obtain ⟨ds, e, l, p⟩ := h; exact ⟨ds, e, Nat.le_trans l (by decide), p⟩)) ?_
  refine eva_cons (odd.weak fun d h => h.top) ?_
  refine eva_cons (one_tup (P := Mid) (ev_var 1 h1 q1 m1) fun d h => up (by decide) h) ?_
  refine eva_cons (ev_rev pan fun d h => up (by decide) h) ?_
  exact eva_cons (ev_cut (n := 110) (lo := none) (hi := some 11) (ev_rep (k := 11) (P := Mid) (ev_var 1 h1 q1 ⟨p1, n1⟩) (by decide) (by decide) (by decide) fun d h => h) no (fun H Q h => ⟨11, rfl, h⟩) fun d h => up (by decide) h) (eva_nil AllP.nil)
end
end K00
namespace K00
open PySem PySem.Spec PyProof.Rows L2 Pr
theorem pan_tupP {pan : List (List Int)} (g : Good pan) : TupP Mid 10 (dPan pan) := by
  refine ⟨_, rfl, by rw [List.length_map]; exact g.few, fun x hx => ?_⟩
  obtain ⟨l, hl, rfl⟩ := List.mem_map.mp hx
  have few := g.few
  refine tup_mid ⟨_, rfl, ?_, fun y hy => ?_⟩
  · rw [List.length_map]
    have := pw_length (n := 10) (lo := 0) (g.up l hl) fun x hx => by have := g.rng l hl x hx; omega
    omega
  · obtain ⟨z, hz, rfl⟩ := List.mem_map.mp hy
    have := g.rng l hl z hz
    exact low_int (by omega) (by omega)
theorem pan_mid {pan : List (List Int)} (g : Good pan) : Mid (dPan pan) := by
  refine ⟨g.shw.q.mono (by decide) (by decide), ?_⟩
  show decide ((pan.map dInts).length ≤ 60) = true
  have few := g.few
  rw [List.length_map]
  exact decide_eq_true (by omega)
theorem pan_ne {pan : List (List Int)} (g : Good pan) : dPan pan ≠ .tuple [] := fun e => by
  have e' : pan.map dInts = [] := PyData.tuple.inj e
  have := g.pos
  rw [List.map_eq_nil_iff] at e'
  rw [e'] at this
  exact absurd this (by decide)
theorem rel_tupP {pan : List (List Int)} (g : Good pan) {l : List Int} (hl : l ∈ pan) : TupP IntP 10 (dInts l) := by
  have few := g.few
  refine ⟨_, rfl, ?_, fun y hy => ?_⟩
  · rw [List.length_map]
    exact pw_length (n := 10) (lo := 0) (g.up l hl) fun x hx => by have := g.rng l hl x hx; omega
  · obtain ⟨z, hz, rfl⟩ := List.mem_map.mp hy
    have := g.rng l hl z hz
    exact ⟨z, rfl, by omega, by omega⟩
theorem PanAt.dq {K : PySem.W.Frag} {N : Addr → Prop} {H : Hp} {p : Addr} {pan : List (List Int)} (h : PanAt H p pan) : Dq K N H (.ref p) (dPan pan) := by
  obtain ⟨qs, h1, h2⟩ := h
  exact .tup h1.sq (dqAll_pan h2)
theorem of_cat {t1 : TE} {t : TA} {σ : L2.St} {H : Hp} {Q : VK} {l : Addr} (h : t1 σ H fun x H1 => t σ H1 fun xs H2 => xs.length ≤ sizeLine ∧ ∀ p, H2 p = none → rCat x (.ref p) (upd H2 p (.lst xs)) Q) : tOp rCat t1 (tLst t) σ H Q := h
theorem asg_cat {t1 : TE} {t : TA} {g : TG} {u : TS} {D : Ends} {σ : L2.St} {H : Hp} (h : t1 σ H fun x H1 => t σ H1 fun xs H2 => xs.length ≤ sizeLine ∧ ∀ p, H2 p = none → rCat x (.ref p) (upd H2 p (.lst xs)) fun y H3 => g y σ H3 (u D)) : tSeq (tAsg (tOp rCat t1 (tLst t)) g) u D σ H := h
theorem use_eva {K : PySem.W.Frag} {N : Addr → Prop} {σ : L2.St} {H H0 : Hp} {t : TA} {R : List PyData → Prop} {Q : List V → Hp → Prop} (h : EvA K N σ H0 t R) (s : Same H0 H) (k : ∀ vs ds H', Same H H' → DqAll K N H' vs ds → R ds → Q vs H') : t σ H Q := h H Q s k
theorem gn {i : Nat} {v : V} {σ : L2.St} {H : Hp} {a1 a3 a4 : L2.St → Hp → Prop} {a2 : VK} (h : a1 (σ.set i (some v)) H) : gName i v σ H (Ends.nx { nx := a1, rt := a2, bk := a3, ct := a4 }) := h
theorem gn0 {i : Nat} {v : V} {σ : L2.St} {H : Hp} {D : L2.St → Hp → Prop} (h : D (σ.set i (some v)) H) : gName i v σ H D := h
theorem kn_same {H H' : Hp} {x : Addr} (sm : Same H H') (h : H x ≠ none) : H' x ≠ none := fun e => by
  cases hh : H x with
  | none => exact h hh
  | some o => have := sm _ _ hh; rw [e] at this; cases this
theorem kn_but {N : Addr → Prop} {H H' : Hp} {a c : Addr} {m m' : Nat} (D : Deck H a c m) (b : But a c H H') (D' : Deck H' a c m') (kN : ∀ x, N x → H x ≠ none) : ∀ x, N x → H' x ≠ none := fun x h e => by
  by_cases ea : x = a
  · obtain ⟨_, _, e1, _⟩ := D'
    rw [ea, e1] at e; cases e
  by_cases ec : x = c
  · obtain ⟨_, _, _, e2, _⟩ := D'
    rw [ec, e2] at e; cases e
  cases hh : H x with
  | none => exact kN x h hh
  | some o => have := b _ _ ea ec hh; rw [e] at this; cases this
theorem Deck.kn {H : Hp} {a c : Addr} {m : Nat} (D : Deck H a c m) : H a ≠ none ∧ H c ≠ none := by
  obtain ⟨_, _, e1, e2, _⟩ := D
  exact ⟨by rw [e1]; simp, by rw [e2]; simp⟩
section
variable {P : Program} {w : World} {K : PySem.W.Frag} {mg : Str → Option Value} {base : Heap}
def spCh (K : PySem.W.Frag) : Sp := fun vs H Q _ => ∃ (N : Addr → Prop) (a c p : Addr) (m : Nat) (pan : List (List Int)), vs = [.ref a, .ref p] ∧ Deck H a c (m + 4) ∧ N a ∧ N c ∧ (∀ x, N x → H x ≠ none) ∧ PanAt H p pan ∧ Good pan ∧
  ∀ H' v d, But a c H H' → Deck H' a c m → Dq K N H' v d → Top d → Q v H'
theorem ok_ch {f fD fO : Addr} {fd fdD fdO : FuncData} {k : Nat} (F : Fun K "_law_changed" "_law_changed" sChanged f fd) (FD : Fun K "_law_draw" "_law_draw" sDraw fD fdD) (bD : Binds K fdD ["_law_deck_here", "_law_limit"] []) (gD : mg "_law_draw" = some (.ref fD))
    (FO : Fun K "_law_odd" "_law_odd" sOdd fO fdO) (bO : Binds K fdO ["_law_deck_here"] []) (gO : mg "_law_odd" = some (.ref fO)) (ml : mg "len" = none) (mt : mg "tuple" = none) (mL : mg "list" = none) (mS : mg "sorted" = none) :
    FnOk P w K mg base CX0 (k + 3) f fd ["_law_deck_here", "_law_panel_here"] (spCh K) := by
  have GD : FnOk P w K mg base CX0 (k + 1) fD fdD ["_law_deck_here", "_law_limit"] spDraw := ok_draw FD ml
  have GO : FnOk P w K mg base CX0 (k + 2) fO fdO ["_law_deck_here"] (spOdd K) := ok_odd FO FD bD gD ml
  refine F.ok scCh (fun vs H Q E h => ?_) (fun cdv A outer s H vs Q E hr h => ?_)
  · obtain ⟨N, a, c, p, m, pan, rfl, _⟩ := h
    rfl
  · obtain ⟨N, a, c, p, m, pan, rfl, hD, na, nc, kN, hp, hg, q⟩ := h
    have hr1 := hr.mono (show k + 1 ≤ k + 2 by omega)
    refine ⟨_, pss_cons (ps_par (i := 2) (j := 3) rfl scCh.nd rfl rfl (by decide) rfl rfl (pa_cons (pe_call GD hr1 (by rfl) gD FD.kp bD .nil pass0 (pa_cons (pv 0) (pa_cons (pe_callB call_len_seq (by rfl) ml PySem.boot_len (pa_cons (pv 1) pa_nil)) pa_nil)))
          (pa_cons (pe_call GO hr (by rfl) gO FO.kp bO .nil pass0 (pa_cons (pv 0) pa_nil)) pa_nil)) (by rfl))
      (pss_cons (ps_set (i := 4) scCh.nd rfl (.inl rfl) (pe_ix ix_tup (pv 1) (pv 2) (fun _ _ => rfl)))
      (pss_cons (ps_set (i := 5) scCh.nd rfl (.inl rfl) (pe_lst (pa_cons (pe_op (show OpR _ _ (rCatA K) from op_catA) (pv 4) (pe_tup (pa_cons (pv 2) pa_nil))) (pa_cons (pe_revT (pv 4)) (pa_cons (pe_op (show OpR _ _ (rCatA K) from op_catA) (pv 4) (pe_slice (show SlR _ (rSlA K) from sl_tupA) (pv 4) (po_some (pe_un un_neg pe_int)) po_none))
          (pa_cons (pe_callTy (show CallR _ _ (rListG K) from call_listG) (by rfl) mL (by decide +kernel) (pa_cons (pv 4) pa_nil)) (pa_cons (pe_op (show OpR _ _ (rCatA K) from op_catA) (pv 4) (pe_tup (pa_cons (pe_callB (show CallR _ _ (rLenQ K) from call_len_seq) (by rfl) ml PySem.boot_len (pa_cons (pv 1) pa_nil)) pa_nil))) pa_nil)))))))
      (pss_cons (ps_set (i := 5) scCh.nd rfl (.inl rfl) (pe_op op_cat (pv 5) (pe_lst (pa_cons (pe_callTy (show CallR _ _ (rTupF K) from call_tupF) (by rfl) mt (by decide +kernel) (pa_cons (pe_callB (show CallR _ _ (rSortT K) from cr_sortT) (by rfl) mS (by decide +kernel) (pa_cons (pe_op (show OpR _ _ (rCatA K) from op_catA) (pv 4) (pe_tup (pa_cons (pv 2) pa_nil))) pa_nil)) pa_nil))
          (pa_cons (pe_tup (pa_cons (pv 3) pa_nil)) (pa_cons (pe_op (show OpR _ _ (rCatA K) from op_catA) (pv 4) (pe_tup (pa_cons (pv 3) pa_nil))) (pa_cons (pv 3) (pa_cons (pe_tup (pa_cons (pe_un un_neg pe_int) pa_nil)) (pa_cons (pe_tup (pa_cons pe_non pa_nil)) (pa_cons (pe_tup (pa_cons pe_str pa_nil)) (pa_cons (pe_tup (pa_cons (pe_lstG (pa_cons pe_int pa_nil)) pa_nil)) pa_nil)))))))))))
      (pss_cons (ps_set (i := 6) scCh.nd rfl (.inl rfl) (pe_ix ix_list (pv 5) (pe_call GD hr1 (by rfl) gD FD.kp bD .nil pass0 (pa_cons (pv 0) (pa_cons pe_int pa_nil))) (fun _ _ => rfl)))
      (pss_cons (ps_set (i := 7) scCh.nd rfl (.inl rfl) (pe_lst (pa_cons (pe_op (show OpR _ _ (rCatA K) from op_catA) (pe_op (show OpR _ _ (rCatA K) from op_catA) (pe_slice (show SlR _ (rSlA K) from sl_tupA) (pv 1) po_none (po_some (pv 2))) (pe_tup (pa_cons (pv 6) pa_nil))) (pe_slice (show SlR _ (rSlA K) from sl_tupA) (pv 1) (po_some (pe_op op_add (pv 2) pe_int)) po_none))
          (pa_cons (pe_op (show OpR _ _ (rCatA K) from op_catA) (pe_op (show OpR _ _ (rCatA K) from op_catA) (pe_slice (show SlR _ (rSlA K) from sl_tupA) (pv 1) po_none (po_some (pv 2))) (pe_tup (pa_cons (pv 6) pa_nil))) (pe_slice (show SlR _ (rSlA K) from sl_tupA) (pv 1) (po_some (pv 2)) po_none))
          (pa_cons (pe_op (show OpR _ _ (rCatA K) from op_catA) (pe_slice (show SlR _ (rSlA K) from sl_tupA) (pv 1) po_none (po_some (pv 2))) (pe_slice (show SlR _ (rSlA K) from sl_tupA) (pv 1) (po_some (pe_op op_add (pv 2) pe_int)) po_none)) pa_nil)))))
      (pss_cons (ps_set (i := 7) scCh.nd rfl (.inl rfl) (pe_op op_cat (pv 7) (pe_lst (pa_cons (pe_op (show OpR _ _ (rCatA K) from op_catA) (pv 1) (pe_tup (pa_cons (pe_tup pa_nil) pa_nil))) (pa_cons (pe_op (show OpR _ _ (rCatA K) from op_catA) (pv 1) (pe_tup (pa_cons (pv 3) pa_nil))) (pa_cons (pe_callTy (show CallR _ _ (rListG K) from call_listG) (by rfl) mL (by decide +kernel) (pa_cons (pv 1) pa_nil))
          (pa_cons (pv 3) (pa_cons (pe_tup (pa_cons (pv 1) pa_nil)) (pa_cons (pe_revT (pv 1)) (pa_cons (pe_slice (show SlR _ (rSlA K) from sl_tupA) (pe_op (show OpR _ _ (rRepT K) from op_repT) (pv 1) pe_int) po_none (po_some pe_int)) pa_nil))))))))))
      (pss_one (ps_ret (pe_ix ix_list (pv 7) (pe_op op_sub (pe_call GD hr1 (by rfl) gD FD.kp bD .nil pass0 (pa_cons (pv 0) (pa_cons pe_int pa_nil))) pe_int) (fun _ _ => rfl)))))))))), ?_⟩
    obtain ⟨qs, hq, hqs⟩ := id hp
    have hl : (qs.map V.ref).length = pan.length := by rw [List.length_map, hqs.length]
    have few := hg.few
    have pos := hg.pos
    -- at, odd
    refine ⟨.ref a, rfl, .ref p, rfl, p, _, rfl, .inr hq.sq, a, c, m + 3, _, rfl, hD, by rw [hl]; omega, by rw [hl]; omega, fun H1 at' b1 D1 a0 a1 => ?_⟩
    rw [hl] at a1
    refine ⟨.ref a, rfl, N, a, c, m + 2, rfl, D1, na, nc, kn_but hD b1 D1 kN, fun H2 vo dO b2 D2 qo lo => ?_⟩
    refine ⟨_, _, rfl, ?_⟩
    have hp2 := (hp.but hD b1).but D1 b2
    obtain ⟨an, rfl⟩ : ∃ an : Nat, at' = (an : Int) := ⟨at'.toNat, (Int.toNat_of_nonneg a0).symm⟩
    have han : an < pan.length := by omega
    obtain ⟨qs2, hq2, hqs2⟩ := id hp2
    obtain ⟨q', g1, g2⟩ := paired_get hqs2 an pan[an] (List.getElem?_eq_getElem han)
    have gq : (qs2.map V.ref)[an]? = some (.ref q') := by rw [List.getElem?_map, g1]; rfl
    have hrel := rel_tupP hg (List.getElem_mem han)
    refine ⟨.ref p, rfl, .int (an : Int), rfl, p, _, _, .ref q', rfl, rfl, hq2.sq, atI_nat gq, ?_⟩
    have dqr : Dq K N H2 (.ref q') (dInts pan[an]) := dq_ints g2.sq
    have dqp : Dq K N H2 (.ref p) (dPan pan) := PanAt.dq hp2
    have kn2 : ∀ x, N x → H2 x ≠ none := kn_but D1 b2 D2 (kn_but hD b1 D1 kN)
    -- bent
    refine gn (asg_lst ?_)
    refine use_eva (K := K) (N := N) (H0 := H2) (t := tBent5 K) (R := AllP Mid 5) ?_ (Same.refl _) fun v5 d5 H3 s3 q5 p5 => ?_
    · exact bent5 kn2 rfl dqr hrel rfl (by omega) (by omega) rfl dqp (pan_tupP hg)
    refine ⟨by rw [q5.length, p5.1]; decide, fun L nL => ?_⟩
    have s4 : Same H2 (upd H3 L (.lst v5)) := s3.trans (same_new nL)
    refine gn0 (asg_cat ⟨.ref L, rfl, ?_⟩)
    refine use_eva (K := K) (N := N) (H0 := H2) (t := tBent8 K) (R := AllP Mid 8) ?_ s4 fun v8 d8 H5 s5 q8 p8 => ?_
    · exact bent8 kn2 rfl dqr hrel rfl (by omega) (by omega) rfl qo lo
    refine ⟨by rw [q8.length, p8.1]; decide, fun L' nL' => ⟨L, L', v5, v8, rfl, rfl, same_new nL' _ _ (s5 _ _ upd_same), upd_same, by rw [q5.length, p5.1, q8.length, p8.1]; decide, fun p1 np1 => ?_⟩⟩
    have sA : Same H5 (upd (upd H5 L' (.lst v8)) p1 (.lst (v5 ++ v8))) := (same_new nL').trans (same_new np1)
    have s6 : Same H2 (upd (upd H5 L' (.lst v8)) p1 (.lst (v5 ++ v8))) := (s4.trans s5).trans sA
    have hall : DqAll K N (upd (upd H5 L' (.lst v8)) p1 (.lst (v5 ++ v8))) (v5 ++ v8) (d5 ++ d8) := (Dq.sameAll (((same_new nL).trans s5).trans sA) d5 v5 q5).append (Dq.sameAll sA d8 v8 q8)
    have hP := p5.append p8
    have f1 := (D2.same ((s4.trans s5).trans (same_new nL'))).fresh np1
    have D6 := D2.same s6
    -- new
    refine ⟨.ref p1, rfl, .ref a, rfl, a, c, m + 1, 13, rfl, D6, by decide, by decide, fun H7 r b7 D7 r0 r1 => ?_⟩
    obtain ⟨rn, rfl⟩ : ∃ rn : Nat, r = (rn : Int) := ⟨r.toNat, (Int.toNat_of_nonneg r0).symm⟩
    have hlen : (v5 ++ v8).length = 13 := by rw [hall.length, hP.1]
    have hrn : rn < (v5 ++ v8).length := by omega
    obtain ⟨dn, hdn, qn⟩ := (hall.but na nc D6 b7).get rn _ (List.getElem?_eq_getElem hrn)
    have mn := hP.2 dn (List.mem_of_getElem? hdn)
    refine ⟨p1, _, _, _, rfl, rfl, .inl (.inl (b7 _ _ f1.1 f1.2 upd_same)), atI_nat (List.getElem?_eq_getElem hrn), ?_⟩
    have hp7 := (hp2.same s6).but D6 b7
    have dqp7 : Dq K N H7 (.ref p) (dPan pan) := PanAt.dq hp7
    have qo7 : Dq K N H7 vo dO := (Dq.same s6 dO vo qo).but na nc D6 b7
    have kn7 : ∀ x, N x → H7 x ≠ none := kn_but D6 b7 D7 fun x h => kn_same s6 (kn2 x h)
    -- some
    refine gn (asg_lst ?_)
    refine use_eva (K := K) (N := N) (H0 := H7) (t := tSome3 K) (R := AllP Top 3) ?_ (Same.refl _) fun v3 d3 H8 s8 q3 p3 => ?_
    · exact some3 rfl rfl dqp7 (pan_tupP hg) rfl qn mn
    refine ⟨by rw [q3.length, p3.1]; decide, fun M nM => ?_⟩
    have s9 : Same H7 (upd H8 M (.lst v3)) := s8.trans (same_new nM)
    refine gn0 (asg_cat ⟨.ref M, rfl, ?_⟩)
    refine use_eva (K := K) (N := N) (H0 := H7) (t := tSome7 K) (R := AllP Top 7) ?_ s9 fun v7 d7 Ha sa q7 p7 => ?_
    · exact some7 kn7 rfl dqp7 (pan_tupP hg) (pan_mid hg) (pan_ne hg) rfl qo7 lo
    refine ⟨by rw [q7.length, p7.1]; decide, fun M' nM' => ⟨M, M', v3, v7, rfl, rfl, same_new nM' _ _ (sa _ _ upd_same), upd_same, by rw [q3.length, p3.1, q7.length, p7.1]; decide, fun p2 np2 => ?_⟩⟩
    have sB : Same Ha (upd (upd Ha M' (.lst v7)) p2 (.lst (v3 ++ v7))) := (same_new nM').trans (same_new np2)
    have sC : Same H7 (upd (upd Ha M' (.lst v7)) p2 (.lst (v3 ++ v7))) := (s9.trans sa).trans sB
    have hall2 : DqAll K N (upd (upd Ha M' (.lst v7)) p2 (.lst (v3 ++ v7))) (v3 ++ v7) (d3 ++ d7) := (Dq.sameAll (((same_new nM).trans sa).trans sB) d3 v3 q3).append (Dq.sameAll sB d7 v7 q7)
    have hP2 := p3.append p7
    have f2 := (D7.same ((s9.trans sa).trans (same_new nM'))).fresh np2
    have DC := D7.same sC
    refine ⟨.ref p2, rfl, .ref a, rfl, a, c, m, 14, rfl, DC, by decide, by decide, fun Hd r' bd Dd r0' r1' => ?_⟩
    have hlen2 : (v3 ++ v7).length = 10 := by rw [hall2.length, hP2.1]
    obtain ⟨j, hj, hjl⟩ : ∃ j : Nat, ixN (v3 ++ v7).length (r' - 4) = some j ∧ j < (v3 ++ v7).length := by
      rw [hlen2]
      unfold ixN
      by_cases h : 0 ≤ r' - 4
      · rw [if_pos h, if_pos (by omega)]; exact ⟨_, rfl, by omega⟩
      · rw [if_neg h, if_pos (by omega)]; exact ⟨_, rfl, by omega⟩
    obtain ⟨dd, hdd, qd⟩ := (hall2.but na nc DC bd).get j _ (List.getElem?_eq_getElem hjl)
    refine ⟨r', 4, rfl, rfl, p2, _, r' - 4, (v3 ++ v7)[j], rfl, rfl, .inl (.inl (bd _ _ f2.1 f2.2 upd_same)), ?_, ?_⟩
    · unfold atI
      rw [hj]
      exact List.getElem?_eq_getElem hjl
    · refine q _ _ dd (((((b1.trans b2).trans (But.of s6)).trans b7).trans (But.of sC)).trans bd) Dd qd (hP2.2 dd (List.mem_of_getElem? hdd))
end
end K00
namespace K00
open PySem PySem.Spec PyProof.Rows L2 Pr
def nLaw : List Str := ["_law_script", "_law_deck_here", "_law_turn", "_law_panel_here", "_law_twin_here", "_law_values", "_law_value", "_law_before", "_law_due", "_law_released", "_law_k", "_law_again"]
theorem scLaw : FnScope nLaw ["_law_script"] (defScope sLaw) := ⟨rfl, rfl, rfl, by decide +kernel, rfl, by decide +kernel, by decide +kernel⟩
theorem pick3 {y : Int} (h0 : 0 ≤ y) (h1 : y < 3) : ∃ v : Int, atI [V.int 10, .int 3, .int 6] y = some (.int v) ∧ 1 ≤ v ∧ v ≤ 10 := by
  obtain rfl | rfl | rfl : y = 0 ∨ y = 1 ∨ y = 2 := by omega
  · exact ⟨10, rfl, by decide, by decide⟩
  · exact ⟨3, rfl, by decide, by decide⟩
  · exact ⟨6, rfl, by decide, by decide⟩
/-- a value of the law -/
def VP (K : PySem.W.Frag) (a c : Addr) (H : Hp) (x : V) : Prop := ∃ (N : Addr → Prop) (d : PyData), N a ∧ N c ∧ Dq K N H x d ∧ Top d
theorem VP.same {K : PySem.W.Frag} {a c : Addr} {H H' : Hp} {x : V} (s : Same H H') (h : VP K a c H x) : VP K a c H' x := by
  obtain ⟨N, d, na, nc, q, t⟩ := h
  exact ⟨N, d, na, nc, Dq.same s d x q, t⟩
theorem VP.but {K : PySem.W.Frag} {a c : Addr} {H H' : Hp} {x : V} {m : Nat} (D : Deck H a c m) (b : But a c H H') (h : VP K a c H x) : VP K a c H' x := by
  obtain ⟨N, d, na, nc, q, t⟩ := h
  exact ⟨N, d, na, nc, q.but na nc D b, t⟩
theorem vp_all {K : PySem.W.Frag} {a c : Addr} {N : Addr → Prop} {H : Hp} {vs : List V} {ds : List PyData} {n : Nat} (na : N a) (nc : N c) (h : DqAll K N H vs ds) (p : AllP Top n ds) : ∀ x ∈ vs, VP K a c H x := fun x hx => by
  obtain ⟨i, hi⟩ := List.getElem?_of_mem hx
  obtain ⟨d, hd, q⟩ := h.get i x hi
  exact ⟨N, d, na, nc, q, p.2 d (List.mem_of_getElem? hd)⟩
theorem of_cons {t : TE} {r : TA} {σ : L2.St} {H : Hp} {Q : List V → Hp → Prop} (h : t σ H fun x H1 => r σ H1 fun xs H2 => Q (x :: xs) H2) : tCons t r σ H Q := h
section
variable {K : PySem.W.Frag} {N : Addr → Prop} {σ : L2.St} {H0 : Hp}
theorem ev_two {x y : TE} {P P' : PyData → Prop} (h1 : Ev K N σ H0 x P) (h2 : Ev K N σ H0 y P) (f : ∀ d, TupP P 2 d → P' d) : Ev K N σ H0 (tTup (tCons x (tCons y tNil))) P' :=
  ev_tup (eva_cons h1 (eva_cons h2 (eva_nil AllP.nil))) (fun ds hd => by rw [hd.1]; decide) fun ds hd => f _ ⟨ds, rfl, Nat.le_of_eq hd.1, hd.2⟩
theorem mid1 {i : Int} (h0 : 0 ≤ i) (h1 : i < 100) : Ev K N σ H0 (tTup (tCons (tC (.int i)) tNil)) Mid := one_tup (P := Low) (ev_int (low_int h0 h1)) fun d h => tup_mid (h.mono (fun _ x => x) (by decide))
theorem midb (b : Bool) : Ev K N σ H0 (tTup (tCons (tC (.bl b)) tNil)) Mid := one_tup (P := Low) (ev_bl (low_bool b)) fun d h => tup_mid (h.mono (fun _ x => x) (by decide))
theorem mid0 : Ev K N σ H0 (tTup tNil) Mid := ev_tup (eva_nil (R := (· = [])) rfl) (fun _ e => by rw [e]; decide) (fun _ e => by rw [e]; exact Low.mid (show lowB _ = true by decide +kernel))
theorem up2 {n : Nat} {d : PyData} (hn : n ≤ 200) (h : TupP Mid n d) : Top d := tup_top (h.mono (fun _ x => x) hn)
def tVal6 : TA := tCons (tTup (tCons (tTup (tCons (tC (.int 1)) tNil)) (tCons (tTup (tCons (tC (.int 0)) tNil)) tNil))) (tCons (tTup (tCons (tTup (tCons (tC (.bl true)) tNil)) (tCons (tTup (tCons (tC (.int 0)) tNil)) tNil))) (tCons (tTup (tCons (tTup (tCons (tC (.int 1)) tNil)) (tCons (tTup (tCons (tC (.bl false)) tNil)) tNil)))
  (tCons (tTup (tCons (tTup (tCons (tC (.int 1)) tNil)) (tCons (tTup (tCons (tC (.int 0)) tNil)) tNil))) (tCons (tTup (tCons (tTup (tCons (tC (.int 0)) tNil)) tNil)) (tCons (tTup (tCons (tTup (tCons (tC (.int 1)) tNil)) (tCons (tTup (tCons (tC (.int 1)) tNil)) tNil))) tNil)))))
theorem val6 : EvA K N σ H0 tVal6 (AllP Top 6) := by
  have m1 : Ev K N σ H0 (tTup (tCons (tC (.int 1)) tNil)) Mid := mid1 (by decide) (by decide)
  have m0 : Ev K N σ H0 (tTup (tCons (tC (.int 0)) tNil)) Mid := mid1 (by decide) (by decide)
  exact eva_cons (ev_two m1 m0 fun d h => up2 (by decide) h) (eva_cons (ev_two (midb true) m0 fun d h => up2 (by decide) h) (eva_cons (ev_two m1 (midb false) fun d h => up2 (by decide) h) (eva_cons (ev_two m1 m0 fun d h => up2 (by decide) h)
    (eva_cons (one_tup m0 fun d h => up2 (by decide) h) (eva_cons (ev_two m1 m1 fun d h => up2 (by decide) h) (eva_nil AllP.nil))))))
theorem top0 : Ev K N σ H0 (tTup tNil) Top := ev_tup (eva_nil (R := (· = [])) rfl) (fun _ e => by rw [e]; decide) (fun _ e => by rw [e]; exact Low.top (show lowB _ = true by decide +kernel))
theorem top1 : Ev K N σ H0 (tTup (tCons (tTup tNil) tNil)) Top := one_tup mid0 fun d h => up2 (by decide) h
theorem topr {k : Int} (hk : 2 ≤ k) (hk2 : k ≤ 100) : Ev K N σ H0 (tOp (rRepT K) (tTup (tCons (tTup tNil) tNil)) (tC (.int k))) Top :=
  ev_rep (n := 1) (P := Mid) (ev_tup (eva_cons mid0 (eva_nil AllP.nil)) (fun ds hd => by rw [hd.1]; decide) fun ds hd => ⟨⟨ds, rfl, Nat.le_of_eq hd.1, hd.2⟩, fun e => by
    have e' : ds = [] := PyData.tuple.inj e
    rw [e'] at hd
    exact absurd hd.1 (by decide)⟩) hk (by omega) (by decide) fun d h => up2 (by omega) h
end
theorem dq_upd {K : PySem.W.Frag} {N : Addr → Prop} {H : Hp} {T : Addr} {ys zs : List V} (nT : N T) (e : H T = some (.lst ys)) {vs : List V} {ds : List PyData} (h : DqAll K N H vs ds) : DqAll K N (upd H T (.lst zs)) vs ds := by
  refine Dq.keepAll (fun l o hl q => ?_) (fun l xs q => ?_) (fun l kvs q => ?_) ds vs h
  · rw [upd_ne (fun z => hl (by rw [z]; exact nT))]; exact q
  · rcases q with (q | ⟨o, q⟩) | q
    · exact .inl (.inl (by rw [upd_ne (ne_of q e (by intro z; cases z))]; exact q))
    · exact .inl (.inr ⟨o, by rw [upd_ne (ne_of q e (by intro z; cases z))]; exact q⟩)
    · exact .inr q
  · rw [upd_ne (ne_of q e (by intro z; cases z))]; exact q
theorem sqT_upd {K : PySem.W.Frag} {H : Hp} {T l : Addr} {ys zs xs : List V} (e : H T = some (.lst ys)) (q : SqT K H l xs) : SqT K (upd H T (.lst zs)) l xs := by
  rcases q with (q | ⟨o, q⟩) | q
  · exact .inl (.inl (by rw [upd_ne (ne_of q e (by intro z; cases z))]; exact q))
  · exact .inl (.inr ⟨o, by rw [upd_ne (ne_of q e (by intro z; cases z))]; exact q⟩)
  · exact .inr q
/-- an error as data: None, or a pair of None or a small number and a short text -/
def ErrP (e : PyData) : Prop := e = .none ∨ ∃ (k : PyData) (x : Str), e = dErr k x ∧ (k = .none ∨ ∃ i : Int, k = .int i ∧ 0 ≤ i ∧ i < 100) ∧ (reprText x).length ≤ 20
theorem errFrom_P {n : Int} : ∀ (ds : List PyData) (k : Nat), k + ds.length ≤ 50 → ErrP (errFrom n k ds)
  | [], k, _ => .inl rfl
  | d :: r, k, h => by
    rw [List.length_cons] at h
    unfold errFrom
    split
    · split
      · exact .inr ⟨_, _, rfl, .inr ⟨_, rfl, by omega, by omega⟩, by decide +kernel⟩
      · exact errFrom_P r (k + 1) (by omega)
    · exact .inr ⟨_, _, rfl, .inr ⟨_, rfl, by omega, by omega⟩, by decide +kernel⟩
theorem errD_P (d : PyData) : ErrP (errD d) := by
  have bad : ErrP (dErr .none "panel") := .inr ⟨_, _, rfl, .inl rfl, by decide +kernel⟩
  cases d with
  | tuple ds =>
    by_cases h : 1 ≤ ds.length ∧ ds.length ≤ 10
    · show ErrP (if 1 ≤ ds.length ∧ ds.length ≤ 10 then _ else _)
      rw [if_pos h]
      exact errFrom_P ds 0 (by omega)
    · show ErrP (if 1 ≤ ds.length ∧ ds.length ≤ 10 then _ else _)
      rw [if_neg h]
      exact bad
  | _ => exact bad
theorem ErrP.shw {e : PyData} (h : ErrP e) : Shw 1 60 e := by
  rcases h with rfl | ⟨k, x, rfl, hk, hx⟩
  · exact ⟨by decide +kernel, by decide +kernel, by decide +kernel, by decide +kernel⟩
  · refine (Shw.tuple (dep := 0) (n := 20) (m := 2) (fun d hd => ?_) (Nat.le_refl _)).mono (by decide) (by decide)
    rcases List.mem_cons.mp hd with rfl | hd
    · rcases hk with rfl | ⟨i, rfl, h0, h1⟩
      · exact ⟨by decide +kernel, by decide +kernel, by decide +kernel, by decide +kernel⟩
      · exact (Shw.int (k := 2) h0 (by decide) (by decide) h1).mono (by decide) (by decide)
    · obtain rfl := List.mem_singleton.mp hd
      exact ⟨by simp only [PyData.showable], by simp only [PyData.hasDict], by simp [PyData.depth], by simpa only [PyData.shown] using hx⟩
theorem ErrP.dp {K : PySem.W.Frag} {H H' : Hp} {e : PyData} {u : V} (h : ErrP e) (ht : ∀ l xs, SqT K H l xs → SqT K H' l xs) (q : Dp K H u e) : Dp K H' u e := by
  rcases h with rfl | ⟨k, x, rfl, hk, hx⟩
  · cases q; exact .non
  · cases q with
    | tup hs ha =>
      refine .tup (ht _ _ hs) ?_
      cases ha with
      | cons q1 q2 =>
        cases q2 with
        | cons q3 q4 =>
          cases q4
          cases q3
          rcases hk with rfl | ⟨i, rfl, _⟩
          · cases q1; exact .cons .non (.cons (.str x) .nil)
          · cases q1; exact .cons (.int i) (.cons (.str x) .nil)
section
variable {P : Program} {w : World} {K : PySem.W.Frag} {mg : Str → Option Value} {base : Heap}
def spLaw (K : PySem.W.Frag) : Sp := fun vs H Q _ => ∃ (s : Addr) (ns : List Int), vs = [.ref s] ∧ SqL K H s (ns.map V.int) ∧ ns.length ≤ 63 ∧ ∀ H', Q (.bl true) H'
theorem ok_law {f f1 f2 f3 f4 f5 f6 f7 f8 f9 fa fb fc fe : Addr} {fd d1 d2 d3 d4 d5 d6 d7 d8 d9 da db dc de : FuncData} {tk : Tok} (F : Fun K "law" "law" sLaw f fd)
    (F1 : Fun K "is_button" "is_button" sBtn f1 d1) (b1 : Binds K d1 ["value", "many"] []) (g1 : mg "is_button" = some (.ref f1))
    (F2 : Fun K "is_button_tuple" "is_button_tuple" sBtnT f2 d2) (b2 : Binds K d2 ["value", "many"] []) (g2 : mg "is_button_tuple" = some (.ref f2))
    (F3 : Fun K "is_panel" "is_panel" sIsPan f3 d3) (b3 : Binds K d3 ["value"] []) (g3 : mg "is_panel" = some (.ref f3))
    (F4 : Fun K "panel_error" "panel_error" sPErr f4 d4) (b4 : Binds K d4 ["value"] []) (g4 : mg "panel_error" = some (.ref f4))
    (F5 : Fun K "_law_deck" "_law_deck" sDeck f5 d5) (b5 : Binds K d5 ["_law_script"] []) (g5 : mg "_law_deck" = some (.ref f5))
    (F6 : Fun K "_law_draw" "_law_draw" sDraw f6 d6) (b6 : Binds K d6 ["_law_deck_here", "_law_limit"] []) (g6 : mg "_law_draw" = some (.ref f6))
    (F7 : Fun K "_law_same" "_law_same" sSame f7 d7) (b7 : Binds K d7 ["_law_value", "_law_due"] []) (g7 : mg "_law_same" = some (.ref f7))
    (F8 : Fun K "_law_is_number" "_law_is_number" sIsNum f8 d8) (b8 : Binds K d8 ["_law_value", "_law_low", "_law_high"] []) (g8 : mg "_law_is_number" = some (.ref f8))
    (F9 : Fun K "_law_panel" "_law_panel" sPanel f9 d9) (b9 : Binds K d9 ["_law_deck_here", "_law_most"] []) (g9 : mg "_law_panel" = some (.ref f9))
    (Fa : Fun K "_law_odd" "_law_odd" sOdd fa da) (ba : Binds K da ["_law_deck_here"] []) (ga : mg "_law_odd" = some (.ref fa))
    (Fb : Fun K "_law_error" "_law_error" sErr fb db) (bb : Binds K db ["_law_value"] []) (gb : mg "_law_error" = some (.ref fb))
    (Fc : Fun K "_law_twin" "_law_twin" sTwin fc dc) (bc : Binds K dc ["_law_row"] []) (gc : mg "_law_twin" = some (.ref fc))
    (Fe : Fun K "_law_changed" "_law_changed" sChanged fe de) (be : Binds K de ["_law_deck_here", "_law_panel_here"] []) (ge : mg "_law_changed" = some (.ref fe))
    (ml : mg "len" = none) (mr : mg "range" = none) (mt : mg "tuple" = none) (me : mg "enumerate" = none) (ma : mg "abs" = none) (mp : mg "repr" = none) (mi : mg "isinstance" = none) (mb : mg "bool" = none) (mn : mg "int" = none)
    (mL : mg "list" = none) (mS : mg "sorted" = none) (mO : mg "set" = none) (mM : mg "MAX_BUTTONS" = some (.int 10 tk)) : FnG P w K mg base 5 f fd ["_law_script"] (spLaw K) := by
  have G4 : FnOk P w K mg base CX0 3 f4 d4 ["value"] (spPErr K) := ok_perr F4 F1 b1 g1 F2 b2 g2 mM mi mb mn mt ml me
  have G3 : FnOk P w K mg base CX0 4 f3 d3 ["value"] (spIsPan K) := ok_isPan F3 F4 b4 g4 G4
  have G5 : FnOk P w K mg base CX0 1 f5 d5 ["_law_script"] (spDeck K) := ok_deck F5 ma
  have G7 : FnG P w K mg base 1 f7 d7 ["_law_value", "_law_due"] (spSame K) := ok_same F7 mp
  have G9 : FnOk P w K mg base CX0 2 f9 d9 ["_law_deck_here", "_law_most"] spPanel := ok_panel F9 F6 b6 g6 ml mr mt
  have Ga : FnOk P w K mg base CX0 2 fa da ["_law_deck_here"] (spOdd K) := ok_odd Fa F6 b6 g6 ml
  have Gb : FnOk P w K mg base CX0 2 fb db ["_law_value"] (spErr K) := ok_err Fb F8 b8 g8 mi mb mn mt ml me mL mS mO
  have Gc : FnOk P w K mg base CX0 1 fc dc ["_law_row"] (spTwin K) := ok_twin Fc mt mn
  have Ge : FnOk P w K mg base CX0 3 fe de ["_law_deck_here", "_law_panel_here"] (spCh K) := ok_ch Fe F6 b6 g6 Fa ba ga ml mt mL mS
  refine okG F scLaw (fun vs H Q E h => ?_) (fun cdv A outer s H vs Q E gd hr h => ?_)
  · obtain ⟨s, ns, rfl, _⟩ := h
    rfl
  · obtain ⟨sc, ns, rfl, hS, hlen, q⟩ := h
    refine ⟨_, pss_cons (ps_set (i := 1) scLaw.nd rfl (.inr rfl) (pe_call G5 (hr.mono (by decide)) (by rfl) g5 F5.kp b5 .nil pass0 (pa_cons (pv 0) pa_nil)))
      (pss_cons (ps_for PassesOwn.never rfl (pi_range1 (by rfl) mr (pa_cons pe_int pa_nil)) (pg_name (i := 2) scLaw.nd rfl (.inl rfl))
        (pss_cons (ps_set (i := 3) scLaw.nd rfl (.inr rfl) (pe_call G9 (hr.mono (by decide)) (by rfl) g9 F9.kp b9 .nil pass0 (pa_cons (pv 1) (pa_cons (pe_ix ix_list (pe_lst (pa_cons pe_int (pa_cons pe_int (pa_cons pe_int pa_nil)))) (pe_op op_mod (pv 2) pe_int) (fun _ _ => rfl)) pa_nil))))
        (pss_cons (ps_set (i := 4) scLaw.nd rfl (.inl rfl) (pe_callTy (show CallR _ _ (rTupF K) from call_tupF) (by rfl) mt (by decide +kernel) (pa_cons (pe_lc (own := [("_law_released", 9)]) (g := gName 9) (tt := tYes) rfl scLaw.nd (pi_tup (pv 3))
            (blkOk_by (own := [("_law_released", 9)]) (N := nLaw) (sc := defScope sLaw) (by decide +kernel)) (fun _ _ _ _ _ => pg_name (i := 9) scLaw.nd rfl (Or.inl rfl)) (fun _ _ _ _ _ => pts_nil)
            (fun _ _ _ _ _ => pe_call Gc (hr.mono (by decide)) (by rfl) gc Fc.kp bc .nil pass0 (pa_cons (pv 9) pa_nil))) pa_nil)))
        (pss_cons (ps_set (i := 5) scLaw.nd rfl (.inl rfl) (pe_lst (pa_cons (pv 3) (pa_cons (pv 4) (pa_cons (pv 3) (pa_cons (pe_tup pa_nil) (pa_cons (pe_tup (pa_cons (pe_tup pa_nil) pa_nil)) (pa_cons (pe_op (show OpR _ _ (rRepT K) from op_repT) (pe_tup (pa_cons (pe_tup pa_nil) pa_nil)) pe_int)
            (pa_cons (pe_op (show OpR _ _ (rRepT K) from op_repT) (pe_tup (pa_cons (pe_tup pa_nil) pa_nil)) pe_int) (pa_cons (pe_call Ga (hr.mono (by decide)) (by rfl) ga Fa.kp ba .nil pass0 (pa_cons (pv 1) pa_nil)) pa_nil))))))))))
        (pss_cons (ps_set (i := 5) scLaw.nd rfl (.inl rfl) (pe_op op_cat (pv 5) (pe_lst
            (pa_cons (pe_tup (pa_cons (pe_tup (pa_cons pe_int pa_nil)) (pa_cons (pe_tup (pa_cons pe_int pa_nil)) pa_nil))) (pa_cons (pe_tup (pa_cons (pe_tup (pa_cons pe_bl pa_nil)) (pa_cons (pe_tup (pa_cons pe_int pa_nil)) pa_nil))) (pa_cons (pe_tup (pa_cons (pe_tup (pa_cons pe_int pa_nil)) (pa_cons (pe_tup (pa_cons pe_bl pa_nil)) pa_nil)))
            (pa_cons (pe_tup (pa_cons (pe_tup (pa_cons pe_int pa_nil)) (pa_cons (pe_tup (pa_cons pe_int pa_nil)) pa_nil))) (pa_cons (pe_tup (pa_cons (pe_tup (pa_cons pe_int pa_nil)) pa_nil)) (pa_cons (pe_tup (pa_cons (pe_tup (pa_cons pe_int pa_nil)) (pa_cons (pe_tup (pa_cons pe_int pa_nil)) pa_nil))) pa_nil)))))))))
        (pss_cons (ps_set (i := 5) scLaw.nd rfl (.inl rfl) (pe_op op_cat (pv 5) (pe_lc (own := [("_law_k", 10)]) (g := gName 10) (tt := tYes) rfl scLaw.nd (pi_range1 (by rfl) mr (pa_cons pe_int pa_nil))
            (blkOk_by (own := [("_law_k", 10)]) (N := nLaw) (sc := defScope sLaw) (by decide +kernel)) (fun _ _ _ _ _ => pg_name (i := 10) scLaw.nd rfl (Or.inl rfl)) (fun _ _ _ _ _ => pts_nil)
            (fun _ _ _ _ _ => pe_call Ge (hr.mono (by decide)) (by rfl) ge Fe.kp be .nil pass0 (pa_cons (pv 1) (pa_cons (pv 3) pa_nil))))))
        (pss_one (ps_for PassesOwn.never rfl (pi_list (pv 5)) (pg_name (i := 6) scLaw.nd rfl (.inr rfl))
          (pss_cons (ps_par (i := 7) (j := 8) rfl scLaw.nd rfl rfl (by decide) rfl rfl (pa_cons (pe_callB (call_reprQ gd hr) (by rfl) mp (by decide +kernel) (pa_cons (pv 6) pa_nil)) (pa_cons (pe_call Gb (hr.mono (by decide)) (by rfl) gb Fb.kp bb .nil pass0 (pa_cons (pv 6) pa_nil)) pa_nil)) (by rfl))
          (pss_cons (ps_if (pt_not (pt_val (pe_callG G7 gd (hr.mono (by decide)) (by rfl) g7 F7.kp b7 (pa_cons (pe_lc (own := [("_law_again", 11)]) (g := gName 11) (tt := tYes) rfl scLaw.nd (pi_range1 (by rfl) mr (pa_cons pe_int pa_nil))
              (blkOk_by (own := [("_law_again", 11)]) (N := nLaw) (sc := defScope sLaw) (by decide +kernel)) (fun _ _ _ _ _ => pg_name (i := 11) scLaw.nd rfl (Or.inl rfl)) (fun _ _ _ _ _ => pts_nil)
              (fun _ _ _ _ _ => pe_call G4 (hr.mono (by decide)) (by rfl) g4 F4.kp b4 .nil pass0 (pa_cons (pv 6) pa_nil))) (pa_cons (pe_lst (pa_cons (pv 8) (pa_cons (pv 8) pa_nil))) pa_nil))))) (pss_one (ps_ret pe_bl)) pss_nil)
          (pss_one (ps_if (PW.pt (pw_or (pt_cmpR op_ne (pe_callB (call_reprQ gd hr) (by rfl) mp (by decide +kernel) (pa_cons (pe_call G3 hr (by rfl) g3 F3.kp b3 .nil pass0 (pa_cons (pv 6) pa_nil)) pa_nil)) (pe_callB (call_reprQ gd hr) (by rfl) mp (by decide +kernel) (pa_cons (pe_cmp (pc_isN (pv 8)) rfl) pa_nil)) (nomark _))
              (pw_or1 (pt_cmpR op_ne (pe_callB (call_reprQ gd hr) (by rfl) mp (by decide +kernel) (pa_cons (pv 6) pa_nil)) (pv 7) (nomark _))))) (pss_one (ps_ret pe_bl)) pss_nil))))))))))))
      (pss_one (ps_ret pe_bl))), ?_⟩
    refine ⟨.ref sc, rfl, sc, ns, rfl, hS, hlen, fun H1 a c s1 D1 => ?_⟩
    refine ⟨8, rfl, by decide, by decide, ?_⟩
    refine for_range (n := 8) (fun i σ H2 => Deck H2 a c (3000 - 300 * i) ∧ ∃ x2 x3 x4 x5 x6 x7 x8 x9 x10 x11, σ = [some (.ref sc), some (.ref a), x2, x3, x4, x5, x6, x7, x8, x9, x10, x11]) ⟨D1.less (by omega), none, none, none, none, none, none, none, none, none, none, rfl⟩ (fun i σ H2 hi hP => ?_) (fun σ H2 hP => ?_)
    · obtain ⟨D2, x2, x3, x4, x5, x6, x7, x8, x9, x10, x11, rfl⟩ := hP
      obtain ⟨v, hv, v1, v10⟩ := pick3 (y := (0 + (i : Int)) % 3) (Int.emod_nonneg _ (by decide)) (Int.emod_lt_of_pos _ (by decide))
      refine ⟨.ref a, rfl, by show 3 ≤ sizeLine; decide, fun L0 nL0 => ⟨.int (0 + (i : Int)), rfl, _, 3, rfl, rfl, (by show (0 : Int) < 3; decide), L0, _, _, .int v, rfl, rfl, .inl (.inl upd_same), hv, a, c, 2800 - 300 * i, v, rfl,
        (D2.same (same_new nL0)).less (by omega), v1, v10, fun H3 p pan b3 D3 hp hg => ?_⟩⟩
      have few := hg.few
      obtain ⟨qs, hq, hqs⟩ := id hp
      have hl : (qs.map V.ref).length = pan.length := by rw [List.length_map, hqs.length]
      -- twin
      refine ⟨.ref p, rfl, p, rfl, ⟨_, hq.sq⟩, fun T nT => ?_⟩
      have oT := D3.fresh nT
      refine lc_tup (xs := qs.map V.ref) (fun j H4 => Same H3 H4 ∧ ∃ vs ds, H4 T = some (.lst vs) ∧ DqAll K (fun x => x = T ∨ x = a ∨ x = c) H4 vs ds ∧ AllP Mid j ds) ⟨same_new nT, [], [], upd_same, .nil, AllP.nil⟩ (fun j H4 _ hP => same_sqT hP.1 hq.sq) (fun j x H4 hx hP => ?_) (fun H4 hP => ?_)
      · obtain ⟨s4, vs, ds, eT, qT, pT⟩ := hP
        have hj : j < pan.length := by rw [← hl]; exact (List.getElem?_eq_some_iff.mp hx).1
        obtain ⟨q', r1, r2⟩ := paired_get hqs j pan[j] (List.getElem?_eq_getElem hj)
        obtain rfl : V.ref q' = x := by
          rw [List.getElem?_map, r1] at hx
          exact Option.some.inj hx
        have rl := hg.rng _ (List.getElem_mem hj)
        have ll := pw_length (n := 10) (lo := 0) (hg.up _ (List.getElem_mem hj)) fun x hx => by have := rl x hx; omega
        refine ⟨rfl, tyes (iteT ⟨.ref q', rfl, (fun x => x = T ∨ x = a ∨ x = c), q', pan[j], rfl, (r2.same s4).sq, by omega, fun x hx => by have := rl x hx; omega, fun H5 t d s5 qd pd => ⟨vs, s5 _ _ eT, by rw [qT.length, pT.1]; exact small1000 (by omega), ?_, vs ++ [.ref t], ds ++ [d], upd_same, ?_, ?_⟩⟩)⟩
        · intro b o e
          rw [upd_ne (ne_of_none e nT)]
          exact s5 _ _ (s4 _ _ e)
        · exact (dq_upd (.inl rfl) (s5 _ _ eT) (Dq.sameAll s5 ds vs qT)).append (dq_upd (.inl rfl) (s5 _ _ eT) (.cons qd .nil))
        · exact pT.append (AllP.cons (tup_mid pd) AllP.nil)
      · obtain ⟨s4, vs, ds, eT, qT, pT⟩ := hP
        rw [hl] at pT
        refine ⟨T, vs, rfl, .inl (.inl eT), fun tw o ntw ho => ?_⟩
        have s6 : Same H3 (upd H4 tw (.frz o (.tup vs))) := s4.trans (same_new ntw)
        have qtw : Dq K (fun x => x = T ∨ x = a ∨ x = c) (upd H4 tw (.frz o (.tup vs))) (.ref tw) (.tuple ds) := .tup (.inl (.inr ⟨o, upd_same⟩)) (Dq.sameAll (same_new ntw) ds vs qT)
        have ttw : Top (.tuple ds) := tup_top ⟨ds, rfl, by rw [pT.1]; omega, pT.2⟩
        -- values
        refine gn (asg_lst ?_)
        refine of_cons ⟨.ref p, rfl, of_cons ⟨.ref tw, rfl, of_cons ⟨.ref p, rfl, ?_⟩⟩⟩
        refine of_cons (top0 (K := K) (N := fun x => x = a ∨ x = c) (H0 := upd H4 tw (.frz o (.tup vs))) _ _ (Same.refl _) fun v4 e4 H7 s7 q4 p4 => ?_)
        refine of_cons (top1 (K := K) (N := fun x => x = a ∨ x = c) (H0 := upd H4 tw (.frz o (.tup vs))) _ _ s7 fun v5 e5 H8 s8 q5 p5 => ?_)
        refine of_cons (topr (K := K) (N := fun x => x = a ∨ x = c) (H0 := upd H4 tw (.frz o (.tup vs))) (k := 10) (by decide) (by decide) _ _ (s7.trans s8) fun v6 e6 H9 s9 q6 p6 => ?_)
        refine of_cons (topr (K := K) (N := fun x => x = a ∨ x = c) (H0 := upd H4 tw (.frz o (.tup vs))) (k := 11) (by decide) (by decide) _ _ ((s7.trans s8).trans s9) fun v7 e7 Ha sa q7 p7 => ?_)
        have sA : Same (upd H4 tw (.frz o (.tup vs))) Ha := ((s7.trans s8).trans s9).trans sa
        have s3a := s6.trans sA
        have Da := D3.same s3a
        have kna := Deck.kn Da
        refine of_cons ⟨.ref a, rfl, (fun x => Ha x ≠ none), a, c, 2790 - 300 * i, rfl, Da.less (by omega), kna.1, kna.2, fun x h => h, fun Hb vo dO bb Db qo lo => ?_⟩
        have hpb : PanAt Hb p pan := (hp.same s3a).but Da bb
        have na : ∀ (N : Addr → Prop), N a → N c → ∀ (v : V) (d : PyData), Dq K N Ha v d → Top d → VP K a c Hb v := fun N h1 h2 v d qd td => ⟨N, d, h1, h2, qd.but h1 h2 Da bb, td⟩
        have vp : VP K a c Hb (.ref p) := ⟨fun x => x = a ∨ x = c, dPan pan, .inl rfl, .inr rfl, PanAt.dq hpb, tup_top ((pan_tupP hg).mono (fun _ x => x) (by decide))⟩
        have hv8 : ∀ x ∈ [V.ref p, .ref tw, .ref p, v4, v5, v6, v7, vo], VP K a c Hb x := by
          intro x hx
          rcases List.mem_cons.mp hx with rfl | hx
          · exact vp
          rcases List.mem_cons.mp hx with rfl | hx
          · exact na (fun x => x = T ∨ x = a ∨ x = c) (.inr (.inl rfl)) (.inr (.inr rfl)) _ _ (Dq.same sA _ _ qtw) ttw
          rcases List.mem_cons.mp hx with rfl | hx
          · exact vp
          rcases List.mem_cons.mp hx with rfl | hx
          · exact na (fun x => x = a ∨ x = c) (.inl rfl) (.inr rfl) _ _ (Dq.same ((s8.trans s9).trans sa) _ _ q4) p4
          rcases List.mem_cons.mp hx with rfl | hx
          · exact na (fun x => x = a ∨ x = c) (.inl rfl) (.inr rfl) _ _ (Dq.same (s9.trans sa) _ _ q5) p5
          rcases List.mem_cons.mp hx with rfl | hx
          · exact na (fun x => x = a ∨ x = c) (.inl rfl) (.inr rfl) _ _ (Dq.same sa _ _ q6) p6
          rcases List.mem_cons.mp hx with rfl | hx
          · exact na (fun x => x = a ∨ x = c) (.inl rfl) (.inr rfl) _ _ q7 p7
          · obtain rfl := List.mem_singleton.mp hx
            exact ⟨_, dO, kna.1, kna.2, qo, lo.top⟩
        refine ⟨by show 8 ≤ sizeLine; decide, fun L nL => ?_⟩
        refine gn0 (asg_cat ⟨.ref L, rfl, ?_⟩)
        refine use_eva (K := K) (N := fun x => x = a ∨ x = c) (H0 := Hb) (t := tVal6) (R := AllP Top 6) val6 (same_new nL) fun w6 d6 Hc s12 q12 p12 => ?_
        refine ⟨by rw [q12.length, p12.1]; decide, fun L' nL' => ⟨L, L', _, _, rfl, rfl, same_new nL' _ _ (s12 _ _ upd_same), upd_same, by rw [q12.length, p12.1]; show 8 + 6 ≤ sizeLine; decide, fun M nM => ?_⟩⟩
        have sM : Same (upd Hc L' (.lst w6)) (upd (upd Hc L' (.lst w6)) M (.lst ([V.ref p, .ref tw, .ref p, v4, v5, v6, v7, vo] ++ w6))) := same_new nM
        have sL1 : Same Hb (upd Hc L' (.lst w6)) := ((same_new nL).trans s12).trans (same_new nL')
        have hM : ∀ x ∈ [V.ref p, .ref tw, .ref p, v4, v5, v6, v7, vo] ++ w6, VP K a c (upd (upd Hc L' (.lst w6)) M (.lst ([V.ref p, .ref tw, .ref p, v4, v5, v6, v7, vo] ++ w6))) x := by
          intro x hx
          rcases List.mem_append.mp hx with hx | hx
          · exact (hv8 x hx).same (sL1.trans sM)
          · exact (vp_all (.inl rfl) (.inr rfl) q12 p12 x hx).same ((same_new nL').trans sM)
        have lM : ([V.ref p, .ref tw, .ref p, v4, v5, v6, v7, vo] ++ w6).length = 14 := by rw [List.length_append, q12.length, p12.1]; rfl
        have fM := (Db.same sL1).fresh nM
        have DM := Db.same (sL1.trans sM)
        have hpM := hpb.same (sL1.trans sM)
        have eM : (upd (upd Hc L' (.lst w6)) M (.lst ([V.ref p, .ref tw, .ref p, v4, v5, v6, v7, vo] ++ w6))) M = some (.lst ([V.ref p, .ref tw, .ref p, v4, v5, v6, v7, vo] ++ w6)) := upd_same
        generalize upd (upd Hc L' (.lst w6)) M (.lst ([V.ref p, .ref tw, .ref p, v4, v5, v6, v7, vo] ++ w6)) = H13 at hM DM hpM eM ⊢
        generalize [V.ref p, .ref tw, .ref p, v4, v5, v6, v7, vo] ++ w6 = W at hM lM eM
        have knM := Deck.kn DM
        refine gn0 ⟨.ref M, rfl, 10, rfl, by decide, by decide, fun D nD => ?_⟩
        have fD := DM.fresh nD
        refine lc_range (n := 10) (fun j H14 => But a c H13 H14 ∧ Deck H14 a c (2790 - 300 * i - 4 * j) ∧ ∃ vs ds, H14 D = some (.lst vs) ∧ DqAll K (fun x => x = D ∨ H13 x ≠ none) H14 vs ds ∧ AllP Top j ds)
          ⟨But.of (same_new nD), DM.same (same_new nD), [], [], upd_same, .nil, AllP.nil⟩ (fun j H14 hj hP => ?_) (fun H14 hP => ?_)
        · obtain ⟨b14, D14, vs, ds, eD, qD, pD⟩ := hP
          refine ⟨rfl, tyes (iteT ⟨.ref a, rfl, .ref p, rfl, (fun x => x = D ∨ H13 x ≠ none), a, c, p, 2790 - 300 * i - 4 * (j + 1), pan, rfl, D14.less (by omega), .inr knM.1, .inr knM.2, fun x hx => ?_, hpM.but DM b14, hg, fun H15 v d b15 D15 qd td => ?_⟩)⟩
          · rcases hx with rfl | hx
            · rw [eD]; simp
            · exact kn_but (N := fun x => H13 x ≠ none) DM b14 D14 (fun _ h => h) x hx
          · have eD' := b15 _ _ fD.1 fD.2 eD
            refine ⟨vs, eD', by rw [qD.length, pD.1]; exact small1000 (by omega), fun b o n1 n2 e => ?_, ?_, vs ++ [v], ds ++ [d], upd_same, ?_, ?_⟩
            · rw [upd_ne (ne_of_none e nD)]
              exact b15 _ _ n1 n2 (b14 _ _ n1 n2 e)
            · obtain ⟨cs, n, e1, e2, r⟩ := D15
              exact ⟨cs, n, by rw [upd_ne (fun z => fD.1 z.symm)]; exact e1, by rw [upd_ne (fun z => fD.2 z.symm)]; exact e2, r⟩
            · exact (dq_upd (.inl rfl) eD' (qD.but (.inr knM.1) (.inr knM.2) D14 b15)).append (dq_upd (.inl rfl) eD' (.cons qd .nil))
            · exact pD.append (AllP.cons td AllP.nil)
        · obtain ⟨b14, D14, vs', ds', eD, qD, pD⟩ := hP
          refine ⟨M, D, W, vs', rfl, rfl, b14 _ _ fM.1 fM.2 eM, eD, by rw [lM, qD.length, pD.1]; decide, fun R nR => ?_⟩
          have sR : Same H14 (upd H14 R (.lst (W ++ vs'))) := same_new nR
          have hR : ∀ x ∈ W ++ vs', VP K a c (upd H14 R (.lst (W ++ vs'))) x := by
            intro x hx
            rcases List.mem_append.mp hx with hx | hx
            · exact ((hM x hx).but DM b14).same sR
            · exact (vp_all (.inr knM.1) (.inr knM.2) qD pD x hx).same sR
          have DR := D14.same sR
          have eR : (upd H14 R (.lst (W ++ vs'))) R = some (.lst (W ++ vs')) := upd_same
          generalize upd H14 R (.lst (W ++ vs')) = H16 at hR DR eR ⊢
          generalize W ++ vs' = Z at hR eR
          refine gn0 ⟨.ref R, rfl, R, rfl, ⟨Z, .inl (.inl eR)⟩, ?_⟩
          refine for_list (xs := Z) (fun j σ H17 => Same H16 H17 ∧ ∃ y6 y7 y8 y9 y10 y11, σ = [some (.ref sc), some (.ref a), some (.int (0 + (i : Int))), some (.ref p), some (.ref tw), some (.ref R), y6, y7, y8, y9, y10, y11])
            ⟨Same.refl _, _, _, _, _, _, _, rfl⟩ (fun j σ H17 _ hP => .inl (.inl (hP.1 _ _ eR))) (fun j x σ H17 hx hP => ?_) (fun σ H17 hP => ?_)
          · obtain ⟨s17, y6, y7, y8, y9, y10, y11, rfl⟩ := hP
            obtain ⟨Nx, d, _, _, qd, td⟩ := (hR x (List.mem_of_getElem? hx)).same s17
            have shd : Shq 60 sizeLine d := td.1.mono (by decide) (by decide)
            refine ⟨x, rfl, Nx, x, d, rfl, qd, shd, x, rfl, Nx, x, d, rfl, qd, smlB_spec td.2, fun H18 u s18 qu => ⟨_, _, rfl, ?_⟩⟩
            have pe := errD_P d
            refine ⟨2, rfl, by decide, by decide, fun D2 nD2 => ?_⟩
            refine lc_range (n := 2) (fun k H19 => Same H18 H19 ∧ ∃ us : List V, us.length = k ∧ H19 D2 = some (.lst us) ∧ ∀ u ∈ us, Dp K H19 u (errD d)) ⟨same_new nD2, [], rfl, upd_same, fun _ h => by cases h⟩ (fun k H19 hk hP => ?_) (fun H19 hP => ?_)
            · obtain ⟨s19, us, ul, e2, hu⟩ := hP
              refine ⟨rfl, tyes (iteT ⟨x, rfl, Nx, x, d, rfl, Dq.same (s18.trans s19) _ _ qd, fun H20 u' s20 qu' => ⟨us, s20 _ _ e2, by rw [ul]; exact small1000 (by omega), fun b o e => ?_, us ++ [u'], by rw [List.length_append, ul]; rfl, upd_same, fun u2 hu2 => ?_⟩⟩)⟩
              · rw [upd_ne (ne_of_none e nD2)]
                exact s20 _ _ (s19 _ _ e)
              · refine pe.dp (fun l xs q => sqT_upd (s20 _ _ e2) q) ?_
                rcases List.mem_append.mp hu2 with h | h
                · exact pe.dp (fun l xs q => same_sqT s20 q) (hu u2 h)
                · rw [List.mem_singleton.mp h]; exact qu'
            · obtain ⟨s19, us, ul, e2, hu⟩ := hP
              obtain ⟨t1, t2, rfl⟩ : ∃ t1 t2, us = [t1, t2] := by
                match us, ul with
                | [t1, t2], _ => exact ⟨t1, t2, rfl⟩
              refine ⟨u, rfl, u, rfl, (by show 2 ≤ sizeLine; decide), fun L2' nL2 => ?_⟩
              have sL : Same H19 (upd H19 L2' (.lst [u, u])) := same_new nL2
              have k1 : ∀ v, Dp K H19 v (errD d) → Dp K (upd H19 L2' (.lst [u, u])) v (errD d) := fun v h => pe.dp (fun l xs q => same_sqT sL q) h
              have k0 : Dp K H19 u (errD d) := pe.dp (fun l xs q => same_sqT s19 q) qu
              have she : Shw 2 200 (.list [errD d, errD d]) := (Shw.list (n := 60) (m := 2) (fun d' hd => by
                obtain rfl : d' = errD d := by simpa using hd
                exact pe.shw) (Nat.le_refl _)).mono (by decide) (by decide)
              refine ⟨D2, L2', _, rfl, .lst (.inl (.inl (sL _ _ e2))) (.cons (k1 _ (hu t1 (by simp))) (.cons (k1 _ (hu t2 (by simp))) .nil)), .lst (.inl (.inl upd_same)) (.cons (k1 _ k0) (.cons (k1 _ k0) .nil)), she.mono (by decide) (by decide), ?_⟩
              have sx : Same H17 (upd H19 L2' (.lst [u, u])) := (s18.trans s19).trans sL
              refine ⟨true, rfl, iteF ⟨x, rfl, Nx, x, d, rfl, Dq.same sx _ _ qd, fun H21 s21 => ?_⟩⟩
              have shb : ∀ b : Bool, Shq 60 sizeLine (.bool b) := fun b => (low_bool b).shq.mono (by decide) (by decide)
              have ke := dp_isN (pe.dp (fun l xs q => same_sqT s21 q) (k1 _ k0))
              refine ⟨Nx, .bl (isN (errD d)), .bool (isN (errD d)), rfl, .bl _, shb _, u, rfl, ?_⟩
              refine ⟨Nx, .bl (isN (errD d)), .bool (isN (errD d)), by rw [← ke], .bl _, shb _, rfl, _, rfl, iteNS rfl ?_⟩
              refine ⟨x, rfl, Nx, x, d, rfl, Dq.same (sx.trans s21) _ _ qd, shd, .str d.shown, rfl, rfl, _, rfl, iteNS rfl ?_⟩
              exact ⟨s17.trans (sx.trans s21), _, _, _, _, _, _, rfl⟩
          · obtain ⟨s17, y6, y7, y8, y9, y10, y11, rfl⟩ := hP
            exact ⟨(DR.same s17).less (by omega), _, _, _, _, _, _, _, _, _, _, rfl⟩
    · exact q _
end
end K00
namespace K00
open PySem PySem.Spec PyProof.Rows L2 Pr
/-! what the top has written -/
theorem all_mk {l : PySem.W.OpenLaw} {w : World} {K : PySem.W.Frag} {h : Heap} {mg : Str → Option Value} {fa f1 f2 f3 f4 f5 f6 f7 f8 f9 f10 f11 f12 f13 f14 : Addr} (X : K.In h) (G : h.Ns mainGlobals mg) (hfa : mg "law" = some (.ref fa))
    {od1 an1 od2 an2 od3 an3 od4 an4 od5 an5 od6 an6 od7 an7 od8 an8 od9 an9 od10 an10 od11 an11 od12 an12 od13 an13 od14 an14 : Option Addr} {sl1 sl2 sl3 sl4 sl5 sl6 sl7 sl8 sl9 sl10 sl11 sl12 sl13 sl14 : Array (Option Value)} {oc1 kV1 dc1 pm1 cd1 ct1 oc2 kV2 dc2 pm2 cd2 ct2 oc3 kV3 dc3 pm3 cd3 ct3 oc4 kV4 dc4 pm4 cd4 ct4 oc5 kV5 dc5 pm5 cd5 ct5 oc6 kV6 dc6 pm6 cd6 ct6 oc7 kV7 dc7 pm7 cd7 ct7 oc8 kV8 dc8 pm8 cd8 ct8 oc9 kV9 dc9 pm9 cd9 ct9 oc10 kV10 dc10 pm10 cd10 ct10 oc11 kV11 dc11 pm11 cd11 ct11 oc12 kV12 dc12 pm12 cd12 ct12 oc13 kV13 dc13 pm13 cd13 ct13 oc14 kV14 dc14 pm14 cd14 ct14 : Value}
    (a1 : PySem.W.nsIn K mainGlobals "is_button" = some (some (.ref f1))) (l1 : K.lookup f1 = some ⟨oc1, od1, .func (PySem.W.fnOf "is_button" "is_button" (defArgs sBtn) (defBody sBtn) (defScope sBtn) .none kV1 dc1 pm1 an1 cd1 ct1), sl1⟩) (c1 : PySem.W.codeIn K cd1 "is_button" = true) (k1 : PySem.W.keepIn K (.ref f1) = true)
    (a2 : PySem.W.nsIn K mainGlobals "is_button_tuple" = some (some (.ref f2))) (l2 : K.lookup f2 = some ⟨oc2, od2, .func (PySem.W.fnOf "is_button_tuple" "is_button_tuple" (defArgs sBtnT) (defBody sBtnT) (defScope sBtnT) .none kV2 dc2 pm2 an2 cd2 ct2), sl2⟩) (c2 : PySem.W.codeIn K cd2 "is_button_tuple" = true) (k2 : PySem.W.keepIn K (.ref f2) = true)
    (a3 : PySem.W.nsIn K mainGlobals "is_panel" = some (some (.ref f3))) (l3 : K.lookup f3 = some ⟨oc3, od3, .func (PySem.W.fnOf "is_panel" "is_panel" (defArgs sIsPan) (defBody sIsPan) (defScope sIsPan) .none kV3 dc3 pm3 an3 cd3 ct3), sl3⟩) (c3 : PySem.W.codeIn K cd3 "is_panel" = true) (k3 : PySem.W.keepIn K (.ref f3) = true)
    (a4 : PySem.W.nsIn K mainGlobals "panel_error" = some (some (.ref f4))) (l4 : K.lookup f4 = some ⟨oc4, od4, .func (PySem.W.fnOf "panel_error" "panel_error" (defArgs sPErr) (defBody sPErr) (defScope sPErr) .none kV4 dc4 pm4 an4 cd4 ct4), sl4⟩) (c4 : PySem.W.codeIn K cd4 "panel_error" = true) (k4 : PySem.W.keepIn K (.ref f4) = true)
    (a5 : PySem.W.nsIn K mainGlobals "_law_deck" = some (some (.ref f5))) (l5 : K.lookup f5 = some ⟨oc5, od5, .func (PySem.W.fnOf "_law_deck" "_law_deck" (defArgs sDeck) (defBody sDeck) (defScope sDeck) .none kV5 dc5 pm5 an5 cd5 ct5), sl5⟩) (c5 : PySem.W.codeIn K cd5 "_law_deck" = true) (k5 : PySem.W.keepIn K (.ref f5) = true)
    (a6 : PySem.W.nsIn K mainGlobals "_law_draw" = some (some (.ref f6))) (l6 : K.lookup f6 = some ⟨oc6, od6, .func (PySem.W.fnOf "_law_draw" "_law_draw" (defArgs sDraw) (defBody sDraw) (defScope sDraw) .none kV6 dc6 pm6 an6 cd6 ct6), sl6⟩) (c6 : PySem.W.codeIn K cd6 "_law_draw" = true) (k6 : PySem.W.keepIn K (.ref f6) = true)
    (a7 : PySem.W.nsIn K mainGlobals "_law_same" = some (some (.ref f7))) (l7 : K.lookup f7 = some ⟨oc7, od7, .func (PySem.W.fnOf "_law_same" "_law_same" (defArgs sSame) (defBody sSame) (defScope sSame) .none kV7 dc7 pm7 an7 cd7 ct7), sl7⟩) (c7 : PySem.W.codeIn K cd7 "_law_same" = true) (k7 : PySem.W.keepIn K (.ref f7) = true)
    (a8 : PySem.W.nsIn K mainGlobals "_law_is_number" = some (some (.ref f8))) (l8 : K.lookup f8 = some ⟨oc8, od8, .func (PySem.W.fnOf "_law_is_number" "_law_is_number" (defArgs sIsNum) (defBody sIsNum) (defScope sIsNum) .none kV8 dc8 pm8 an8 cd8 ct8), sl8⟩) (c8 : PySem.W.codeIn K cd8 "_law_is_number" = true) (k8 : PySem.W.keepIn K (.ref f8) = true)
    (a9 : PySem.W.nsIn K mainGlobals "_law_panel" = some (some (.ref f9))) (l9 : K.lookup f9 = some ⟨oc9, od9, .func (PySem.W.fnOf "_law_panel" "_law_panel" (defArgs sPanel) (defBody sPanel) (defScope sPanel) .none kV9 dc9 pm9 an9 cd9 ct9), sl9⟩) (c9 : PySem.W.codeIn K cd9 "_law_panel" = true) (k9 : PySem.W.keepIn K (.ref f9) = true)
    (a10 : PySem.W.nsIn K mainGlobals "_law_odd" = some (some (.ref f10))) (l10 : K.lookup f10 = some ⟨oc10, od10, .func (PySem.W.fnOf "_law_odd" "_law_odd" (defArgs sOdd) (defBody sOdd) (defScope sOdd) .none kV10 dc10 pm10 an10 cd10 ct10), sl10⟩) (c10 : PySem.W.codeIn K cd10 "_law_odd" = true) (k10 : PySem.W.keepIn K (.ref f10) = true)
    (a11 : PySem.W.nsIn K mainGlobals "_law_error" = some (some (.ref f11))) (l11 : K.lookup f11 = some ⟨oc11, od11, .func (PySem.W.fnOf "_law_error" "_law_error" (defArgs sErr) (defBody sErr) (defScope sErr) .none kV11 dc11 pm11 an11 cd11 ct11), sl11⟩) (c11 : PySem.W.codeIn K cd11 "_law_error" = true) (k11 : PySem.W.keepIn K (.ref f11) = true)
    (a12 : PySem.W.nsIn K mainGlobals "_law_twin" = some (some (.ref f12))) (l12 : K.lookup f12 = some ⟨oc12, od12, .func (PySem.W.fnOf "_law_twin" "_law_twin" (defArgs sTwin) (defBody sTwin) (defScope sTwin) .none kV12 dc12 pm12 an12 cd12 ct12), sl12⟩) (c12 : PySem.W.codeIn K cd12 "_law_twin" = true) (k12 : PySem.W.keepIn K (.ref f12) = true)
    (a13 : PySem.W.nsIn K mainGlobals "_law_changed" = some (some (.ref f13))) (l13 : K.lookup f13 = some ⟨oc13, od13, .func (PySem.W.fnOf "_law_changed" "_law_changed" (defArgs sChanged) (defBody sChanged) (defScope sChanged) .none kV13 dc13 pm13 an13 cd13 ct13), sl13⟩) (c13 : PySem.W.codeIn K cd13 "_law_changed" = true) (k13 : PySem.W.keepIn K (.ref f13) = true)
    (a14 : PySem.W.nsIn K mainGlobals "law" = some (some (.ref f14))) (l14 : K.lookup f14 = some ⟨oc14, od14, .func (PySem.W.fnOf "law" "law" (defArgs sLaw) (defBody sLaw) (defScope sLaw) .none kV14 dc14 pm14 an14 cd14 ct14), sl14⟩) (c14 : PySem.W.codeIn K cd14 "law" = true) (k14 : PySem.W.keepIn K (.ref f14) = true)
    {tk1 : Tok} (y1 : PySem.W.nsIn K mainGlobals "MAX_BUTTONS" = some (some (.int 10 tk1)))
    (z1 : PySem.W.nsIn K mainGlobals "len" = some none) (z2 : PySem.W.nsIn K mainGlobals "range" = some none) (z3 : PySem.W.nsIn K mainGlobals "tuple" = some none) (z4 : PySem.W.nsIn K mainGlobals "enumerate" = some none) (z5 : PySem.W.nsIn K mainGlobals "abs" = some none) (z6 : PySem.W.nsIn K mainGlobals "repr" = some none) (z7 : PySem.W.nsIn K mainGlobals "isinstance" = some none) (z8 : PySem.W.nsIn K mainGlobals "bool" = some none) (z9 : PySem.W.nsIn K mainGlobals "int" = some none) (z10 : PySem.W.nsIn K mainGlobals "list" = some none) (z11 : PySem.W.nsIn K mainGlobals "sorted" = some none) (z12 : PySem.W.nsIn K mainGlobals "set" = some none) :
    ∃ fd : FuncData, (∀ (s : Shared) (v : Value), BindsTo s fd ⟨[v], []⟩ [("_law_script", v)]) ∧ ∀ base : Heap, K.In base → base.Ns mainGlobals mg → FnG l.prog w K mg base 5 fa fd ["_law_script"] (spLaw K) := by
  have e := hfa.symm.trans (PySem.W.mg_of X G a14)
  cases e
  have F1 := fun_mk (st := sBtn) l1 c1 k1
  have F2 := fun_mk (st := sBtnT) l2 c2 k2
  have F3 := fun_mk (st := sIsPan) l3 c3 k3
  have F4 := fun_mk (st := sPErr) l4 c4 k4
  have F5 := fun_mk (st := sDeck) l5 c5 k5
  have F6 := fun_mk (st := sDraw) l6 c6 k6
  have F7 := fun_mk (st := sSame) l7 c7 k7
  have F8 := fun_mk (st := sIsNum) l8 c8 k8
  have F9 := fun_mk (st := sPanel) l9 c9 k9
  have F10 := fun_mk (st := sOdd) l10 c10 k10
  have F11 := fun_mk (st := sErr) l11 c11 k11
  have F12 := fun_mk (st := sTwin) l12 c12 k12
  have F13 := fun_mk (st := sChanged) l13 c13 k13
  have F14 := fun_mk (st := sLaw) l14 c14 k14
  have b1 := F1.binds (ps := ["value", "many"]) fun _ _ _ _ _ _ us hl => match us, hl with | [_, _], _ => rfl
  have b2 := F2.binds (ps := ["value", "many"]) fun _ _ _ _ _ _ us hl => match us, hl with | [_, _], _ => rfl
  have b3 := F3.binds (ps := ["value"]) fun _ _ _ _ _ _ us hl => match us, hl with | [_], _ => rfl
  have b4 := F4.binds (ps := ["value"]) fun _ _ _ _ _ _ us hl => match us, hl with | [_], _ => rfl
  have b5 := F5.binds (ps := ["_law_script"]) fun _ _ _ _ _ _ us hl => match us, hl with | [_], _ => rfl
  have b6 := F6.binds (ps := ["_law_deck_here", "_law_limit"]) fun _ _ _ _ _ _ us hl => match us, hl with | [_, _], _ => rfl
  have b7 := F7.binds (ps := ["_law_value", "_law_due"]) fun _ _ _ _ _ _ us hl => match us, hl with | [_, _], _ => rfl
  have b8 := F8.binds (ps := ["_law_value", "_law_low", "_law_high"]) fun _ _ _ _ _ _ us hl => match us, hl with | [_, _, _], _ => rfl
  have b9 := F9.binds (ps := ["_law_deck_here", "_law_most"]) fun _ _ _ _ _ _ us hl => match us, hl with | [_, _], _ => rfl
  have b10 := F10.binds (ps := ["_law_deck_here"]) fun _ _ _ _ _ _ us hl => match us, hl with | [_], _ => rfl
  have b11 := F11.binds (ps := ["_law_value"]) fun _ _ _ _ _ _ us hl => match us, hl with | [_], _ => rfl
  have b12 := F12.binds (ps := ["_law_row"]) fun _ _ _ _ _ _ us hl => match us, hl with | [_], _ => rfl
  have b13 := F13.binds (ps := ["_law_deck_here", "_law_panel_here"]) fun _ _ _ _ _ _ us hl => match us, hl with | [_, _], _ => rfl
  exact ⟨_, fun s v => .of_eq rfl, fun base _ _ => ok_law F14 F1 b1 (PySem.W.mg_of X G a1) F2 b2 (PySem.W.mg_of X G a2) F3 b3 (PySem.W.mg_of X G a3) F4 b4 (PySem.W.mg_of X G a4) F5 b5 (PySem.W.mg_of X G a5) F6 b6 (PySem.W.mg_of X G a6) F7 b7 (PySem.W.mg_of X G a7) F8 b8 (PySem.W.mg_of X G a8) F9 b9 (PySem.W.mg_of X G a9) F10 b10 (PySem.W.mg_of X G a10) F11 b11 (PySem.W.mg_of X G a11) F12 b12 (PySem.W.mg_of X G a12) F13 b13 (PySem.W.mg_of X G a13) (PySem.W.mg_none_of X G z1) (PySem.W.mg_none_of X G z2) (PySem.W.mg_none_of X G z3) (PySem.W.mg_none_of X G z4) (PySem.W.mg_none_of X G z5) (PySem.W.mg_none_of X G z6) (PySem.W.mg_none_of X G z7) (PySem.W.mg_none_of X G z8) (PySem.W.mg_none_of X G z9) (PySem.W.mg_none_of X G z10) (PySem.W.mg_none_of X G z11) (PySem.W.mg_none_of X G z12) (PySem.W.mg_of X G y1)⟩
end K00
open PySem PySem.W PyProof.Rows
theorem PySem.Challenge.cw_pressrelease_k00_panels_judged_holds : PySem.Challenge.rw_pressrelease_k00_panels_judged.Holds := by
  w_on; o_law; k_head; (case hw => w_witness2)
  k_fill
  refine Pr.walkG (l := PySem.Challenge.rw_pressrelease_k00_panels_judged) (n := 63) (k := 5) (x := "_law_script") (sp := K00.spLaw) rfl (by decide) rfl ⟨rfl, by decide, by decide⟩ (fun w h Y => PySem.W.kIn_of Y) ?F (fun _ _ a ns hl _ _ hS => ⟨a, ns, rfl, hS, hl, fun _ => rfl⟩)
  case F =>
    intro w mg fa h KX G hmg
    refine' K00.all_mk KX G hmg ?a1 ?l1 ?c1 ?k1 ?a2 ?l2 ?c2 ?k2 ?a3 ?l3 ?c3 ?k3 ?a4 ?l4 ?c4 ?k4 ?a5 ?l5 ?c5 ?k5 ?a6 ?l6 ?c6 ?k6 ?a7 ?l7 ?c7 ?k7 ?a8 ?l8 ?c8 ?k8 ?a9 ?l9 ?c9 ?k9 ?a10 ?l10 ?c10 ?k10 ?a11 ?l11 ?c11 ?k11 ?a12 ?l12 ?c12 ?k12 ?a13 ?l13 ?c13 ?k13 ?a14 ?l14 ?c14 ?k14 ?y1 ?z1 ?z2 ?z3 ?z4 ?z5 ?z6 ?z7 ?z8 ?z9 ?z10 ?z11 ?z12
    (case a1 => k_is); (case l1 => k_is); (case c1 => k_is); (case k1 => k_is); (case a2 => k_is); (case l2 => k_is); (case c2 => k_is); (case k2 => k_is); (case a3 => k_is); (case l3 => k_is); (case c3 => k_is); (case k3 => k_is)
    (case a4 => k_is); (case l4 => k_is); (case c4 => k_is); (case k4 => k_is); (case a5 => k_is); (case l5 => k_is); (case c5 => k_is); (case k5 => k_is); (case a6 => k_is); (case l6 => k_is); (case c6 => k_is); (case k6 => k_is)
    (case a7 => k_is); (case l7 => k_is); (case c7 => k_is); (case k7 => k_is); (case a8 => k_is); (case l8 => k_is); (case c8 => k_is); (case k8 => k_is); (case a9 => k_is); (case l9 => k_is); (case c9 => k_is); (case k9 => k_is)
    (case a10 => k_is); (case l10 => k_is); (case c10 => k_is); (case k10 => k_is); (case a11 => k_is); (case l11 => k_is); (case c11 => k_is); (case k11 => k_is); (case a12 => k_is); (case l12 => k_is); (case c12 => k_is); (case k12 => k_is)
    (case a13 => k_is); (case l13 => k_is); (case c13 => k_is); (case k13 => k_is); (case a14 => k_is); (case l14 => k_is); (case c14 => k_is); (case k14 => k_is); (case y1 => k_is); (case z1 => k_is); (case z2 => k_is); (case z3 => k_is)
    (case z4 => k_is); (case z5 => k_is); (case z6 => k_is); (case z7 => k_is); (case z8 => k_is); (case z9 => k_is); (case z10 => k_is); (case z11 => k_is); (case z12 => k_is)
