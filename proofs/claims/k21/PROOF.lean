import PyProof.Rows.All
import Wide.All
import OpenK.AllK
import Wide.FinOn
import HandS.ForMost
import HandS.IsInst
import HandS.Style
import HandS.StrMore
import HandS.Wide
import PyProof.ReprRoads
import PyProof.StrOps2
import PyProof.StrLawsRepr
import HandS.ForExc
import HandS.ExcIs
import HandS.ExcInit
import HandS.ExcField
import HandS.HotCalls
import HandS.DeepEq
import HandS.Set
import HandS.More
import PyProof.SetRoads
import HandS.Walk
import HandS.SetBool
import PyProof.FactsAll.set_1
import PyProof.Draws
import HandS.Zip0
import HandS.DictComp
import KE.GoesZip
import PySem.Challenge.RW_farapart_k21_statements
import HandS.Small
import HandS.TupLe
import HandS.Defaults
import HandS.Iter
set_option Elab.async false
set_option linter.all false
set_option maxRecDepth 100000
set_option maxHeartbeats 1000000
/-! what the laws of this program share: defs that are called while no repr is under way -/
namespace Fv
open PySem PySem.Spec PyProof.Rows L2
structure FnG (P : Program) (w : World) (K : PySem.W.Frag) (mg : Str → Option Value) (base : Heap) (k : Nat) (f : Addr) (fd : FuncData) (ps : List Str) (sp : Sp) : Prop where
  wide : ∀ xs H Q E, sp xs H Q E → xs.length = ps.length
  go : ∀ (A : Around) (fr : List Env) (s : Shared) (H : Hp) (us : List Value) (xs : List V) (Q : VK) (E : XK), A.guards = some [] → Room k A → Env0 P w K mg base A fr s H →
    (∀ t : Shared, BindsTo t fd ⟨us, []⟩ (ps.zip us)) → Vals xs us → sp xs H Q E → codeAny (model P w) A (.call (.ref f) ⟨us, []⟩) (CR CX0 fr P w H s Q E) s
def BindG (fd : FuncData) (ps : List Str) : Prop := ∀ us : List Value, us.length = ps.length → ∀ t : Shared, BindsTo t fd ⟨us, []⟩ (ps.zip us)
theorem bindG_of {K : PySem.W.Frag} {x qual : Str} {st : Stmt} {f : Addr} {fd : FuncData} {ps : List Str} (F : Fun K x qual st f fd)
    (h : ∀ (kV doc pm : Value) (an : Option Addr) (cdv ct : Value) (us : List Value), us.length = ps.length → bindArgs (PySem.W.fnOf x qual (defArgs st) (defBody st) (defScope st) .none kV doc pm an cdv ct) ⟨us, []⟩ = pure (ps.zip us)) : BindG fd ps := by
  obtain ⟨oc, od, kV, doc, pm, an, cdv, ct, osl, rfl, lk, hcd⟩ := F.ex
  exact fun us hl t => BindsTo.of_eq (h kV doc pm an cdv ct us hl)
section
variable {P : Program} {w : World} {K : PySem.W.Frag} {mg : Str → Option Value} {base : Heap}
/-- every plain promise holds so, too -/
theorem FnG.of {k : Nat} {f : Addr} {fd : FuncData} {ps : List Str} {sp : Sp} (F : FnOk P w K mg base CX0 k f fd ps sp) : FnG P w K mg base k f fd ps sp :=
  ⟨F.len, fun A fr s H us xs Q E _ hr e0 hb r h => F.run A fr s H ⟨us, []⟩ us xs Q E hr e0 (hb s) r h⟩
theorem okG {x qual : Str} {st : Stmt} {f : Addr} {fd : FuncData} {N ps : List Str} {k : Nat} {sp : Sp} (F : Fun K x qual st f fd) (S : FnScope N ps (defScope st)) (wide : ∀ xs H Q E, sp xs H Q E → xs.length = ps.length)
    (body : ∀ (cdv : Value) (A : Around) (fr : List Env) (s : Shared) (H : Hp) (xs : List V) (Q : VK) (E : XK), A.guards = some [] → Room k (A.deeper (envOfC qual (defScope st) s.heap.objs.size f cdv)) → sp xs H Q E →
      ∃ t, PSs (cxOf CX0 P w K mg base N qual (defScope st) f cdv A fr s H E).nox (defBody st) t ∧ t { nx := fun _ H' => Q .non H', rt := Q } (start N xs) H) : FnG P w K mg base (k + 1) f fd ps sp := by
  obtain ⟨oc, od, kV, doc, pm, an, cdv, ct, osl, rfl, lk, hcd⟩ := F.ex
  refine ⟨wide, fun A fr s H us xs Q E hg hr e0 hb r hs => ?_⟩
  have old : ∀ b o, base.get? b = some o → s.heap.get? b = some o := fun b o e => (e0.bs b o e).1
  have inK : K.In s.heap := e0.mod.kin.keeps old
  have kinds : ∀ y ∈ ps.zip us, (defScope st).names.lookup y.1 = some .local ∨ ((defScope st).names.lookup y.1 = some .cell ∧ ((cellsFrom (s.heap.objs.size + 1) (defScope st).names []).lookup y.1).isSome = true) := by
    rintro ⟨n, v⟩ hy
    rcases S.par n (List.of_mem_zip hy).1 with q | q
    · exact Or.inl q
    · exact Or.inr ⟨q, PySem.W.cellsFrom_some _ _ _ (Or.inl q)⟩
  refine codeAny_call_function hr.depth (inK _ _ lk) rfl S.co S.gen rfl (PySem.W.codeRec_of inK hcd) (hb _ _ _ _ _ ?_)
  refine wpAny_newFunctionEnv_cells S.kind kinds fun env he s1 ic => ?_
  subst he
  refine ⟨(e0.mod.nolimit.keeps old).keeps ic.toInCall.keep, codeAny_func ?_⟩
  obtain ⟨t, ht, hq⟩ := body cdv A fr s H xs Q E hg (hr.deeper _) hs
  have I := inv_start (CX := CX0) (E := E) S hr.hd e0 (wide _ _ _ _ hs) r ic
  refine wpAny_mono (ht.nox.run [] s1 (start N xs) H _ I hq) (fun fl s' z => ?_) fun _ _ z => z
  cases fl with
  | ret u =>
    obtain ⟨v, σ', H', J, rv, q⟩ := z
    exact ⟨v, H', J.os, J.bare, J.base, J.hok, rv, q⟩
  | next =>
    obtain ⟨σ', H', J, q⟩ := z
    exact ⟨V.non, H', J.os, J.bare, J.base, J.hok, rfl, q⟩
  | brk =>
    obtain ⟨_, _, _, q⟩ := z
    exact q.elim
  | cont =>
    obtain ⟨_, _, _, q⟩ := z
    exact q.elim
end
section
variable {X : Cx} {k : Nat} {f : Addr} {fd : FuncData} {ps : List Str} {sp : Sp} {x : Str} {p pos : Pos} {e : Expr} {es : List Expr} {t : TA}
/-- f(e, ..) where no repr is under way -/
theorem pe_callG (F : FnG X.prog X.w X.K X.mg X.base k f fd ps sp) (hgd : X.A.guards = some []) (hr : Room k X.A) (hg : Gl X x) (hm : X.mg x = some (.ref f)) (hk : PySem.W.keepIn X.K (.ref f) = true) (hbs : BindG fd ps)
    (ha : PA X (e :: es) t) (hdb : (x == ("__debug__" : Str)) = false := by decide) (he : starEach (e :: es) X.env = (false, eval e X.env) :: starEach es X.env := by rfl) (hpl : (backTo pos (starEach es X.env)).any (·.1) = false := by rfl) :
    PE X (.Call (.Name x p) (e :: es) [] pos) (fun σ H Q => t σ H fun vs H1 => sp vs H1 Q E0) := by
  refine ⟨fun pins s σ H Q I h => wpAny_Call_Name_kw (ld_glob I hg hm ?_ hdb)⟩
  refine PySem.W.callWith_K (h₀ := X.base) I.ok.mod.kin hk (thn (ha.run pos pins s σ H _ I h) fun us s1 ⟨vs, H1, I1, r, q⟩ => ⟨I1.kIn, ?_⟩) he hpl
  have hl : us.length = ps.length := by rw [← r.length]; exact F.wide _ _ _ _ q
  refine wpAny_call (codeAny_mono (F.go X.A X.stack s1 H1 us vs Q E0 hgd hr I1.env0 (hbs us hl) r q) fun res s' hq => ?_)
  cases res with
  | error e => exact False.elim hq
  | ok fl =>
    cases fl with
    | ret u => exact I1.after hq
    | next => exact False.elim hq
    | brk => exact False.elim hq
    | cont => exact False.elim hq
end
section
variable {P : Program} {w : World} {K : PySem.W.Frag} {mg mb : Str → Option Value} {k : Nat} {fa a : Addr} {fd : FuncData} {x : Str} {sp : Sp} {s1 : Shared} {vs : List Value} {ns : List Int}
/-- the law's call: nothing but the script is tracked at its entry -/
theorem law_callG (KX : K.In s1.heap) (hns : s1.heap.Ns mainGlobals mg) (hb : s1.heap.Ns builtinsNs mb) (hbb : ∀ x : Str, x ≠ "__name__" → mb x = bootBuiltins x) (hlim : s1.heap.NoLimit) (hg : s1.gens = #[])
    (ha : s1.heap.get? a = some { cls := .type "list", data := .seq vs.toArray }) (hi : IntsAre vs ns) (hl : ns.length ≤ sizeLine) (hr : Room k callerA)
    (F : ∀ base : Heap, K.In base → base.Ns mainGlobals mg → FnG P w K mg base k fa fd [x] sp) (hbind : ∀ (s : Shared) (u : Value), BindsTo s fd ⟨[u], []⟩ [(x, u)])
    (hsp : ∀ H : Hp, Only H → SqL K H a (ns.map V.int) → sp [.ref a] H (fun v _ => v = .bl true) E0) :
    codeAny (model P w) callerA (.call (.ref fa) ⟨[.ref a], []⟩) (fun r s' => r = .ok (.ret (.bool true)) ∧ OldK s1.heap s'.heap ∧ s'.os = s1.os ∧ AllBare s'.gens) s1 := by
  have rv := vals_ints hi
  have hlen := hi.length
  have go : ∀ H : Hp, Only H → SqL K H a (ns.map V.int) → HOk P w H s1.heap → (∀ b, H b ≠ none → b = a ∧ K.lookup a = none) →
      codeAny (model P w) callerA (.call (.ref fa) ⟨[.ref a], []⟩) (fun r s' => r = .ok (.ret (.bool true)) ∧ OldK s1.heap s'.heap ∧ s'.os = s1.os ∧ AllBare s'.gens) s1 := by
    intro H only hS hok hA
    have free : ∀ {b : Addr} {o : Obj}, s1.heap.get? b = some o → (∀ z, o.data ≠ .seq vs.toArray z) → H b = none := by
      intro b o e d
      cases q : H b with
      | none => rfl
      | some u =>
        obtain ⟨rfl, _⟩ := hA b (by rw [q]; exact fun z => nomatch z)
        rw [ha] at e
        cases e
        exact (d _ rfl).elim
    have ns : ∀ {b : Addr} {m : Str → Option Value}, s1.heap.Ns b m → (hidT s1.heap H).Ns b m := by
      rintro b m ⟨o, es, ep, e, d, r⟩
      exact ⟨o, es, ep, hidT_get e (free e fun z q => by rw [d] at q; exact nomatch q), d, r⟩
    have inB : K.In (hidT s1.heap H) := by
      intro b o e
      refine hidT_get (KX b o e) ?_
      cases q : H b with
      | none => rfl
      | some u =>
        obtain ⟨rfl, n⟩ := hA b (by rw [q]; exact fun z => nomatch z)
        rw [n] at e
        exact nomatch e
    obtain ⟨mc, c1, c2⟩ := hlim
    have e0 : Env0 P w K mg (hidT s1.heap H) callerA [] s1 H :=
      ⟨rfl, ⟨inB, ns hns, ⟨mb, ns hb, hbb⟩, ⟨mc, ns c1, c2⟩⟩, fun b o e => of_hidT e, Nat.le_of_eq (hidT_size _ _), trivial, fun b z => absurd (show b ∈ ([] : List Addr) from z) List.not_mem_nil, hok, .of_eq hg⟩
    refine codeAny_mono ((F _ inB (ns hns)).go callerA [] s1 H [.ref a] [.ref a] _ _ rfl hr e0 (fun t => hbind t (.ref a)) (.cons rfl .nil) (hsp H only hS)) fun r s' h => ?_
    cases r with
    | error e => exact False.elim h
    | ok fl =>
      cases fl with
      | next => exact False.elim h
      | brk => exact False.elim h
      | cont => exact False.elim h
      | ret u =>
        obtain ⟨v, H', os, bare, un, hok', rr, q⟩ := h
        obtain rfl : v = .bl true := q
        obtain rfl : u = Value.bool true := rr
        refine ⟨rfl, OldK.of_keep fun b o e => ?_, os, bare⟩
        rcases only b with z | ⟨ob, xs, z⟩
        · exact un.keep b o e z (fun z => absurd (show b ∈ ([] : List Addr) from z) List.not_mem_nil) List.not_mem_nil
        · obtain ⟨e1, _⟩ := hok b _ z
          obtain ⟨e2, _⟩ := hok' b _ (un.frzs b ob _ z)
          rw [e] at e1
          cases e1
          exact e2
  cases hk : K.lookup a with
  | some o =>
    have e := KX a o hk
    rw [ha] at e
    cases e
    exact go (fun _ => none) (fun _ => Or.inl rfl) (.inr ⟨_, vs.toArray, _, hk, rfl, rfl, rfl, by rw [List.size_toArray, hlen]; exact hl, by simpa using rv⟩) (fun b u z => nomatch z) fun b z => absurd rfl z
  | none =>
    refine go (fun b => if b = a then some (.frz { cls := .type "list", data := .seq vs.toArray } (.lst (ns.map V.int))) else none) (fun b => ?_) (.inl (.inr ⟨_, if_pos rfl⟩)) (fun b u z => ?_) fun b z => ?_
    · by_cases hb : b = a
      · exact Or.inr ⟨_, _, if_pos hb⟩
      · exact Or.inl (if_neg hb)
    · by_cases hb : b = a
      · subst hb
        simp only [if_true] at z
        cases z
        exact ⟨ha, by rw [List.length_map]; exact hl, vs, _, rv, ha⟩
      · simp only [if_neg hb] at z
        cases z
    · by_cases hb : b = a
      · exact ⟨hb, hk⟩
      · exact absurd (if_neg hb) z
end
theorem walk_G {l : PySem.W.OpenLaw} {n k : Nat} {q : Program} {loose : List Str} {XP : (Str → Option Value) → Heap → Prop} {YP : World → Heap → Prop} {d : DefRec} {K : Params → PySem.W.Frag} {sp : PySem.W.Frag → Sp} {x : Str}
    (hn : l.most = some n) (hn2 : n ≤ sizeLine) (hdf : d.params.defaults = []) (hr : Room k callerA) (hY : ∀ (w : World) (h : Heap), YP w h → (K w.params).In h)
    (F : ∀ (w : World) (mg : Str → Option Value) (fa : Addr) (h : Heap), (K w.params).In h → h.Ns mainGlobals mg → mg d.name = some (.ref fa) →
      ∃ fd : FuncData, (∀ (s : Shared) (u : Value), BindsTo s fd ⟨[u], []⟩ [(x, u)]) ∧ ∀ base : Heap, (K w.params).In base → base.Ns mainGlobals mg → FnG l.prog w (K w.params) mg base k fa fd [x] (sp (K w.params)))
    (hsp : ∀ (K : PySem.W.Frag) (H : Hp) (a : Addr) (ns : List Int), ns.length ≤ n → Only H → SqL K H a (ns.map V.int) → sp K [.ref a] H (fun v _ => v = .bl true) E0) :
    PySem.W.WalkO q loose XP YP l.row.toRowW d [] (fun f vs => PySem.call f vs) := by
  refine Att.attach_call hn hdf fun w s₀ s1 mg mb fa o pm cd doc a vs ns G Y ho hd hcd hmg hobj hints hlen hg => ?_
  obtain ⟨fd, hb, hF⟩ := F w mg fa _ (hY w _ Y) G.T.g hmg
  exact law_callG (hY w _ Y) G.T.g G.T.b G.T.builtins G.T.nolimit hg hobj hints (Nat.le_trans hlen hn2) hr hF hb fun H hO hS => hsp (K w.params) H a ns hlen hO hS
end Fv


set_option Elab.async false
set_option linter.all false
set_option maxRecDepth 100000
set_option maxHeartbeats 1000000
namespace Fv
open PySem PySem.Spec PyProof.Rows L2
/-! ### data at a value: own lists stand away from the bag (b) -/
mutual
inductive Dq (H : Hp) (b : Addr) : V → PyData → Prop
  | non : Dq H b .non .none
  | bl (x : Bool) : Dq H b (.bl x) (.bool x)
  | int (i : Int) : Dq H b (.int i) (.int i)
  | str (x : Str) : Dq H b (.str x) (.str x)
  | lst {a : Addr} {xs : List V} {ds : List PyData} : H a = some (.lst xs) → a ≠ b → a ≠ sysModules → DqAll H b xs ds → Dq H b (.ref a) (.list ds)
  | tup {a : Addr} {xs : List V} {ds : List PyData} : H a = some (.tup xs) → a ≠ b → DqAll H b xs ds → Dq H b (.ref a) (.tuple ds)
  | dct {a : Addr} {kvs : List (Key × V)} {ps : List (PyData × PyData)} : H a = some (.dK kvs) → a ≠ b → DqAll H b (kvs.map fun p => kV p.1) (ps.map (·.1)) → DqAll H b (kvs.map (·.2)) (ps.map (·.2)) → Dq H b (.ref a) (.dict ps)
inductive DqAll (H : Hp) (b : Addr) : List V → List PyData → Prop
  | nil : DqAll H b [] []
  | cons {v : V} {vs : List V} {d : PyData} {ds : List PyData} : Dq H b v d → DqAll H b vs ds → DqAll H b (v :: vs) (d :: ds)
end
mutual
theorem Dq.mono {H H' : Hp} {b : Addr} (k : ∀ a o, a ≠ b → H a = some o → H' a = some o) : ∀ {v : V} {d : PyData}, Dq H b v d → Dq H' b v d
  | _, _, .non => .non
  | _, _, .bl x => .bl x
  | _, _, .int i => .int i
  | _, _, .str x => .str x
  | _, _, .lst e n m h => .lst (k _ _ n e) n m (DqAll.mono k h)
  | _, _, .tup e n h => .tup (k _ _ n e) n (DqAll.mono k h)
  | _, _, .dct e n h h' => .dct (k _ _ n e) n (DqAll.mono k h) (DqAll.mono k h')
theorem DqAll.mono {H H' : Hp} {b : Addr} (k : ∀ a o, a ≠ b → H a = some o → H' a = some o) : ∀ {v : List V} {d : List PyData}, DqAll H b v d → DqAll H' b v d
  | _, _, .nil => .nil
  | _, _, .cons h t => .cons (Dq.mono k h) (DqAll.mono k t)
end
theorem kV_rel {k : Key} {v : Value} (h : keyIs k v = true) : RelV (kV k) v := by
  rcases keyIs_shape h with ⟨i, t, rfl, rfl⟩ | ⟨x, t, rfl, rfl⟩
  · exact ⟨t, rfl⟩
  · exact ⟨t, rfl⟩
theorem pairs_keys {P : Program} {w : World} : ∀ {kvs : List (Key × V)} {vs : List (Key × Value)} {es : List DictEntry}, KV kvs vs → Pairs (mixKind P w) es vs → Vals (kvs.map fun p => kV p.1) (es.map (·.key))
  | _, _, _, .nil, .nil => .nil
  | _, _, _, .cons r t, .cons h _ q => .cons (by
    have e := r.1
    show RelV (kV _) _
    rw [e]
    exact kV_rel h) (pairs_keys t q)
theorem pairs_vals {P : Program} {w : World} : ∀ {kvs : List (Key × V)} {vs : List (Key × Value)} {es : List DictEntry}, KV kvs vs → Pairs (mixKind P w) es vs → Vals (kvs.map (·.2)) (es.map (·.val))
  | _, _, _, .nil, .nil => .nil
  | _, _, _, .cons r t, .cons _ h q => .cons (by
    show RelV _ (DictEntry.val _)
    rw [h]
    exact r.2) (pairs_vals t q)
section
variable {X : Cx} {pins : List (Addr × Obj)} {σ : L2.St} {H : Hp} {s : Shared} {b : Addr}
mutual
theorem Dq.reads (I : Inv X pins σ H s) : ∀ {v : V} {d : PyData} {u : Value}, Dq H b v d → RelV v u → ∃ as, Reads s.heap u d as ∧ sysModules ∉ as
  | _, _, _, .non, r => by
    cases r
    exact ⟨_, .none, List.not_mem_nil⟩
  | _, _, _, .bl x, r => by
    cases r
    exact ⟨_, .bool x, List.not_mem_nil⟩
  | _, _, _, .int i, r => by
    obtain ⟨t, rfl⟩ := r
    exact ⟨_, .int i t, List.not_mem_nil⟩
  | _, _, _, .str x, r => by
    obtain ⟨t, rfl⟩ := r
    exact ⟨_, .str x t, List.not_mem_nil⟩
  | _, _, _, .lst (a := a) e _ m h, r => by
    cases r
    obtain ⟨_, its, n, rv, he⟩ := (show ObjOk X.prog X.w H s.heap a (.lst _) from I.hok a _ e)
    obtain ⟨as, q, z⟩ := DqAll.reads I h rv
    exact ⟨_, .list he rfl rfl (by simpa using q), fun y => (List.mem_cons.mp y).elim (fun w => m w.symm) z⟩
  | _, _, _, .tup (a := a) e _ h, r => by
    cases r
    obtain ⟨_, its, rv, o, he, hc, n, hd⟩ := (show ObjOk X.prog X.w H s.heap a (.tup _) from I.hok a _ e)
    obtain ⟨as, q, z⟩ := DqAll.reads I h rv
    exact ⟨_, .tuple he hc hd (by simpa using q), z⟩
  | _, _, _, .dct (a := a) e _ h h', r => by
    cases r
    obtain ⟨_, m, vs, rel, o, es, ep, he, hx, hd, _, hp, _⟩ := (show ObjOk X.prog X.w H s.heap a (.dK _) from I.hok a _ e)
    have k1 : Vals (_ : List V) (es.toList.map (·.key)) := pairs_keys rel hp
    have k2 : Vals (_ : List V) (es.toList.map (·.val)) := pairs_vals rel hp
    obtain ⟨as, q, z⟩ := DqAll.reads I h k1
    obtain ⟨bs, q', z'⟩ := DqAll.reads I h' k2
    exact ⟨_, .dict he hx.1 hd q q', fun y => by
      rcases List.mem_append.mp y with y | y
      · rcases List.mem_cons.mp y with w | w
        · rw [← w] at m
          simp at m
        · exact z w
      · exact z' y⟩
theorem DqAll.reads (I : Inv X pins σ H s) : ∀ {v : List V} {d : List PyData} {u : List Value}, DqAll H b v d → Vals v u → ∃ as, ReadsAll s.heap u d as ∧ sysModules ∉ as
  | _, _, _, .nil, r => by
    cases r
    exact ⟨_, .nil, List.not_mem_nil⟩
  | _, _, _, .cons h t, r => by
    cases r with
    | cons r1 r2 =>
      obtain ⟨as, q, z⟩ := Dq.reads I h r1
      obtain ⟨bs, q', z'⟩ := DqAll.reads I t r2
      exact ⟨_, .cons q q', fun y => (List.mem_append.mp y).elim z z'⟩
end
end
/-! ### rules -/
/-- repr of data -/
def rRepr : List V → Hp → VK → Prop := fun xs H Q => ∃ (b : Addr) (v : V) (d : PyData), xs = [v] ∧ Dq H b v d ∧ d.showable = true ∧ d.shown.length ≤ sizeLine ∧ d.depth ≤ 20 ∧ Q (.str d.shown) H
section
variable {X : Cx}
theorem call_reprD (hg : X.A.guards = some []) (hu : X.A.units + 64 < cLine) : CallR X (.builtin "repr") rRepr := by
  intro pins s σ H xs us Q I r h
  obtain ⟨b, v, d, rfl, hd, hs, hz, hdp, q⟩ := h
  cases r with
  | cons r rr =>
    cases rr
    rename_i u
    obtain ⟨as, rd, ns⟩ := Dq.reads I hd r
    cases rd with
    | none => exact PySem.P.repr_of_none ⟨.str _, H, I.tok _, ⟨_, rfl⟩, q⟩
    | bool x => exact PySem.P.repr_of_bool ⟨.str _, H, I.tok _, ⟨_, rfl⟩, q⟩
    | int i t => exact PySem.P.repr_of_int (by simpa [PyData.showable] using hs) ⟨.str _, H, I.tok _, ⟨_, rfl⟩, q⟩
    | str x t => exact PySem.P.repr_of_str ⟨.str _, H, I.tok _, ⟨_, rfl⟩, q⟩ (by simpa only [PyData.shown] using hz)
    | list a1 a2 a3 a4 => exact repr_of_reads' (.list a1 a2 a3 a4) hs (fun _ => ns) hg (by omega) (fun _ _ e => e) (fun h' u tk k => ⟨.str _, H, I.kept (h' := h') (t' := tk) k, ⟨_, rfl⟩, q⟩) hz
    | tuple a1 a2 a3 a4 => exact repr_of_reads' (.tuple a1 a2 a3 a4) hs (fun _ => ns) hg (by omega) (fun _ _ e => e) (fun h' u tk k => ⟨.str _, H, I.kept (h' := h') (t' := tk) k, ⟨_, rfl⟩, q⟩) hz
    | dict a1 a2 a3 a4 a5 => exact repr_of_reads' (.dict a1 a2 a3 a4 a5) hs (fun _ => ns) hg (by omega) (fun _ _ e => e) (fun h' u tk k => ⟨.str _, H, I.kept (h' := h') (t' := tk) k, ⟨_, rfl⟩, q⟩) hz
/-- xs[j] at a written or reckoned place, for op= -/
def rGetL (K : PySem.W.Frag) : V → V → Hp → VK → Prop := fun x y H Q => ∃ (p : Addr) (xs : List V) (j : Nat) (v : V), x = .ref p ∧ y = .int j ∧ SqL K H p xs ∧ xs[j]? = some v ∧ Q v H
theorem pget_list : PGet X (rGetL X.K) := by
  intro pins s σ H o i ov iv Q I ro ri h
  obtain ⟨p, xs, j, v, rfl, rfl, hq, he, q⟩ := h
  cases ro
  obtain ⟨t, rfl⟩ := ri
  obtain ⟨its, r, pl, hz⟩ := I.list hq
  obtain ⟨w, ew, rw'⟩ := r.get he
  have h1 : j < xs.length := (List.getElem?_eq_some_iff.mp he).1
  have h2 : sizeLine < 2 ^ 63 := by decide
  exact wpAny_getItem_list pl.isList (by omega) (by omega) (by simpa using ew) ⟨v, H, I, rw', q⟩
/-- '0' * n -/
def zeros (n : Nat) : Str := ⟨(List.replicate n #[48]).foldl (· ++ ·) #[]⟩
def rZeros : R2 := fun x y H Q => ∃ n : Nat, x = .str "0" ∧ y = .int n ∧ n < 64 ∧ Q (.str (zeros n)) H
theorem zeros_len : ∀ n : Nat, n < 64 → (zeros n).length = n := by decide +kernel
theorem op_zeros : OpR X (binaryOp .Mult) rZeros := by
  intro pins s σ H x y v u Q I rx ry h
  obtain ⟨n, rfl, rfl, hn, q⟩ := h
  obtain ⟨t, rfl⟩ := rx
  obtain ⟨t', rfl⟩ := ry
  have fin : EP X pins σ Q (.str (zeros n) s.toks) { s with toks := s.toks + 1 } := ⟨.str _, H, I.tok _, ⟨_, rfl⟩, q⟩
  refine PySem.P.mul_str (by rw [decide_eq_false (by omega), decide_eq_false (by omega)]; rfl) (fun _ _ => ?_) (fun _ _ => ?_) ?_
  · have : ("0" : Str).length = 1 := by decide +kernel
    rw [this]
    have h3 : (1 : Int) ≤ (2 ^ 63 - 1) / (n : Int) := by
      rename_i a b
      exact Int.le_ediv_of_mul_le (by omega) (by omega)
    omega
  · have : ("0" : Str).length = 1 := by decide +kernel
    rw [this]
    have hz := (by decide : 64 < sizeLine)
    simp only [Nat.one_mul, Int.toNat_natCast]
    unfold Builtin.Str.tooLong
    exact decide_eq_false (by omega)
  · by_cases h0 : n = 0
    · subst h0
      exact ⟨by decide, fin⟩
    · rw [if_neg (by omega)]
      by_cases h1 : n = 1
      · subst h1
        exact ⟨.str _, H, I, ⟨t, rfl⟩, q⟩
      · rw [if_neg (by
          have : ((n : Int) == 1) = false := by simpa using (by omega : ¬ ((n : Int) = 1))
          rw [this]
          decide)]
        exact ⟨by show (zeros n).length ≤ _; rw [zeros_len n hn]; have hz := (by decide : 64 < sizeLine); omega, fin⟩
end
/-! ### types of data -/
def tyN : PyData → String
  | .none => "NoneType"
  | .bool _ => "bool"
  | .int _ => "int"
  | .str _ => "str"
  | .list _ => "list"
  | .tuple _ => "tuple"
  | .dict _ => "dict"
theorem Dq.ty {K : PySem.W.Frag} {H : Hp} {b : Addr} {v : V} {d : PyData} (h : Dq H b v d) : TyX K H v (.type (tyN d)) := by
  cases h with
  | non => exact .base .non
  | bl x => exact .base (.bl x)
  | int i => exact .base (.int i)
  | str x => exact .base (.str x)
  | lst e _ _ _ => exact .base (.lst e)
  | tup e _ _ => exact .base (.tup e)
  | dct e _ _ _ => exact .base (.dK e)
def isStrD : PyData → Bool
  | .str _ => true
  | _ => false
def isBoolD : PyData → Bool
  | .bool _ => true
  | _ => false
def isIntD : PyData → Bool
  | .int _ => true
  | .bool _ => true
  | _ => false
theorem kit_str {K : PySem.W.Frag} (d : PyData) : PySem.W.kitOne K (.type (tyN d)) (.type "str") = some (isStrD d) := by
  cases d
  · exact kit_ty (a := "NoneType") (b := "str") (r := false) (by decide +kernel)
  · exact kit_ty (a := "bool") (b := "str") (r := false) (by decide +kernel)
  · exact kit_ty (a := "int") (b := "str") (r := false) (by decide +kernel)
  · exact kit_ty (a := "str") (b := "str") (r := true) (by decide +kernel)
  · exact kit_ty (a := "list") (b := "str") (r := false) (by decide +kernel)
  · exact kit_ty (a := "tuple") (b := "str") (r := false) (by decide +kernel)
  · exact kit_ty (a := "dict") (b := "str") (r := false) (by decide +kernel)
theorem kit_bool {K : PySem.W.Frag} (d : PyData) : PySem.W.kitOne K (.type (tyN d)) (.type "bool") = some (isBoolD d) := by
  cases d
  · exact kit_ty (a := "NoneType") (b := "bool") (r := false) (by decide +kernel)
  · exact kit_ty (a := "bool") (b := "bool") (r := true) (by decide +kernel)
  · exact kit_ty (a := "int") (b := "bool") (r := false) (by decide +kernel)
  · exact kit_ty (a := "str") (b := "bool") (r := false) (by decide +kernel)
  · exact kit_ty (a := "list") (b := "bool") (r := false) (by decide +kernel)
  · exact kit_ty (a := "tuple") (b := "bool") (r := false) (by decide +kernel)
  · exact kit_ty (a := "dict") (b := "bool") (r := false) (by decide +kernel)
theorem kit_int {K : PySem.W.Frag} (d : PyData) : PySem.W.kitOne K (.type (tyN d)) (.type "int") = some (isIntD d) := by
  cases d
  · exact kit_ty (a := "NoneType") (b := "int") (r := false) (by decide +kernel)
  · exact kit_ty (a := "bool") (b := "int") (r := true) (by decide +kernel)
  · exact kit_ty (a := "int") (b := "int") (r := true) (by decide +kernel)
  · exact kit_ty (a := "str") (b := "int") (r := false) (by decide +kernel)
  · exact kit_ty (a := "list") (b := "int") (r := false) (by decide +kernel)
  · exact kit_ty (a := "tuple") (b := "int") (r := false) (by decide +kernel)
  · exact kit_ty (a := "dict") (b := "int") (r := false) (by decide +kernel)
end Fv


set_option Elab.async false
set_option linter.all false
set_option maxRecDepth 100000
set_option maxHeartbeats 1000000
namespace Fv
open PySem PySem.Spec PyProof.Rows L2
section
variable {X : Cx} {es : List Expr} {t : TA} {pos : Pos}
/-- a written list; its place is none of the first ones -/
def tLstB (t : TA) : TE := fun σ H Q => t σ H fun xs H1 => xs.length ≤ sizeLine ∧ ∀ p, H1 p = none → p ≠ sysModules → Q (.ref p) (upd H1 p (.lst xs))
theorem pe_lstB (h : PA X es t) : PE X (.List es pos) (tLstB t) := by
  refine ⟨fun pins s σ H Q I hq => wpAny_List_spliced (thn (h.run pos pins s σ H _ I hq) fun us s1 e => ?_)⟩
  obtain ⟨xs, H1, I1, r, z, q⟩ := e
  have z' : us.length ≤ sizeLine := by rw [← r.length]; exact z
  have J : Inv X pins σ (upd H1 s1.heap.objs.size (.lst xs)) { s1 with heap := s1.heap.push { cls := .type "list", data := .seq us.toArray } } :=
    I1.laid (t' := s1.toks) (fun _ _ e => Heap.get?_push_of_some _ e) (Nat.le_refl _) ⟨z, us, 0, r, Heap.get?_push_size _ rfl⟩
  exact ⟨z', .ref _, _, J, rfl, q _ (I1.hok.fresh (Nat.le_refl _)) (Nat.ne_of_gt I1.big)⟩
end
theorem DqAll.get {H : Hp} {b : Addr} : ∀ {vs : List V} {ds : List PyData} {j : Nat} {v : V}, DqAll H b vs ds → vs[j]? = some v → ∃ d, d ∈ ds ∧ Dq H b v d
  | _, _, _, _, .nil, e => by simp at e
  | _, _, 0, _, .cons h _, e => by
    simp at e
    subst e
    exact ⟨_, List.mem_cons_self, h⟩
  | _, _, j + 1, _, .cons _ t, e => by
    obtain ⟨d, m, h⟩ := DqAll.get t (j := j) (by simpa using e)
    exact ⟨d, List.mem_cons_of_mem _ m, h⟩
/-! ### what is fine to be shown -/
structure Fine (d : PyData) : Prop where
  show_ : d.showable = true
  len : d.shown.length ≤ 20000
  deep : d.depth ≤ 3
def okS (z : Str) : Prop := z.length ≤ 1000 ∧ ∀ c ∈ z.cps.toList, c < 128
theorem okS.repr {z : Str} (h : okS z) : (reprText z).length ≤ 10010 := by
  have := StrLaws.reprText_len z fun c hc => Nat.lt_of_lt_of_le (h.2 c hc) (by decide)
  have := h.1
  omega
theorem Fine.str {z : Str} (h : okS z) : Fine (.str z) := ⟨by simp [PyData.showable], by simp only [PyData.shown]; have := h.repr; omega, by simp [PyData.depth]⟩
theorem Fine.one_tup {z : Str} (h : okS z) : Fine (.tuple [.str z]) := by
  refine ⟨by simp [PyData.showable, PyData.showableAll], ?_, by simp [PyData.depth, PyData.depthAll]⟩
  have e : (PyData.tuple [.str z]).shown = tupleText [reprText z] := by simp [PyData.shown, PyData.shownAll]
  rw [e]
  have hr := h.repr
  have e2 : ∀ x : Str, (tupleText [x]).length = 1 + x.length + 2 := fun x => by
    unfold tupleText
    rw [strLen_append, strLen_append]
    rfl
  rw [e2]
  omega
theorem Fine.one_lst {z : Str} (h : okS z) : Fine (.list [.str z]) := by
  refine ⟨by simp [PyData.showable, PyData.showableAll], ?_, by simp [PyData.depth, PyData.depthAll]⟩
  have e : (PyData.list [.str z]).shown = listText [reprText z] := by simp [PyData.shown, PyData.shownAll]
  rw [e]
  have hr := h.repr
  have e2 : ∀ x : Str, (listText [x]).length = 1 + x.length + 1 := fun x => by
    unfold listText
    rw [strLen_append]
    have e3 : textFrom 0 "[" [x] = ("[" : Str) ++ x := rfl
    rw [e3, strLen_append]
    rfl
  rw [e2]
  omega
theorem Fine.one_dct {z : Str} (h : okS z) : Fine (.dict [(.str z, .int 1)]) := by
  refine ⟨by simp only [PyData.showable, PyData.showableKv]; decide, ?_, by simp [PyData.depth, PyData.depthKv]⟩
  have e : (PyData.dict [(.str z, .int 1)]).shown = dictText [reprText z ++ ": " ++ (toString (1 : Int) : String)] := by simp [PyData.shown, PyData.shownKv]
  rw [e]
  have hr := h.repr
  have e2 : ∀ x : Str, (dictText [x]).length = 1 + x.length + 1 := fun x => by
    unfold dictText
    rw [strLen_append, strLen_append]
    rfl
  have e3 : ((toString (1 : Int) : String) : Str).length = 1 := by decide +kernel
  have e4 : ((": " : String) : Str).length = 2 := by decide +kernel
  rw [e2, strLen_append, strLen_append, e3, e4]
  omega
end Fv


set_option Elab.async false
set_option linter.all false
set_option maxRecDepth 100000
set_option maxHeartbeats 1000000
/-! own errors: what a caught one is an instance of, its fields; defs that are called with it in an except suite -/
namespace Fv
open PySem PySem.Spec PyProof.Rows L2
section
open PySem.W PySem.Calls
variable {prog : Program} {w : World} {A : Around} {E : Value → Shared → Prop} {s : Shared} {K : Frag} {x D : Addr} {ox : Obj} {od : Option Obj}
theorem bound_data {a g : Value} {name : Str} (c : (clsIn K D).isSome = true) (fa : findIn K (.ref D) name = some (some a)) (fg : specialIn K a "__get__" = some (some g)) (ft : takesIn K a = some true) : findObj K D od name = some (.bind g a) := by
  obtain ⟨cd, c⟩ := Option.isSome_iff_exists.mp c
  unfold findObj
  rw [c, Option.bind_some, fa, Option.bind_some]
  simp [fg, ft]
theorem class_of_exc {Q : Option Value → Shared → Prop} (T : ExcC K D) (X : K.In s.heap) (I : InstAt s.heap x ox D od) (h : Q (some (.ref D)) { s with toks := s.toks + 1 }) : wpAny (model prog w) A (getAttr? (.ref x) "__class__") Q E s := by
  have fo : findObj K D od "__class__" = some (.bind (.builtin "getset_descriptor.__get__") (.builtin "object.__class__")) :=
    bound_data (by obtain ⟨cd, e, _⟩ := any_some T.hd; rw [e]; rfl) T.ha T.hn T.ht
  obtain ⟨hp, g, d, t, os⟩ := s
  have M0 := I.type (M := model prog w)
  have M1 := looks_findIn (M := model prog w) X T.hg
  have M2 := looks_findIn (M := model prog w) X T.hk
  have M3 := looks_find (M := model prog w) X I fo
  have sb : Looks (model prog w) hp (isInstance (.ref x) (.type "BaseException")) true := M0.andThen (looks_subIn X T.hs)
  have n2 : (Value.builtin "BaseException.__getattribute__" == Value.builtin "object.__getattribute__") = false := by decide +kernel
  have n1 : (onTheHeap (Value.ref D) && Value.builtin "BaseException.__getattribute__" == Value.builtin "object.__getattribute__") = false := by rw [n2]; rfl
  have n0 : (false && onTheHeap (Value.builtin "BaseException.__getattribute__")) = false := rfl
  unfold getAttr? getAttrBy? getAttrBy
  refine wpAny_bind (wpAny_mkText (wpAny_bind (wpAny_attempt (wpAny_holding (wpAny_bind (M0.at (wpAny_bind (M1.at ?_))))))))
  show wpAny _ _ (ite ((onTheHeap (Value.ref D) && Value.builtin "BaseException.__getattribute__" == Value.builtin "object.__getattribute__") = true) _ _) _ _ _
  rw [n1, if_neg Bool.false_ne_true]
  unfold getAttrByItsOwn hookBefore
  refine wpAny_bind ?_
  have on : onTheHeap (Value.ref D) = true := rfl
  rw [if_pos on]
  refine M2.at (wpAny_bind (wpAny_attempt (wpAny_holding ?_)))
  unfold callGetattribute
  rw [n0, if_neg Bool.false_ne_true]
  unfold boundAndCalled
  rw [PySem.F.excAttr_ValueError.ga.bind (.ref x)]
  refine wpAny_bind (wpAny_pure ?_)
  show wpAny _ _ (call (.builtin "BaseException.__getattribute__") [.ref x, .str "__class__" t]) _ _ _
  refine wpAny_call (codeAny_call_builtin PySem.F.excAttr_ValueError.ga.plain PySem.F.entry_bexc_ga (@check_slot (model prog w) _ _ ⟨hp, g, d, t + 1, os⟩ "BaseException.__getattribute__" "BaseException" "__getattribute__" (.ref x) [.str "__class__" t] [] _ (by decide +kernel) (by decide +kernel) sb (PySem.F.args_bexc_ga (.ref x) (.str "__class__" t)) ?_))
  unfold Builtin.«object.__getattribute__»
  refine wpAny_bind (wpAny_of_eq (a := ((Value.ref x : Value), [Value.str "__class__" t])) (by first | rfl | (simp only [slotArgs]; rfl)) (wpAny_bind (wpAny_pure (wpAny_bind (M0.at (wpAny_bind (M3.at ?_)))))))
  show wpAny _ _ (holding [Value.builtin "object.__class__"] (call (.builtin "getset_descriptor.__get__") [.builtin "object.__class__", .ref x, .ref D]) >>= ret) _ _ _
  refine wpAny_bind (wpAny_holding (wpAny_call (class_get (s := ⟨hp, g, d, t + 1, os⟩) (ox := ox) (od := od) X I T.hm (wpAny_pure ?_))))
  show wpAny _ _ (handedOut (.ref D)) _ _ _
  rw [handedOut_of (v := .ref D) rfl]
  first
    | exact wpAny_pure (wpAny_pure h)
    | exact wpAny_pure h
    | exact wpAny_pure (wpAny_bind (wpAny_pure (wpAny_pure h)))
theorem kit_exc (T : ExcC K D) : KitX K (.ref x) (.ref D) (fun h => ∃ od, InstAt h x ox D od) where
  ty := fun _ _ _ I => I.elim fun _ I => I.type
  it := fun _ _ X _ => by
    obtain ⟨cd, e, _⟩ := any_some T.hd
    unfold clsIn at e
    split at e
    · rename_i ho
      intro A' Q' E' s' k q
      unfold isType loadHead
      exact wpAny_bind (wpAny_loadPart (k _ _ (X _ _ ho)) (wpAny_pure q))
    · cases e
  ne := fun h tp dd its n sl X htp => by
    obtain ⟨cd, e, _⟩ := any_some T.hd
    refine Bool.eq_false_iff.mpr fun q => ?_
    have eq : D = tp := Value.ref.inj (beq_iff_eq.mp q)
    subst eq
    unfold clsIn at e
    split at e
    · rename_i ho
      have z := (X _ _ ho).symm.trans htp
      cases z
    · cases e
  ca := fun X I k => I.elim fun _ I => class_of_exc T X I k
end
end Fv
namespace Fv
open PySem PySem.Spec PyProof.Rows L2
/-- called while an exception, p, is handled: it stands in the state, out of what is tracked -/
structure FnP (P : Program) (w : World) (K : PySem.W.Frag) (mg : Str → Option Value) (base : Heap) (k : Nat) (f : Addr) (fd : FuncData) (ps : List Str) (sp : Addr → Value → Option Addr → Sp) : Prop where
  wide : ∀ a c d xs H Q E, sp a c d xs H Q E → xs.length = ps.length
  go : ∀ (A : Around) (fr : List Env) (s : Shared) (H : Hp) (us : List Value) (xs : List V) (Q : VK) (E : XK) (p : Addr × Obj), L2H.RoomH k A → L2H.PinOk fr H s p → (∃ vs, p.2.data = .fields vs) → Env0 P w K mg base A fr s H →
    (∀ t : Shared, BindsTo t fd ⟨us, []⟩ (ps.zip us)) → Vals xs us → sp p.1 p.2.cls p.2.dict xs H Q E → codeAny (model P w) A (.call (.ref f) ⟨us, []⟩) (CR CX0 fr P w H s Q E) s
section
variable {P : Program} {w : World} {K : PySem.W.Frag} {mg : Str → Option Value} {base : Heap}
theorem okP {x qual : Str} {st : Stmt} {f : Addr} {fd : FuncData} {N ps : List Str} {k : Nat} {sp : Addr → Value → Option Addr → Sp} (F : Fun K x qual st f fd) (S : FnScope N ps (defScope st)) (wide : ∀ a c d xs H Q E, sp a c d xs H Q E → xs.length = ps.length)
    (body : ∀ (cdv : Value) (A : Around) (fr : List Env) (s : Shared) (H : Hp) (xs : List V) (Q : VK) (E : XK) (p : Addr × Obj), L2H.RoomH k (A.deeper (envOfC qual (defScope st) s.heap.objs.size f cdv)) → (∃ vs, p.2.data = .fields vs) → sp p.1 p.2.cls p.2.dict xs H Q E →
      ∃ t, PSs (L2H.cxH CX0 P w K mg base N qual (defScope st) f cdv A fr s H E p).nox (defBody st) t ∧ t { nx := fun _ H' => Q .non H', rt := Q } (start N xs) H) : FnP P w K mg base (k + 1) f fd ps sp := by
  obtain ⟨oc, od, kV, doc, pm, an, cdv, ct, osl, rfl, lk, hcd⟩ := F.ex
  refine ⟨wide, fun A fr s H us xs Q E p hr pin hf e0 hb r hs => ?_⟩
  have old : ∀ b o, base.get? b = some o → s.heap.get? b = some o := fun b o e => (e0.bs b o e).1
  have inK : K.In s.heap := e0.mod.kin.keeps old
  have kinds : ∀ y ∈ ps.zip us, (defScope st).names.lookup y.1 = some .local ∨ ((defScope st).names.lookup y.1 = some .cell ∧ ((cellsFrom (s.heap.objs.size + 1) (defScope st).names []).lookup y.1).isSome = true) := by
    rintro ⟨n, v⟩ hy
    rcases S.par n (List.of_mem_zip hy).1 with q | q
    · exact Or.inl q
    · exact Or.inr ⟨q, PySem.W.cellsFrom_some _ _ _ (Or.inl q)⟩
  refine codeAny_call_function hr.depth (inK _ _ lk) rfl S.co S.gen rfl (PySem.W.codeRec_of inK hcd) (hb _ _ _ _ _ ?_)
  refine wpAny_newFunctionEnv_cells S.kind kinds fun env he s1 ic => ?_
  subst he
  refine ⟨(e0.mod.nolimit.keeps old).keeps ic.toInCall.keep, codeAny_func ?_⟩
  obtain ⟨t, ht, hq⟩ := body cdv A fr s H xs Q E p (hr.deeper _) hf hs
  have I := L2H.inv_startH (CX := CX0) (E := E) S pin e0 (wide _ _ _ _ _ _ _ hs) r ic
  refine wpAny_mono (ht.nox.run [] s1 (start N xs) H _ I hq) (fun fl s' z => ?_) fun _ _ z => z
  cases fl with
  | ret u =>
    obtain ⟨v, σ', H', J, rv, q⟩ := z
    exact ⟨v, H', J.os, J.bare, J.base, J.hok, rv, q⟩
  | next =>
    obtain ⟨σ', H', J, q⟩ := z
    exact ⟨V.non, H', J.os, J.bare, J.base, J.hok, rfl, q⟩
  | brk =>
    obtain ⟨_, _, _, q⟩ := z
    exact q.elim
  | cont =>
    obtain ⟨_, _, _, q⟩ := z
    exact q.elim
end
section
variable {X : Cx} {k : Nat} {f : Addr} {fd : FuncData} {ps : List Str} {sp : Addr → Value → Option Addr → Sp} {x : Str} {q0 pos : Pos} {e : Expr} {es : List Expr} {t : TA} {a0 : Addr} {oe0 : Obj} {cls0 : Value} {d0 : Option Addr}
theorem pe_callP (F : FnP X.prog X.w X.K X.mg X.base k f fd ps sp) (hr : L2H.RoomH k X.A) (hp : (a0, oe0) ∈ X.pn) (hz : Zc cls0 d0 oe0) (hf : ∃ vs, oe0.data = .fields vs) (hg : Gl X x) (hm : X.mg x = some (.ref f)) (hk : PySem.W.keepIn X.K (.ref f) = true) (hbs : BindG fd ps)
    (ha : PA X (e :: es) t) (hdb : (x == ("__debug__" : Str)) = false := by decide) (he : starEach (e :: es) X.env = (false, eval e X.env) :: starEach es X.env := by rfl) (hpl : (backTo pos (starEach es X.env)).any (·.1) = false := by rfl) :
    PE X (.Call (.Name x q0) (e :: es) [] pos) (fun σ H Q => t σ H fun vs H1 => sp a0 cls0 d0 vs H1 Q E0) := by
  refine ⟨fun pins s σ H Q I h => wpAny_Call_Name_kw (ld_glob I hg hm ?_ hdb)⟩
  refine PySem.W.callWith_K (h₀ := X.base) I.ok.mod.kin hk (thn (ha.run pos pins s σ H _ I h) fun us s1 ⟨vs, H1, I1, r, q⟩ => ⟨I1.kIn, ?_⟩) he hpl
  have hl : us.length = ps.length := by rw [← r.length]; exact F.wide _ _ _ _ _ _ _ q
  have P1 := I1.pin (a0, oe0) (List.mem_append_left _ hp)
  have pin : L2H.PinOk X.stack H1 s1 (a0, oe0) := ⟨P1.1, P1.2.1, fun m => (List.mem_cons.mp (I1.stkSub a0 m)).elim P1.2.2.1 P1.2.2.2.1, P1.2.2.2.2⟩
  refine wpAny_call (codeAny_mono (F.go X.A X.stack s1 H1 us vs Q E0 (a0, oe0) hr pin hf I1.env0 (hbs us hl) r (by rw [hz.1, hz.2]; exact q)) fun res s' hq => ?_)
  cases res with
  | error e => exact False.elim hq
  | ok fl =>
    cases fl with
    | ret u => exact I1.after hq
    | next => exact False.elim hq
    | brk => exact False.elim hq
    | cont => exact False.elim hq
/-- what an exception bears: its class, its own dict (if any) tracked -/
def Bears (H : Hp) (oe : Obj) (D : Addr) (d : Option (Addr × List (Str × V))) : Prop :=
  oe.cls = .ref D ∧ (∃ vs, oe.data = .fields vs) ∧ match d with
    | none => oe.dict = none
    | some (dd, fs) => oe.dict = some dd ∧ H dd = some (.xd fs)
theorem bears_at {pins : List (Addr × Obj)} {σ : L2.St} {H : Hp} {s : Shared} {oe : Obj} {a D : Addr} {d : Option (Addr × List (Str × V))} (I : Inv X pins σ H s) (hp : (a, oe) ∈ X.pn) (B : Bears H oe D d) : ∃ od, PySem.W.InstAt s.heap a oe D od := by
  obtain ⟨c, ⟨vs, hv⟩, hd⟩ := B
  have g := (I.pin (a, oe) (List.mem_append_left _ hp)).1
  cases d with
  | none =>
    refine ⟨none, g, c, by unfold PySem.W.notCls; rw [hv] <;> rfl, ?_⟩
    have hd : oe.dict = none := hd
    rw [hd]
    trivial
  | some d =>
    obtain ⟨dd, fs⟩ := d
    obtain ⟨h1, h2⟩ := hd
    obtain ⟨mA, ⟨o, es, ep, ho, r⟩, _⟩ := (show ObjOk X.prog X.w H s.heap dd (.xd fs) from I.hok dd _ h2)
    exact ⟨some o, g, c, by unfold PySem.W.notCls; rw [hv] <;> rfl, by rw [h1]; exact ho⟩
/-- isinstance(e, c), e the pinned exception -/
def rIsP (K : PySem.W.Frag) (a : Addr) (oe : Obj) : List V → Hp → VK → Prop := fun xs H Q => ∃ (D : Addr) (d : Option (Addr × List (Str × V))) (c : V) (u : Value) (b : Bool), xs = [.ref a, c] ∧ Bears H oe D d ∧ ExcC K D ∧ ClsV c u ∧ PySem.W.kitOne K (.ref D) u = some b ∧ Q (.bl b) H
theorem call_isP {a : Addr} {oe : Obj} (hp : (a, oe) ∈ X.pn) : CallR X (.builtin "isinstance") (rIsP X.K a oe) := by
  intro pins s σ H xs us Q I r h
  obtain ⟨D, d, c, u, b, rfl, B, C, k, e, q⟩ := h
  cases r with
  | cons rx rr =>
    cases rr with
    | cons rt rr =>
      cases rr
      cases rx
      have ec := k.eq rt
      subst ec
      exact PySem.W.kia_one (kit_exc C) I.kIn (bears_at I hp B) e (fun z => nomatch z) fun tk => ⟨.bl b, H, I.tok tk, rfl, q⟩
/-- e.f, e the pinned exception -/
def tXfP (K : PySem.W.Frag) (a : Addr) (oe : Obj) (n : Str) (te : TE) : TE := fun σ H Q => te σ H fun x H1 => x = .ref a ∧ ∃ (C dd : Addr) (fs : List (Str × V)) (v : V), Bears H1 oe C (some (dd, fs)) ∧ XfC K C ∧ PySem.W.findIn K (.ref C) n = some none ∧ fs.lookup n = some v ∧ Q v H1
theorem pe_xfP {a : Addr} {oe : Obj} {n : Str} {te : TE} (hp : (a, oe) ∈ X.pn) (he : PE X e te) (hb : attributeBase e n X.env (eval e X.env) = eval e X.env := by rfl) : PE X (.Attribute e n pos) (tXfP X.K a oe n te) := by
  refine ⟨fun pins s σ H Q I h => attr_of hb (thn (he.run pins s σ H _ I h) fun u s1 hh => ?_)⟩
  obtain ⟨x, H1, I1, rx, rfl, C, dd, fs, v, ⟨c1, ⟨vs, c2⟩, c3, c4⟩, T, hno, l, q⟩ := hh
  obtain rfl : u = Value.ref a := rx
  have g := (I1.pin (a, oe) (List.mem_append_left _ hp)).1
  obtain ⟨mA, hns, hr⟩ := (show ObjOk X.prog X.w H1 s1.heap dd (.xd fs) from I1.hok dd _ c4)
  obtain ⟨od, ho, hl⟩ := lookIn_ns hns
  obtain ⟨u, hu, ru⟩ := RelO.some_of (v := v) (o := mA n) (by rw [← l]; exact hr n)
  have J : PySem.W.InstAt s1.heap a oe C (some od) := ⟨g, c1, by unfold PySem.W.notCls; rw [c2] <;> rfl, by rw [c3]; exact ho⟩
  exact HandSPX.exc_get I1.kIn J T.ga T.gg T.exC (PySem.W.findObj_own T.hdC hno rfl (by rw [hl, hu])) (handed_of ru) ⟨v, H1, I1.tok _, ru, q⟩
/-- X(), X an own class without __init__ -/
theorem pmk_bare {C : Addr} {bmB : List Value} {B newId initId : String} (F : ExcBaseFacts B newId initId bmB) (q : PySem.W.excIn X.K C bmB newId = true) (gC : X.mg x = some (.ref C)) (kC : PySem.W.keepIn X.K (.ref C) = true) (r : Raises X (.ref C)) (hg : Gl X x)
    (hdb : (x == ("__debug__" : Str)) = false := by decide) : PMk X (.Call (.Name x q0) [] [] pos) (fun _ H Q => Q (.ref C) none H) := by
  intro pins s σ H Q I h
  refine wpAny_Call_Name_kw (ld_glob I hg gC ?_ hdb)
  refine PySem.W.callWith_K0 I.kIn kC ?_
  obtain ⟨bm, N, nm, qn, bs, hdct, sn, sub, ab, col, dd, k0, k1, k2, k3, k5, mN, hC, hN, hni, T⟩ := exc_obj I.kIn q
  exact wpAny_call_exc_subT F T hC hN hni (fun h' e hm => mk_of I hm r h (I.hok.gone hm.new)) (by show 0 ≤ sizeLine; exact Nat.zero_le _)
end
end Fv


set_option Elab.async false
set_option linter.all false
set_option maxRecDepth 100000
set_option maxHeartbeats 1000000
namespace Fv
open PySem PySem.Spec PyProof.Rows L2
/-- a value that is compared at once: flat, or one object -/
def Plain (v : V) : Prop := flatB v = true ∨ ∃ c, v = .ref c
theorem same_items {P : Program} {w : World} {A : Around} {s : Shared} : ∀ {xs : List V} {us ws : List Value}, (∀ v ∈ xs, Plain v) → Vals xs us → Vals xs ws → ∀ j (h1 : j < us.length) (h2 : j < ws.length), SeqAt.EqAt A s us[j] ws[j] true
  | _, _, _, _, .nil, .nil, j, h1, _ => absurd h1 (Nat.not_lt_zero j)
  | v :: xs, _, _, h, .cons a t, .cons b u, 0, _, _ => by
    rcases h v List.mem_cons_self with f | ⟨c, rfl⟩
    · exact eqAt_same a b f
    · cases a
      cases b
      exact SeqAt.EqAt.same _
  | v :: xs, _, _, h, .cons a t, .cons b u, j + 1, h1, h2 => same_items (P := P) (w := w) (fun x hx => h x (List.mem_cons_of_mem _ hx)) t u j (Nat.lt_of_succ_lt_succ h1) (Nat.lt_of_succ_lt_succ h2)
def rNeSame (K : PySem.W.Frag) : R2 := fun x y H Q => ∃ (a b : Addr) (xs : List V), x = .ref a ∧ y = .ref b ∧ SqL K H a xs ∧ SqL K H b xs ∧ (∀ v ∈ xs, Plain v) ∧ Q (.bl false) H
section
variable {X : Cx}
theorem op_neSame (hu : X.A.units + 64 < cLine) : OpR X (compareOp .NotEq) (rNeSame X.K) := by
  intro pins s σ H x y v u Q I rx ry h
  obtain ⟨a, b, xs, rfl, rfl, ha, hb, hp, q⟩ := h
  cases rx
  cases ry
  obtain ⟨us, r1, p1, _⟩ := I.list ha
  obtain ⟨ws, r2, p2, _⟩ := I.list hb
  have hsz : us.toArray.size = ws.toArray.size := by rw [List.size_toArray, List.size_toArray, ← r1.length, ← r2.length]
  have he : ∀ j (j1 : j < us.toArray.size) (j2 : j < ws.toArray.size), SeqAt.EqAt X.A.in1 s us.toArray[j] ws.toArray[j] ((fun _ => true) j) := fun j j1 j2 => by
    have := same_items (P := X.prog) (w := X.w) (A := X.A.in1) (s := s) hp r1 r2 j (by simpa using j1) (by simpa using j2)
    simpa using this
  have ne := SeqAt.RcNeAt.lists p1.isList p2.isList hsz (by omega) he
  refine ne X.prog X.w _ _ ?_
  rw [show ((List.range us.toArray.size).all fun _ => true) = true from List.all_eq_true.mpr fun _ _ => rfl]
  exact ⟨.bl false, H, I, rfl, q⟩
/-- lists put together, cut: new lists at none of the first places -/
def rCatB : R2 := fun x y H Q => ∃ (l b : Addr) (xs zs : List V), x = .ref l ∧ y = .ref b ∧ H l = some (.lst xs) ∧ H b = some (.lst zs) ∧ xs.length + zs.length ≤ sizeLine ∧ ∀ p, H p = none → p ≠ sysModules → Q (.ref p) (upd H p (.lst (xs ++ zs)))
theorem op_catB : OpR X (binaryOp .Add) rCatB := by
  intro pins s σ H x y v u Q I rx ry h
  obtain ⟨l, b, xs, zs, rfl, rfl, e1, e2, hz, q⟩ := h
  cases rx
  cases ry
  obtain ⟨_, us, n, r, _, g⟩ := I.lstM e1
  obtain ⟨_, ws, m, r2, _, g2⟩ := I.lstM e2
  have hl := r.length
  have hl2 := r2.length
  refine PySem.P.add_list g g2 ?_ (by rw [List.size_toArray, List.size_toArray]; omega)
  rw [show us.toArray ++ ws.toArray = (us ++ ws).toArray from by simp]
  exact ⟨.ref _, _, I.lnew (t' := s.toks) (r.append r2) (by rw [List.length_append]; omega), rfl, q _ I.fresh (Nat.ne_of_gt I.big)⟩
def rSlB (K : PySem.W.Frag) : V → Option Int → Option Int → Hp → VK → Prop := fun x lo hi H Q => ∃ (a : Addr) (xs : List V), x = .ref a ∧ SqL K H a xs ∧ ∀ p, H p = none → p ≠ sysModules → Q (.ref p) (upd H p (.lst (cutV xs lo hi)))
theorem sl_listB : SlR X (rSlB X.K) := by
  intro pins s σ H x v vl vu lo hi sl Q I rx hs pl pu h
  obtain ⟨a, xs, rfl, hx, q⟩ := h
  cases rx
  obtain ⟨us, r, pt, hz⟩ := I.list hx
  have hlen := r.length
  refine ⟨"list", _, slot_list_getitem.lookup, pt.isList.typeIs, wpAny_getItem_list_slice pt.isList hs pl pu .none (by simp) ?_ (by rw [List.size_toArray]; omega)⟩
  rw [slicePick_cut, ← hlen]
  have J : Inv X pins σ (upd H s.heap.objs.size (.lst (cutV xs lo hi))) { s with heap := s.heap.push { cls := .type "list", data := .seq ((us.drop (HT.sIx xs.length 0 lo)).take (HT.sIx xs.length xs.length hi - HT.sIx xs.length 0 lo)).toArray } } :=
    I.laid (t' := s.toks) (fun b ob q => Heap.get?_push_of_some _ q) (Nat.le_refl _) ⟨Nat.le_trans (cutV_length xs lo hi) hz, _, 0, (r.drop _).take _, Heap.get?_push_size _ rfl⟩
  exact ⟨.ref _, _, J, rfl, q _ I.fresh (Nat.ne_of_gt I.big)⟩
end
end Fv


set_option Elab.async false
set_option linter.all false
set_option maxRecDepth 100000
set_option maxHeartbeats 2000000
/-! sets of texts: the comprehension, len, sorted -/
namespace Fv
open PySem PySem.Spec PyProof.Rows L2
def txtOf (e : Int × Value) : Str := match e.2 with | .str k _ => k | _ => ""
def TxE (P : Program) (w : World) (e : Int × Value) : Prop := ∃ k tk, e.2 = Value.str k tk ∧ e.1 = (strKind P w).hash k
/-- the set of the texts L at a; its table can be walked -/
structure TxS (P : Program) (w : World) (h : Heap) (a : Addr) (L : List Str) (o : Obj) (es : Array (Int × Value)) (ep : Nat) (t : SetTable) : Prop where
  get : h.get? a = some o
  ex : o.ExactSet
  data : o.data = .set es ep t
  good : ∀ e ∈ es.toList, TxE P w e
  perm : (es.toList.map txtOf).Perm L
  nodup : L.Nodup
  few : es.size < scanBound
  fit : t.fits es.size = true
  ris : Ris t.place.toList
  led : w.params.followText "set-order" = true ∨ t.led = true
def TxtS (P : Program) (w : World) (h : Heap) (a : Addr) (L : List Str) : Prop := ∃ o es ep t, TxS P w h a L o es ep t
def insL (L : List Str) (k : Str) : List Str := if k ∈ L then L else L ++ [k]
section
variable {P : Program} {w : World}
theorem TxE.is {e : Int × Value} (g : TxE P w e) (k : Str) : (strKind P w).is k e.2 = true ↔ txtOf e = k := by
  obtain ⟨z, tk, h1, _⟩ := g
  have e2 : txtOf e = z := by
    unfold txtOf
    rw [h1]
  rw [e2, h1]
  show Value.isStrOf k (.str z tk) = true ↔ z = k
  constructor
  · intro h
    simpa [Value.isStrOf] using h
  · rintro rfl
    simp [Value.isStrOf]
theorem tx_elems {l : List (Int × Value)} (g : ∀ e ∈ l, TxE P w e) : ElemsOf (strKind P w) l := fun e he => by
  obtain ⟨k, tk, h1, h2⟩ := g e he
  exact ⟨⟨k, by rw [h1]; exact strKind_is _ _ _ _, h2⟩, by rw [h1]; rfl⟩
theorem tx_mem {l : List (Int × Value)} {L : List Str} (g : ∀ e ∈ l, TxE P w e) (p : (l.map txtOf).Perm L) (k : Str) : k ∈ L ↔ ∃ e ∈ l, (strKind P w).is k e.2 = true := by
  rw [← p.mem_iff, List.mem_map]
  exact ⟨fun ⟨e, he, q⟩ => ⟨e, he, ((g e he).is k).2 q⟩, fun ⟨e, he, q⟩ => ⟨e, he, ((g e he).is k).1 q⟩⟩
theorem TxtS.at {h h' : Heap} {a : Addr} {L : List Str} (R : TxtS P w h a L) (k : ∀ o, h.get? a = some o → h'.get? a = some o) : TxtS P w h' a L := by
  obtain ⟨o, es, ep, t, T⟩ := R
  exact ⟨o, es, ep, t, { T with get := k _ T.get }⟩
theorem TxS.size {h : Heap} {a : Addr} {L : List Str} {o : Obj} {es : Array (Int × Value)} {ep : Nat} {t : SetTable} (T : TxS P w h a L o es ep t) : es.size = L.length := by
  have := T.perm.length_eq
  rw [List.length_map, Array.length_toList] at this
  exact this
theorem TxS.stored {h : Heap} {a : Addr} {o : Obj} {es es' : Array (Int × Value)} {ep : Nat} {t t' : SetTable} {L' : List Str} (ho : h.get? a = some o) (hx : o.ExactSet) (hd : o.data = .set es ep t)
    (g : ∀ e ∈ es'.toList, TxE P w e) (p : (es'.toList.map txtOf).Perm L') (nd : L'.Nodup) (hb : es'.size < scanBound) (hf : t'.fits es'.size = true) (hr : Ris t'.place.toList) (hl : w.params.followText "set-order" = true ∨ t'.led = true) :
    TxS P w (h.update a (Obj.putSet es' t')) a L' { o with data := .set es' (ep + 1) t' } es' (ep + 1) t' :=
  ⟨(SetOf_store (knd := strKind P w) (S' := fun k => decide (k ∈ L')) ho hx hd (tx_elems g) (fun k => by rw [decide_eq_true_eq]; exact tx_mem g p k) hb hf).1, hx, rfl, g, p, nd, hb, hf, hr, hl⟩
end
section
variable {P : Program} {w : World} {A : Around} {E : Value → Shared → Prop} {s : Shared} {a : Addr} {L : List Str}
theorem tx_tail {g : Bool → Sem Unit} (hg : ∀ (b : Bool) (s₁ : Shared) (Q' : Unit → Shared → Prop), Q' () s₁ → wpAny (model P w) A (g b) Q' E s₁)
    {o : Obj} {es : Array (Int × Value)} {ep : Nat} {t : SetTable} (ho : s.heap.get? a = some o) (hx : o.ExactSet) (hd : o.data = .set es ep t)
    {fs : Array (Int × Value)} {t2 : SetTable} {L' : List Str} (gd : ∀ e ∈ fs.toList, TxE P w e) (pm : (fs.toList.map txtOf).Perm L') (nd : L'.Nodup) (hb : fs.size < scanBound) (hf : t2.fits fs.size = true) (hr : Ris t2.place.toList)
    (hl : w.params.followText "set-order" = true ∨ t2.led = true) {wasDummy : Bool} {R : Option Bool → Shared → Prop} (hR : ∀ h', Heap.SameBut a s.heap h' → TxtS P w h' a L' → R (some true) { s with heap := h' }) :
    wpAny (model P w) A (do
        storeSet a fs t2
        if (!wasDummy && t2.tooFull) = true then do
            g (relayAll t2 fs (SetTable.grown fs.size)).2.2
            storeSet a (relayAll t2 fs (SetTable.grown fs.size)).1 (relayAll t2 fs (SetTable.grown fs.size)).2.1
            pure (some true)
          else pure (some true)) R E s := by
  have T1 := TxS.stored (P := P) ho hx hd gd pm nd hb hf hr hl
  have b1 := Heap.SameBut.update s.heap a (Obj.putSet fs t2)
  refine wpAny_bind (wpAny_storeSet_of ho hd ?_ (fits_of_scanBound hb))
  split
  · have q1 := relayAll_perm t2 fs (SetTable.grown fs.size)
    have q2 := relayAll_fits t2 fs (SetTable.grown fs.size)
    have q3 := relayAll_ris t2 fs (SetTable.grown fs.size)
    have q4 := relayAll_led t2 fs (SetTable.grown fs.size)
    generalize relayAll t2 fs (SetTable.grown fs.size) = W at q1 q2 q3 q4 ⊢
    obtain ⟨gs, t3, gave⟩ := W
    have hz : gs.size = fs.size := by
      have := q1.length_eq
      rwa [Array.length_toList, Array.length_toList] at this
    have hb2 : gs.size < scanBound := by rw [hz]; exact hb
    refine wpAny_bind (hg gave _ _ (wpAny_bind (wpAny_storeSet_of T1.get T1.data ?_ (fits_of_scanBound hb2))))
    exact wpAny_pure (hR _ (b1.trans (Heap.SameBut.update _ a _)) ⟨_, _, _, _, TxS.stored T1.get T1.ex T1.data (fun e he => gd e (q1.mem_iff.mp he)) ((q1.map txtOf).trans pm) nd hb2 q2 q3 (hl.imp id fun z => Eq.trans q4 z)⟩)
  · exact wpAny_pure (hR _ b1 ⟨_, _, _, _, T1⟩)
theorem tx_hashed {k : Str} {tk : Tok} {Q : Bool → Shared → Prop} (R : TxtS P w s.heap a L) (room : L.length + 1 < scanBound) (hQ : ∀ h', Heap.SameBut a s.heap h' → TxtS P w h' a (insL L k) → Q (!decide (k ∈ L)) { s with heap := h' }) :
    wpAny (model P w) A (setAddHashed a (.str k tk) ((strKind P w).hash k)) Q E s := by
  obtain ⟨o, es, ep, t, T⟩ := R
  have el := tx_elems T.good
  have key : (strKind P w).is k (.str k tk) = true := strKind_is _ _ _ _
  have sc : (Value.str k tk).scannable = true := rfl
  have mm := tx_mem T.good T.perm k
  unfold setAddHashed setAddHashedIn
  refine wpAny_holding (wpAny_bind (wpAny_setState_of T.get T.data T.fit ?_))
  dsimp only
  rw [byScan_of sc T.few el]
  simp only [↓reduceIte]
  unfold setAddByScan
  refine wpAny_bind (wpAny_bind (wpAny_rule (wpAny_bind (wpAny_setScan_of key T.get T.data T.fit el ?_))))
  cases fi : List.findIdx? (fun e => (strKind P w).is k e.2) es.toList with
  | some j =>
    obtain ⟨hj, pj, _⟩ := List.findIdx?_eq_some_iff_getElem.mp fi
    have hk : k ∈ L := mm.2 ⟨es.toList[j], List.getElem_mem hj, pj⟩
    have q := hQ s.heap (Heap.SameBut.refl a s.heap) ⟨o, es, ep, t, by unfold insL; rw [if_pos hk]; exact T⟩
    rw [decide_eq_true hk] at q
    exact wpAny_pure (wpAny_pure q)
  | none =>
    have hk : k ∉ L := fun z => by
      obtain ⟨e, he, q⟩ := mm.1 z
      have c := List.findIdx?_eq_none_iff.mp fi e he
      rw [q] at c
      cases c
    have fin : ∀ h', Heap.SameBut a s.heap h' → TxtS P w h' a (L ++ [k]) → Q true { s with heap := h' } := fun h' sb r => by
      have q := hQ h' sb (by unfold insL; rw [if_neg hk]; exact r)
      rwa [decide_eq_false hk] at q
    have gw : ∀ (b : Bool) {s₁ : Shared} {Q' : Unit → Shared → Prop}, Q' () s₁ → wpAny (model P w) A (match b with | true => rule "set.scan.the-table-gave-way" | false => pure ()) Q' E s₁ := fun b s₁ Q' q => by
      cases b
      · exact wpAny_pure q
      · exact wpAny_rule q
    have q1 := layNew_perm t es ((strKind P w).hash k) (.str k tk)
    have q2 := layNew_fits t es ((strKind P w).hash k) (.str k tk)
    have q3 := layNew_ris t es ((strKind P w).hash k) (.str k tk) T.ris
    have q4 := layNew_led t es ((strKind P w).hash k) (.str k tk)
    dsimp only
    generalize layNew t es ((strKind P w).hash k) (.str k tk) = W at q1 q2 q3 q4 ⊢
    obtain ⟨fs, t1, wd, gave⟩ := W
    dsimp only at q1 q2 q3 q4 ⊢
    rw [Array.toList_push] at q1
    have gd : ∀ e ∈ fs.toList, TxE P w e := fun e he => by
      rcases List.mem_append.mp (q1.mem_iff.mp he) with z | z
      · exact T.good e z
      · rw [List.mem_singleton.mp z]
        exact ⟨k, tk, rfl, rfl⟩
    have pm : (fs.toList.map txtOf).Perm (L ++ [k]) := by
      have := q1.map txtOf
      rw [List.map_append] at this
      exact this.trans (T.perm.append_right _)
    have nd : (L ++ [k]).Nodup := by
      rw [List.nodup_append]
      exact ⟨T.nodup, by simp, fun x hx y hy e => hk (by rw [List.mem_singleton.mp hy] at e; rw [← e]; exact hx)⟩
    have hz : fs.size = L.length + 1 := by
      have := pm.length_eq
      rw [List.length_map, Array.length_toList, List.length_append] at this
      exact this
    have hb : fs.size < scanBound := by rw [hz]; exact room
    have ld : w.params.followText "set-order" = true ∨ t1.led = true := T.led.imp id fun z => Eq.trans q4 z
    refine wpAny_bind (gw _ ?_)
    split
    · refine wpAny_bind ?_
      rw [hashByValue_scannable 8 sc]
      refine wpAny_pure (tx_tail (fun b s₁ Q' q => gw b q) T.get T.ex T.data gd pm nd hb ?_ ?_ ?_ fun h' sb r => wpAny_pure (fin h' sb r))
      · first | (split <;> first | exact q2 | exact SetTable.fits_plain_off q2) | exact q2
      · first | (split <;> exact q3) | exact q3
      · first | (split <;> exact ld) | exact ld
    · refine wpAny_bind (wpAny_pure ?_)
      simp only [↓reduceIte]
      exact tx_tail (fun b s₁ Q' q => gw b q) T.get T.ex T.data gd pm nd hb q2 q3 ld fun h' sb r => wpAny_pure (fin h' sb r)
theorem TxtS.setOf (R : TxtS P w s.heap a L) : s.heap.SetOf (strKind P w) a (fun k => decide (k ∈ L)) L.length := by
  obtain ⟨o, es, ep, t, T⟩ := R
  exact ⟨o, es, ep, t, T.get, T.ex, T.data, tx_elems T.good, fun k => by rw [decide_eq_true_eq]; exact tx_mem T.good T.perm k, T.few, T.fit, T.size⟩
/-- found.add(text) -/
theorem tx_add {k : Str} {tk : Tok} {Q : Value → Shared → Prop} (R : TxtS P w s.heap a L) (room : L.length + 1 < scanBound)
    (hQ : ∀ h' tk', Heap.SameBut a s.heap h' → TxtS P w h' a (insL L k) → Q .none { s with heap := h', toks := tk' }) :
    wpAny (model P w) A (call (.builtin "set.add") [.ref a, .str k tk]) Q E s := by
  refine wpAny_call_entry F.slot_set_add R.setOf.typeIs F.entry_set_add ?_ (F.args_set_add_2 _ _)
  unfold Builtin.«set.add» Builtin.Frozenset.oneOther
  simp only [List.isEmpty_nil, bind_assoc]
  unfold Builtin.Frozenset.addrOf setAdd
  refine wpAny_bind (wpAny_pure ?_)
  try dsimp only
  refine wpAny_bind (wpAny_pure ?_)
  try dsimp only
  refine wpAny_bind (wpAny_holding (wpAny_bind ((strKind P w).pyHash (strKind_is _ _ k tk) (tx_hashed (s := { s with toks := s.toks + 1 }) R room fun h' sb r => ?_))))
  show wpAny _ _ (ret Value.none) _ _ _
  exact wpAny_pure ⟨_, rfl, hQ h' _ sb r⟩
theorem tx_fresh {h : Heap} : TxtS P w (h.push { cls := .type "set", dict := none, data := .set #[] 0 (.fresh 0 0 (!w.params.followText "set-order")) }) h.objs.size [] := by
  refine ⟨_, #[], 0, _, Heap.get?_push_size _ rfl, ⟨rfl, rfl, rfl⟩, rfl, fun e he => by simp at he, by simp, List.nodup_nil, by decide, rfl, List.Pairwise.nil, ?_⟩
  show _ ∨ (!w.params.followText "set-order") = true
  cases w.params.followText "set-order"
  · exact .inr rfl
  · exact .inl rfl
end
end Fv


set_option Elab.async false
set_option linter.all false
set_option maxRecDepth 100000
set_option maxHeartbeats 2000000
/-! sets of texts as tracked things; the comprehension; len and sorted of one; & of two empty ones -/
namespace Fv
open PySem PySem.Spec PyProof.Rows L2
def TxtO (P : Program) (w : World) (a : Addr) (L : List Str) : HO := .ext fun h => TxtS P w h a L
theorem txtO_new {P : Program} {w : World} {H : Hp} {h : Heap} {a : Addr} {L : List Str} (R : TxtS P w h a L) : ObjOk P w H h a (TxtO P w a L) :=
  ⟨R, let ⟨o, _, _, _, T⟩ := R; ⟨o, T.get⟩, fun _ _ p k => TxtS.at p k⟩
section
variable {X : Cx}
theorem txtO_get {pins : List (Addr × Obj)} {σ : L2.St} {H : Hp} {s : Shared} {a : Addr} {L : List Str} (I : Inv X pins σ H s) (ha : H a = some (TxtO X.prog X.w a L)) : TxtS X.prog X.w s.heap a L := (I.hok a _ ha).1
theorem tx_addI {pins : List (Addr × Obj)} {σ : L2.St} {H : Hp} {s : Shared} {E : Value → Shared → Prop} {D : Addr} {L : List Str} {k : Str} {tk : Tok} {Q : Value → Shared → Prop} (I : Inv X pins σ H s) (hD : H D = some (TxtO X.prog X.w D L)) (room : L.length + 1 < scanBound)
    (h : ∀ s', Inv X pins σ (upd H D (TxtO X.prog X.w D (insL L k))) s' → Q .none s') : wpAny (model X.prog X.w) X.A (call (.builtin "set.add") [.ref D, .str k tk]) Q E s := by
  refine tx_add (txtO_get I hD) room fun h' tk' sb new => ?_
  exact h _ (I.write (e := D) (t' := tk') (by rw [hD]; trivial) (.inl rfl) (fun b u hb hu => (sb.2 b hb).trans hu) (let ⟨o, _, _, _, T⟩ := new; ⟨o, T.get⟩) (txtO_new new))
/-- {elt for target in iter if ..}, elt a text: D the new set -/
def tScX (P : Program) (w : World) (wi : TI) (g : TG) (tt : TT) (te : TE) (vs : List Nat) : TE := fun σ H Q => wi σ H fun J H1 => ∀ D, H1 D = none → ∃ W : Nat → Nat → Hp → Prop, (∃ m, W 0 m (upd H1 D (TxtO P w D []))) ∧ ∀ i m H, W i m H →
  (J.stop i H ∧ Q (.ref D) H) ∨ (J.go i H ∧ ∃ Nx : Hp → Prop, (∀ H', Nx H' → ∃ m', m' < m ∧ W (i + 1) m' H') ∧ ∀ x H', J.yld i H x H' → g x (wipe σ vs) H' fun σ2 H2 => wipe σ2 vs = wipe σ vs ∧ tt σ2 H2 fun b H3 =>
    if b = true then te σ2 H3 fun y H4 => ∃ (z : Str) (L : List Str), y = .str z ∧ H4 D = some (TxtO P w D L) ∧ L.length + 1 < scanBound ∧ Nx (upd H4 D (TxtO P w D (insL L z))) else Nx H3)
theorem pe_scX {elt tg iter : Expr} {ifs : List Expr} {scope : Scope} {own : List (PySem.Str × Nat)} {pos : Pos} {wi : TI} {g : TG} {tt : TT} {te : TE} (hc : X.calm = true) (hN : X.N.Nodup) (hi : PI X tg iter wi) (ok : BlkOk X.N X.env.scope scope own)
    (hg : ∀ (s : Shared) (H : Hp) (C : Addr) (cl : List (PySem.Str × Addr)) (fp : List Addr), PG (X.blk s H scope (compEnvC scope cl C X.env) fp) tg g) (ht : ∀ (s : Shared) (H : Hp) (C : Addr) (cl : List (PySem.Str × Addr)) (fp : List Addr), PTs (X.blk s H scope (compEnvC scope cl C X.env) fp) ifs tt)
    (he : ∀ (s : Shared) (H : Hp) (C : Addr) (cl : List (PySem.Str × Addr)) (fp : List Addr), PE (X.blk s H scope (compEnvC scope cl C X.env) fp) elt te) (hs : ∀ x, foldedSetIterable iter X.env x = pure x := by intro _; rfl) :
    PE X (.SetComp elt [⟨tg, iter, ifs, 0⟩] scope pos) (tScX X.prog X.w wi g tt te (own.map (·.2))) := by
  refine ⟨fun pins s σ H Q I h => ?_⟩
  rw [PpSet.eval_SetComp]
  have free : ∀ y ∈ scope.names, y.2 = .free → ∃ c, X.env.cells.lookup y.1 = some c := fun y hy e => (ok.free y hy e).elim (fun k => I.ok.has _ (.inl k)) fun k => I.ok.has _ (.inr k)
  refine wpAny_comprehension_free rfl hs (closure_ok free) ok.kind (fun y hy e => by rw [ok.uniq y hy, e]) (thn (hi.run pins s σ H _ I h) fun xv s1 hx => thn hx fun itv s2 ⟨it, fp, tn, J, H2, e2, I2, T, st2, f2, q⟩ => ?_)
  subst e2
  refine PpSet.newSet_ok (newEnv_comp ?_)
  have nD : H2 s2.heap.objs.size = none := I2.hok.fresh (Nat.le_refl _)
  obtain ⟨W, ⟨m0, w0⟩, turn⟩ := q _ nD
  have I3 : Inv X pins σ (upd H2 s2.heap.objs.size (TxtO X.prog X.w s2.heap.objs.size [])) { s2 with heap := s2.heap.push { cls := .type "set", dict := none, data := .set #[] 0 (.fresh 0 0 (!X.w.params.followText "set-order")) } } :=
    I2.laid (t' := s2.toks) (fun b o e => Heap.get?_push_of_some _ e) (Nat.le_refl _) (txtO_new tx_fresh)
  have szf : ∀ b ∈ fp, b < s2.heap.objs.size := fun b hb => let ⟨_, e, _⟩ := T.obj _ _ st2 b hb; Heap.lt_size e
  obtain ⟨D, eD⟩ : ∃ D, D = s2.heap.objs.size := ⟨_, rfl⟩
  rw [← eD] at nD w0 turn I3 szf ⊢
  have k3 : ∀ b o, s2.heap.get? b = some o → (s2.heap.push { cls := .type "set", dict := none, data := .set #[] 0 (.fresh 0 0 (!X.w.params.followText "set-order")) }).get? b = some o := fun b o e => Heap.get?_push_of_some _ e
  have z3 : (s2.heap.push { cls := .type "set", dict := none, data := .set #[] 0 (.fresh 0 0 (!X.w.params.followText "set-order")) }).objs.size = D + 1 := by rw [Heap.size_push, eD]
  generalize e3 : ({ s2 with heap := s2.heap.push { cls := .type "set", dict := none, data := .set #[] 0 (.fresh 0 0 (!X.w.params.followText "set-order")) } } : Shared) = s3 at I3 ⊢
  have h3 : s3.heap = s2.heap.push { cls := .type "set", dict := none, data := .set #[] 0 (.fresh 0 0 (!X.w.params.followText "set-order")) } := by rw [← e3]
  rw [← h3] at k3 z3
  obtain ⟨H3, eH⟩ : ∃ H3, H3 = upd H2 D (TxtO X.prog X.w D []) := ⟨_, rfl⟩
  have fps : ∀ b ∈ fp, FpOk X pins H3 b ∧ b < s3.heap.objs.size := fun b hb => by
    refine ⟨⟨?_, (f2 b hb).2⟩, by rw [z3]; exact Nat.lt_succ_of_lt (szf b hb)⟩
    rw [eH, upd_ne (Nat.ne_of_lt (szf b hb))]
    exact (f2 b hb).1
  rw [← eH] at w0 I3
  have b4 := block_start I3 ok hN fps
  have st3 : tn 0 s3.heap := T.keep _ _ _ st2 fun b _ o e => k3 b o e
  show codeAny _ _ (.compStart (.SetComp elt [⟨tg, iter, ifs, 0⟩] scope pos) 0 (.ref it) (.ref D) (compEnvC scope (cellsFrom (s3.heap.objs.size + 1) scope.names (cloFrom X.env.cells scope.names [])) s3.heap.objs.size X.env)) (compPost (model X.prog X.w) X.A X.xe none _ (.ref D) s3.heap.objs.size) { s3 with heap := pushCells (s3.heap.push { cls := .type "dict", data := .dict #[] }) scope.names }
  have G1 := hg s3 H3 s3.heap.objs.size (cellsFrom (s3.heap.objs.size + 1) scope.names (cloFrom X.env.cells scope.names [])) fp
  have G2 := ht s3 H3 s3.heap.objs.size (cellsFrom (s3.heap.objs.size + 1) scope.names (cloFrom X.env.cells scope.names [])) fp
  have G3 := he s3 H3 s3.heap.objs.size (cellsFrom (s3.heap.objs.size + 1) scope.names (cloFrom X.env.cells scope.names [])) fp
  generalize ece : compEnvC scope (cellsFrom (s3.heap.objs.size + 1) scope.names (cloFrom X.env.cells scope.names [])) s3.heap.objs.size X.env = ce at b4 G1 G2 G3 ⊢
  have lc : ce.locals = s3.heap.objs.size := by rw [← ece]; rfl
  generalize e4 : ({ s3 with heap := pushCells (s3.heap.push { cls := .type "dict", data := .dict #[] }) scope.names } : Shared) = s4 at b4 ⊢
  have st4 : tn 0 s4.heap := T.keep _ _ _ st3 fun b _ o e => by rw [← e4]; exact pushCells_keeps _ _ _ _ (Heap.get?_push_of_some _ e)
  have still : ∀ {σ' : L2.St} {H' : Hp} {s' : Shared}, Inv (X.blk s3 H3 scope ce fp) [] σ' H' s' → (∀ b ∈ fp, H' b = none) → ∀ b ∈ fp, FpOk (X.blk s3 H3 scope ce fp) [] H' b := fun {σ' H' s'} J hn b hb =>
    ⟨hn b hb, (J.ok.exf b hb).1, J.ok.exfs b hb, Or.inl hb, fun x c e => (J.ok.exf b hb).2 x c e, fun p hp => by simp at hp⟩
  have walk : codeAny (model X.prog X.w) X.A (.compLoop (.SetComp elt [⟨tg, iter, ifs, 0⟩] scope pos) 0 (.ref it) (.ref D) ce) (compPost (model X.prog X.w) X.A X.xe none (EP X pins σ Q) (.ref D) s3.heap.objs.size) s4 := by
    refine PpSet.compLoopS_any (fun n s' => ∃ (i : Nat) (H' : Hp), Inv (X.blk s3 H3 scope ce fp) [] (wipe σ (own.map (·.2))) H' s' ∧ tn i s'.heap ∧ (∀ b ∈ fp, H' b = none) ∧ W i n H') (fun n s5 ⟨i, H5, I5, st5, n5, w5⟩ => ?_) m0 ⟨0, H3, b4, st4, fun b hb => (fps b hb).1.1, w0⟩
    rcases turn i n H5 w5 with ⟨stop, qq⟩ | ⟨go, Nx, hNx, step⟩
    · refine thnF (T.done (X.blk s3 H3 scope ce fp) rfl rfl rfl hc i [] s5 _ H5 (fun _ _ => False) I5 (still I5 n5) st5 stop) fun r s6 ⟨hr, I6⟩ => ?_
      subst hr
      have J := I3.call' (ch := fp) I6.os I6.base I6.hok I6.bare fun b hb => let f := (fps b hb).1.2; ⟨f.2.2.1, f.1, f.2.2.2.1, f.2.2.2.2⟩
      have nC : H5 s3.heap.objs.size = none := lc ▸ I6.free
      obtain ⟨m, hn, _⟩ := I6.loc
      have hn' : s6.heap.Ns s3.heap.objs.size m := lc ▸ (show s6.heap.Ns ce.locals m from hn)
      obtain ⟨f0, f1, f2, f3, f4, f5⟩ := I3.fpOk (Nat.le_refl _) nC
      exact ⟨m, hn', fun h'' sb => ⟨.ref D, H5, J.turned (t' := s6.toks) (fun b o hb e => (sb.2 b hb).trans e) f0 f1 f3 f4 f5, rfl, qq⟩⟩
    · refine thnF (T.item (X.blk s3 H3 scope ce fp) rfl rfl rfl hc i [] s5 _ H5 (fun _ _ => False) I5 (still I5 n5) st5 go) fun r s6 ⟨u, hr, h6⟩ => ?_
      subst hr
      refine thnF h6 fun _ s7 ⟨x, H7, I7, r7, y7, st7, n7⟩ => ?_
      have P7 := I7.pinned (still I7 n7) (T.obj _ _ st7)
      refine thnF (G1.run _ s7 _ H7 x u _ P7 r7 (step x H7 y7)) fun _ s8 ⟨σ8, H8, I8, hw8, q8⟩ => thnF (G2.run _ s8 σ8 H8 _ I8 q8) fun b s9 ⟨H9, I9, q9⟩ => ?_
      have fin : ∀ {s' : Shared} {H' : Hp}, Inv (X.blk s3 H3 scope ce fp) ([] ++ pinsAt fp s7.heap) σ8 H' s' → Nx H' → ∃ m, m < n ∧ ∃ (i : Nat) (H' : Hp), Inv (X.blk s3 H3 scope ce fp) [] (wipe σ (own.map (·.2))) H' s' ∧ tn i s'.heap ∧ (∀ b ∈ fp, H' b = none) ∧ W i m H' := fun {s' H'} J nx => by
        obtain ⟨m', hm, w'⟩ := hNx H' nx
        have kept : ∀ b ∈ fp, ∀ o, s7.heap.get? b = some o → s'.heap.get? b = some o ∧ H' b = none := fun b hb o e => by
          have z := J.pin (b, o) (List.mem_append_right _ (List.mem_append_right _ (mem_pinsAt hb e)))
          exact ⟨z.1, z.2.1⟩
        refine ⟨m', hm, i + 1, H', (J.unpinned (pins := [])).weak (by rw [← hw8, wipe_length]) (fun j v e => (wipe_some (hw8 ▸ e)).1), T.keep _ _ _ st7 fun b hb o e => (kept b hb o e).1, fun b hb => ?_, w'⟩
        obtain ⟨o, e, _⟩ := T.obj _ _ st7 b hb
        exact (kept b hb o e).2
      cases b with
      | false =>
        rw [if_neg Bool.false_ne_true] at q9 ⊢
        exact fin I9 q9
      | true =>
        rw [if_pos rfl] at q9 ⊢
        refine thnF (G3.run _ s9 σ8 H9 _ I9 q9) fun z s10 ⟨yv, H10, I10, r10, zt, L, ey, hD10, room, nx⟩ => ?_
        subst ey
        obtain ⟨tk, rfl⟩ := r10
        exact tx_addI (X := X.blk s3 H3 scope ce fp) I10 hD10 room fun s11 I11 => fin I11 nx
  exact PpSet.codeAny_compStart_set walk (T.self X.A 0 _ _ _ st4 walk)
/-- over anything that is walked -/
theorem sc_it {P : Program} {w : World} {J : It} {n : Nat} {G : Hp → Prop} {Y : Nat → Hp → V → Hp → Prop} (wk : Walk J n G Y) {g : TG} {tt : TT} {te : TE} {vs : List Nat} {σ : L2.St} {H1 : Hp} {D : Addr} {Qd : Hp → Prop} (Pv : Nat → Hp → Prop) (h0 : Pv 0 (upd H1 D (TxtO P w D []))) (hG : ∀ i H, i ≤ n → Pv i H → G H)
    (hs : ∀ i x H H', i < n → Pv i H → Y i H x H' → g x (wipe σ vs) H' fun σ2 H2 => wipe σ2 vs = wipe σ vs ∧ tt σ2 H2 fun b H3 =>
      if b = true then te σ2 H3 fun y H4 => ∃ (z : Str) (L : List Str), y = .str z ∧ H4 D = some (TxtO P w D L) ∧ L.length + 1 < scanBound ∧ Pv (i + 1) (upd H4 D (TxtO P w D (insL L z))) else Pv (i + 1) H3) (hd : ∀ H, Pv n H → Qd H) :
    ∃ W : Nat → Nat → Hp → Prop, (∃ m, W 0 m (upd H1 D (TxtO P w D []))) ∧ ∀ i m H, W i m H →
      (J.stop i H ∧ Qd H) ∨ (J.go i H ∧ ∃ Nx : Hp → Prop, (∀ H', Nx H' → ∃ m', m' < m ∧ W (i + 1) m' H') ∧ ∀ x H', J.yld i H x H' → g x (wipe σ vs) H' fun σ2 H2 => wipe σ2 vs = wipe σ vs ∧ tt σ2 H2 fun b H3 =>
        if b = true then te σ2 H3 fun y H4 => ∃ (z : Str) (L : List Str), y = .str z ∧ H4 D = some (TxtO P w D L) ∧ L.length + 1 < scanBound ∧ Nx (upd H4 D (TxtO P w D (insL L z))) else Nx H3) := by
  refine ⟨fun i m H => m + i = n ∧ Pv i H, ⟨n, rfl, h0⟩, fun i m H ⟨hm, p⟩ => ?_⟩
  rcases Nat.lt_or_ge i n with hlt | hge
  · exact .inr ⟨wk.goes i H hlt (hG i H (Nat.le_of_lt hlt) p), Pv (i + 1), fun H' p' => ⟨n - (i + 1), by omega, by omega, p'⟩, fun x H' y => hs i x H H' hlt p (wk.yields i H x H' hlt (hG i H (Nat.le_of_lt hlt) p) y)⟩
  · obtain rfl : i = n := by omega
    exact .inl ⟨wk.stops H (hG i H hge p), hd H p⟩
/-- len of such a set -/
def rLenX (P : Program) (w : World) : List V → Hp → VK → Prop := fun xs H Q => ∃ (a : Addr) (L : List Str), xs = [.ref a] ∧ H a = some (TxtO P w a L) ∧ Q (.int L.length) H
theorem call_lenX : CallR X (.builtin "len") (rLenX X.prog X.w) := by
  intro pins s σ H xs us Q I r h
  obtain ⟨a, L, rfl, ha, q⟩ := h
  rw [Vals.ref1 r]
  obtain ⟨o, es, ep, t, T⟩ := txtO_get I ha
  exact call_len_set T.get T.ex T.data T.fit (by
    have z1 := T.few
    have z2 : scanBound = 4096 := rfl
    omega) ⟨.int L.length, H, I.tok _, ⟨_, by rw [T.size]⟩, q⟩
theorem txt_strs : ∀ {vs : List Value}, (∀ v ∈ vs, ∃ k tk, v = Value.str k tk) → StrsAre vs (vs.map fun v => txtOf (0, v))
  | [], _ => .nil
  | v :: vs, h => by
    obtain ⟨k, tk, rfl⟩ := h v List.mem_cons_self
    exact .cons k tk (txt_strs fun u hu => h u (List.mem_cons_of_mem _ hu))
/-- sorted of one with fewer than 64 members -/
def rSortX (P : Program) (w : World) : List V → Hp → VK → Prop := fun xs H Q => ∃ (a : Addr) (L : List Str), xs = [.ref a] ∧ H a = some (TxtO P w a L) ∧ L.length < 64 ∧ ∀ ys p, ys.Perm L → sortedS ys = true → H p = none → p ≠ sysModules → Q (.ref p) (upd H p (.lst (ys.map V.str)))
theorem call_sortX (hc : X.calm = true) : CallR X (.builtin "sorted") (rSortX X.prog X.w) := by
  intro pins s σ H xs us Q I r h
  obtain ⟨a, L, rfl, ha, h64, q⟩ := h
  rw [Vals.ref1 r]
  obtain ⟨o, es, ep, t, T⟩ := txtO_get I ha
  refine Calls.call_function_entry PyProof.Rows.kind_sorted PyProof.Rows.plain_sorted PyProof.Rows.entry_sorted (PyProof.Rows.args_sorted1 _) ?_
  unfold Builtin.«sorted»
  refine wpAny_bind (m := checkCount "sorted" 1 1 _) (wpAny_pure (wpAny_bind (collect_set (A := X.A.in1) (I.ok.hd hc) ⟨o, T.get, T.ex.1, T.data⟩ T.fit T.few T.ris T.led fun s1 vs k1 z1 g1 o1 pm => ?_)))
  have vl : vs.length = L.length := by rw [pm.length_eq, List.length_map, Array.length_toList, T.size]
  have hS : StrsAre vs (vs.map fun v => txtOf (0, v)) := txt_strs fun v hv => by
    obtain ⟨e, he, q⟩ := List.mem_map.mp (pm.mem_iff.mp hv)
    obtain ⟨k, tk, h1, _⟩ := T.good e he
    exact ⟨k, tk, by rw [← q]; exact h1⟩
  have pL : (vs.map fun v => txtOf (0, v)).Perm L := by
    have := pm.map fun v => txtOf (0, v)
    rw [List.map_map] at this
    exact this.trans T.perm
  have I1 : Inv X pins σ H s1 := I.call' (ch := []) o1 (Un.kept k1) (I.hok.kept k1) (by rw [g1]; exact I.bare) (fun _ z => nomatch z)
  refine wpAny_bind (wpAny_newList ?_ (by rw [vl, sizeLine_eq]; omega))
  have oL : (s1.heap.push (seqObj "list" vs.toArray 0)).get? s1.heap.objs.size = some (seqObj "list" vs.toArray 0) := Heap.get?_push_size _ rfl
  refine wpAny_bind (wpAny_holding (wpAny_call_entry PyProof.Rows.slot_list_sort ⟨_, oL, rfl⟩ PyProof.Rows.entry_list_sort
    (list_sort_treeK strKind_oneLt (s := { s1 with heap := s1.heap.push (seqObj "list" vs.toArray 0) }) oL hS.keysOf (fun v₁ v₂ rest e => keyKind_strs (by rw [← e]; exact hS)) (by rw [vl]; exact h64) fun st' hp hs => ⟨_, rfl, ?_⟩)
    (PyProof.Rows.args_list_sort _)))
  obtain ⟨ys, a1, a2, a3⟩ := sorted_out_str hS hp hs
  obtain ⟨e', he'⟩ := PyProof.Rows.sortedHeap_at (vs := vs) (out := (arrOf st').map (·.2)) oL
  have yl : (ys.map V.str).length ≤ sizeLine := by
    rw [List.length_map, (a2.trans pL).length_eq, sizeLine_eq]
    omega
  refine wpAny_pure ⟨_, rfl, .ref s1.heap.objs.size, upd H s1.heap.objs.size (.lst (ys.map V.str)), I1.laid (t' := s1.toks) (fun b u e => ?_) (Nat.le_refl _)
    (show ObjOk X.prog X.w _ _ _ (.lst (ys.map V.str)) from ⟨yl, ((arrOf st').map (·.2)).toList, e', vals_of_strs a1, by rw [Array.toArray_toList]; exact he'⟩), rfl, q ys _ (a2.trans pL) a3 (I1.hok.fresh (Nat.le_refl _)) (Nat.ne_of_gt I1.big)⟩
  have hb : b < s1.heap.objs.size := Heap.lt_size e
  rw [PyProof.Rows.sortedHeap_old (Nat.ne_of_lt hb) (by rw [size_push']; exact Nat.lt_succ_of_lt hb)]
  exact Heap.get?_push_of_some _ e
end
end Fv


set_option Elab.async false
set_option linter.all false
set_option maxRecDepth 100000
set_option maxHeartbeats 2000000
namespace Fv
open PySem PySem.Spec PyProof.Rows L2
/-! ### & of two empty ones -/
theorem entry_set_meet : entryFor table "set.__and__" = some Builtin.«frozenset.__and__» := entryFor_alias (id' := "frozenset.__and__") (by kernel_rfl) rfl (by decide +kernel) (by kernel_rfl)
section
variable {P : Program} {w : World} {A : Around} {E : Value → Shared → Prop} {s : Shared} {a : Addr}
theorem TxS.none {h : Heap} {o : Obj} {es : Array (Int × Value)} {ep : Nat} {t : SetTable} (T : TxS P w h a [] o es ep t) : es = #[] := Array.eq_empty_of_size_eq_zero T.size
theorem walk_none {o : Obj} {es : Array (Int × Value)} {ep : Nat} {t : SetTable} {Q : Array (Int × Value) → Shared → Prop} (T : TxS P w s.heap a [] o es ep t) (q : Q #[] s) : wpAny (model P w) A (setWalk a) Q E s := by
  obtain rfl := T.none
  unfold setWalk
  refine wpAny_bind (wpAny_setState_of T.get T.data T.fit ?_)
  dsimp only
  refine wpAny_bind (wpAny_byText ?_)
  cases w.params.followText "set-order" with
  | true =>
    refine wp_if_pos rfl (wpAny_bind (wpAny_askSetting (wpAny_pure ?_)))
    have e : pickOrder (w.params.setOrder a ep) (#[] : Array (Int × Value)) = #[] := by
      have := (pick_perm (w.params.setOrder a ep) (#[] : Array (Int × Value))).length_eq
      exact Array.eq_empty_of_size_eq_zero (by simpa using this)
    show Q (pickOrder (w.params.setOrder a ep) (#[] : Array (Int × Value))) s
    rw [e]
    exact q
  | false =>
    refine wp_if_neg Bool.false_ne_true ?_
    try refine wpAny_bind (wpAny_pure ?_)
    refine wp_if_neg (by show ¬ ((!t.plain && decide ((#[] : Array (Int × Value)).size > 1)) = true); simp) ?_
    try refine wpAny_bind (wpAny_pure ?_)
    refine wpAny_bind (wpAny_of_eq (a := ()) (by show (if (!t.led && !(#[] : Array (Int × Value)).isEmpty) = true then unsupported _ else pure ()) = pure (); simp) ?_)
    exact wpAny_pure q
theorem unseen_none {o : Obj} {es : Array (Int × Value)} {ep : Nat} {t : SetTable} {others : List Addr} {fl : Option Addr} {Q : Array (Int × Value) → Shared → Prop} (T : TxS P w s.heap a [] o es ep t) (q : Q #[] s) : wpAny (model P w) A (setWalkUnseen a others fl) Q E s := by
  obtain rfl := T.none
  unfold setWalkUnseen
  refine wpAny_bind (wpAny_setState_of T.get T.data T.fit ?_)
  dsimp only
  refine wpAny_bind (wpAny_byText ?_)
  exact wp_if_pos (by simp) (walk_none T q)
theorem any_set {a : Addr} {Q : Bool → Shared → Prop} (hT : s.TypeIs (.ref a) "set") (q : Q true s) : wpAny (model P w) A (Builtin.Frozenset.isAnySet (.ref a)) Q E s := by
  unfold Builtin.Frozenset.isAnySet orM
  refine wpAny_bind (wpAny_isInstance (b := true) hT sub_set_self ?_)
  exact wpAny_pure q
theorem tx_meet {a b : Addr} {Q : Value → Shared → Prop} (hne : a ≠ b) (Ra : TxtS P w s.heap a []) (Rb : TxtS P w s.heap b [])
    (hQ : ∀ h', TxtS P w h' s.heap.objs.size [] → (∀ c u, s.heap.get? c = some u → h'.get? c = some u) → Q (.ref s.heap.objs.size) { s with heap := h' }) :
    wpAny (model P w) A (binaryOp .BitAnd (.ref a) (.ref b)) Q E s := by
  obtain ⟨oa, ea, pa, ta, Ta⟩ := Ra
  obtain ⟨ob, eb, pb, tb, Tb⟩ := Rb
  have ya : s.TypeIs (.ref a) "set" := ⟨oa, Ta.get, Ta.ex.1⟩
  have yb : s.TypeIs (.ref b) "set" := ⟨ob, Tb.get, Tb.ex.1⟩
  refine wpAny_binaryOp_same ya yb F.fills_set_and F.slot_set_and (wpAny_call_entry F.slot_set_and ya entry_set_meet ?_ (F.args_set_and_2 _ _))
  show wpAny (model P w) A.in1 (do
    let (self, other) ← Builtin.Frozenset.slot1 "__and__" _
    let (l, r) := if false then (other, self) else (self, other)
    if !(← (Builtin.Frozenset.isAnySet l <&&> Builtin.Frozenset.isAnySet r)) then rule _; return ← ret .notImplemented
    ret (← Builtin.Frozenset.intersection _ (← Builtin.Frozenset.addrOf l) r)) _ _ s
  refine wpAny_bind (m := Builtin.Frozenset.slot1 _ _) (wpAny_of_eq (a := (Value.ref a, Value.ref b)) (by rfl) ?_)
  dsimp only
  refine wpAny_bind (wpAny_bind (any_set ya (any_set yb ?_)))
  refine wp_if_neg (by simp) ?_
  try refine wpAny_bind (wpAny_pure ?_)
  show wpAny (model P w) A.in1 (Builtin.Frozenset.intersection _ a (.ref b) >>= fun v => ret v) _ _ s
  refine wpAny_bind ?_
  unfold Builtin.Frozenset.intersection
  refine wp_if_neg (by simp [Ne.symm hne]) ?_
  try refine wpAny_bind (wpAny_pure ?_)
  unfold Builtin.Frozenset.baseOf
  refine wpAny_bind (wpAny_bind (wpAny_isInstance (b := true) ya sub_set_self (wpAny_pure ?_)))
  refine wpAny_bind (PpSet.newSet_ok ?_)
  have nw := tx_fresh (P := P) (w := w) (h := s.heap)
  have kp : ∀ c u, s.heap.get? c = some u → (s.heap.push { cls := .type "set", dict := none, data := .set #[] 0 (.fresh 0 0 (!w.params.followText "set-order")) }).get? c = some u := fun c u e => Heap.get?_push_of_some _ e
  have Ta' := { Ta with get := kp _ _ Ta.get }
  have Tb' := { Tb with get := kp _ _ Tb.get }
  have fin := hQ _ nw kp
  unfold Builtin.Frozenset.addrOf
  refine wpAny_bind (wpAny_pure (wpAny_bind (wpAny_holding (wpAny_bind (any_set (a := b) ⟨ob, Tb'.get, Tb.ex.1⟩ (wp_if_pos rfl (wpAny_bind (wpAny_pure ?_))))))))
  unfold Builtin.Frozenset.sizeOf
  refine wpAny_bind (wpAny_bind (wpAny_setEntries_of Tb'.get Tb.data Tb.fit (wpAny_pure ?_)))
  refine wpAny_bind (wpAny_bind (wpAny_setEntries_of Ta'.get Ta.data Ta.fit (wpAny_pure ?_)))
  have e1 : ea = #[] := Ta.none
  have e2 : eb = #[] := Tb.none
  rw [if_neg (by rw [e1, e2]; decide)]
  dsimp only
  refine wpAny_bind (wpAny_setEpoch_of Tb'.get Tb.data Tb.fit ?_)
  refine wpAny_bind (unseen_none Tb' ?_)
  refine wpAny_bind (wpAny_of_eq (a := PUnit.unit) (by simp) ?_)
  exact wpAny_pure (wpAny_pure (wpAny_pure ⟨_, rfl, by simp, fin⟩))
end
def rMeet0 (P : Program) (w : World) : R2 := fun x y H Q => ∃ a b, x = .ref a ∧ y = .ref b ∧ a ≠ b ∧ H a = some (TxtO P w a []) ∧ H b = some (TxtO P w b []) ∧ ∀ p, H p = none → Q (.ref p) (upd H p (TxtO P w p []))
theorem op_meet0 {X : Cx} : OpR X (binaryOp .BitAnd) (rMeet0 X.prog X.w) := by
  intro pins s σ H x y v u Q I rx ry h
  obtain ⟨a, b, rfl, rfl, ne, ha, hb, q⟩ := h
  cases rx
  cases ry
  refine tx_meet ne (txtO_get I ha) (txtO_get I hb) fun h' R k => ?_
  exact ⟨.ref _, _, I.laid (t' := s.toks) k (Nat.le_refl _) (txtO_new R), rfl, q _ (I.hok.fresh (Nat.le_refl _))⟩
end Fv


set_option Elab.async false
set_option linter.all false
set_option maxRecDepth 100000
set_option maxHeartbeats 2000000
/-! list comprehensions and sorted lists at none of the first places -/
namespace Fv
open PySem PySem.Spec PyProof.Rows L2
section
variable {X : Cx}
/-- [elt for target in iter if ..], its place none of the first ones -/
def tLcB (wi : TI) (g : TG) (tt : TT) (te : TE) (vs : List Nat) : TE := fun σ H Q => wi σ H fun J H1 => ∀ D, H1 D = none → D ≠ sysModules → ∃ W : Nat → Nat → Hp → Prop, (∃ m, W 0 m (upd H1 D (.lst []))) ∧ ∀ i m H, W i m H →
  (J.stop i H ∧ Q (.ref D) H) ∨ (J.go i H ∧ ∃ Nx : Hp → Prop, (∀ H', Nx H' → ∃ m', m' < m ∧ W (i + 1) m' H') ∧ ∀ x H', J.yld i H x H' → g x (wipe σ vs) H' fun σ2 H2 => wipe σ2 vs = wipe σ vs ∧ tt σ2 H2 fun b H3 =>
    if b = true then te σ2 H3 fun y H4 => ∃ acc, H4 D = some (.lst acc) ∧ acc.length < sizeLine ∧ Nx (upd H4 D (.lst (acc ++ [y]))) else Nx H3)
theorem pe_lcB {elt tg iter : Expr} {ifs : List Expr} {scope : Scope} {own : List (PySem.Str × Nat)} {pos : Pos} {wi : TI} {g : TG} {tt : TT} {te : TE} (hc : X.calm = true) (hN : X.N.Nodup) (hi : PI X tg iter wi) (ok : BlkOk X.N X.env.scope scope own)
    (hg : ∀ (s : Shared) (H : Hp) (C : Addr) (cl : List (PySem.Str × Addr)) (fp : List Addr), PG (X.blk s H scope (compEnvC scope cl C X.env) fp) tg g) (ht : ∀ (s : Shared) (H : Hp) (C : Addr) (cl : List (PySem.Str × Addr)) (fp : List Addr), PTs (X.blk s H scope (compEnvC scope cl C X.env) fp) ifs tt)
    (he : ∀ (s : Shared) (H : Hp) (C : Addr) (cl : List (PySem.Str × Addr)) (fp : List Addr), PE (X.blk s H scope (compEnvC scope cl C X.env) fp) elt te) (hs : ∀ x, foldedSetIterable iter X.env x = pure x := by intro _; rfl) :
    PE X (.ListComp elt [⟨tg, iter, ifs, 0⟩] scope pos) (tLcB wi g tt te (own.map (·.2))) := by
  refine ⟨fun pins s σ H Q I h => ?_⟩
  rw [eval_ListComp]
  have free : ∀ y ∈ scope.names, y.2 = .free → ∃ c, X.env.cells.lookup y.1 = some c := fun y hy e => (ok.free y hy e).elim (fun k => I.ok.has _ (.inl k)) fun k => I.ok.has _ (.inr k)
  refine wpAny_comprehension_free rfl hs (closure_ok free) ok.kind (fun y hy e => by rw [ok.uniq y hy, e]) (thn (hi.run pins s σ H _ I h) fun xv s1 hx => thn hx fun itv s2 ⟨it, fp, tn, J, H2, e2, I2, T, st2, f2, q⟩ => ?_)
  subst e2
  refine wpAny_newObj_type (newEnv_comp ?_) (by show 0 ≤ sizeLine; decide)
  have nD : H2 s2.heap.objs.size = none := I2.hok.fresh (Nat.le_refl _)
  have big := Nat.ne_of_gt I2.big
  obtain ⟨W, ⟨m0, w0⟩, turn⟩ := q _ nD big
  have I3 : Inv X pins σ (upd H2 s2.heap.objs.size (.lst [])) { s2 with heap := s2.heap.push { cls := .type "list", data := .seq ([] : List Value).toArray } } :=
    I2.laid (t' := s2.toks) (fun b o e => Heap.get?_push_of_some _ e) (Nat.le_refl _) ⟨Nat.zero_le _, [], 0, .nil, Heap.get?_push_size _ rfl⟩
  have szf : ∀ b ∈ fp, b < s2.heap.objs.size := fun b hb => let ⟨_, e, _⟩ := T.obj _ _ st2 b hb; Heap.lt_size e
  obtain ⟨D, eD⟩ : ∃ D, D = s2.heap.objs.size := ⟨_, rfl⟩
  rw [← eD] at nD w0 turn I3 szf ⊢
  have k3 : ∀ b o, s2.heap.get? b = some o → (s2.heap.push { cls := .type "list", data := .seq ([] : List Value).toArray }).get? b = some o := fun b o e => Heap.get?_push_of_some _ e
  have z3 : (s2.heap.push { cls := .type "list", data := .seq ([] : List Value).toArray }).objs.size = D + 1 := by rw [Heap.size_push, eD]
  generalize e3 : ({ s2 with heap := s2.heap.push { cls := .type "list", data := .seq ([] : List Value).toArray } } : Shared) = s3 at I3 ⊢
  have h3 : s3.heap = s2.heap.push { cls := .type "list", data := .seq ([] : List Value).toArray } := by rw [← e3]
  rw [← h3] at k3 z3
  obtain ⟨H3, eH⟩ : ∃ H3, H3 = upd H2 D (.lst []) := ⟨_, rfl⟩
  have fps : ∀ b ∈ fp, FpOk X pins H3 b ∧ b < s3.heap.objs.size := fun b hb => by
    refine ⟨⟨?_, (f2 b hb).2⟩, by rw [z3]; exact Nat.lt_succ_of_lt (szf b hb)⟩
    rw [eH, upd_ne (Nat.ne_of_lt (szf b hb))]
    exact (f2 b hb).1
  rw [← eH] at w0 I3
  have b4 := block_start I3 ok hN fps
  have st3 : tn 0 s3.heap := T.keep _ _ _ st2 fun b _ o e => k3 b o e
  show codeAny _ _ (.compStart (.ListComp elt [⟨tg, iter, ifs, 0⟩] scope pos) 0 (.ref it) (.ref D) (compEnvC scope (cellsFrom (s3.heap.objs.size + 1) scope.names (cloFrom X.env.cells scope.names [])) s3.heap.objs.size X.env)) (compPost (model X.prog X.w) X.A X.xe none _ (.ref D) s3.heap.objs.size) { s3 with heap := pushCells (s3.heap.push { cls := .type "dict", data := .dict #[] }) scope.names }
  have G1 := hg s3 H3 s3.heap.objs.size (cellsFrom (s3.heap.objs.size + 1) scope.names (cloFrom X.env.cells scope.names [])) fp
  have G2 := ht s3 H3 s3.heap.objs.size (cellsFrom (s3.heap.objs.size + 1) scope.names (cloFrom X.env.cells scope.names [])) fp
  have G3 := he s3 H3 s3.heap.objs.size (cellsFrom (s3.heap.objs.size + 1) scope.names (cloFrom X.env.cells scope.names [])) fp
  generalize ece : compEnvC scope (cellsFrom (s3.heap.objs.size + 1) scope.names (cloFrom X.env.cells scope.names [])) s3.heap.objs.size X.env = ce at b4 G1 G2 G3 ⊢
  have lc : ce.locals = s3.heap.objs.size := by rw [← ece]; rfl
  generalize e4 : ({ s3 with heap := pushCells (s3.heap.push { cls := .type "dict", data := .dict #[] }) scope.names } : Shared) = s4 at b4 ⊢
  have st4 : tn 0 s4.heap := T.keep _ _ _ st3 fun b _ o e => by rw [← e4]; exact pushCells_keeps _ _ _ _ (Heap.get?_push_of_some _ e)
  have still : ∀ {σ' : L2.St} {H' : Hp} {s' : Shared}, Inv (X.blk s3 H3 scope ce fp) [] σ' H' s' → (∀ b ∈ fp, H' b = none) → ∀ b ∈ fp, FpOk (X.blk s3 H3 scope ce fp) [] H' b := fun {σ' H' s'} J hn b hb =>
    ⟨hn b hb, (J.ok.exf b hb).1, J.ok.exfs b hb, Or.inl hb, fun x c e => (J.ok.exf b hb).2 x c e, fun p hp => by simp at hp⟩
  have walk : codeAny (model X.prog X.w) X.A (.compLoop (.ListComp elt [⟨tg, iter, ifs, 0⟩] scope pos) 0 (.ref it) (.ref D) ce) (compPost (model X.prog X.w) X.A X.xe none (EP X pins σ Q) (.ref D) s3.heap.objs.size) s4 := by
    refine compLoop_any (fun n s' => ∃ (i : Nat) (H' : Hp), Inv (X.blk s3 H3 scope ce fp) [] (wipe σ (own.map (·.2))) H' s' ∧ tn i s'.heap ∧ (∀ b ∈ fp, H' b = none) ∧ W i n H') (fun n s5 ⟨i, H5, I5, st5, n5, w5⟩ => ?_) m0 ⟨0, H3, b4, st4, fun b hb => (fps b hb).1.1, w0⟩
    rcases turn i n H5 w5 with ⟨stop, qq⟩ | ⟨go, Nx, hNx, step⟩
    · refine thnF (T.done (X.blk s3 H3 scope ce fp) rfl rfl rfl hc i [] s5 _ H5 (fun _ _ => False) I5 (still I5 n5) st5 stop) fun r s6 ⟨hr, I6⟩ => ?_
      subst hr
      have J := I3.call' (ch := fp) I6.os I6.base I6.hok I6.bare fun b hb => let f := (fps b hb).1.2; ⟨f.2.2.1, f.1, f.2.2.2.1, f.2.2.2.2⟩
      have nC : H5 s3.heap.objs.size = none := lc ▸ I6.free
      obtain ⟨m, hn, _⟩ := I6.loc
      have hn' : s6.heap.Ns s3.heap.objs.size m := lc ▸ (show s6.heap.Ns ce.locals m from hn)
      obtain ⟨f0, f1, f2, f3, f4, f5⟩ := I3.fpOk (Nat.le_refl _) nC
      exact ⟨m, hn', fun h'' sb => ⟨.ref D, H5, J.turned (t' := s6.toks) (fun b o hb e => (sb.2 b hb).trans e) f0 f1 f3 f4 f5, rfl, qq⟩⟩
    · refine thnF (T.item (X.blk s3 H3 scope ce fp) rfl rfl rfl hc i [] s5 _ H5 (fun _ _ => False) I5 (still I5 n5) st5 go) fun r s6 ⟨u, hr, h6⟩ => ?_
      subst hr
      refine thnF h6 fun _ s7 ⟨x, H7, I7, r7, y7, st7, n7⟩ => ?_
      have P7 := I7.pinned (still I7 n7) (T.obj _ _ st7)
      refine thnF (G1.run _ s7 _ H7 x u _ P7 r7 (step x H7 y7)) fun _ s8 ⟨σ8, H8, I8, hw8, q8⟩ => thnF (G2.run _ s8 σ8 H8 _ I8 q8) fun b s9 ⟨H9, I9, q9⟩ => ?_
      have fin : ∀ {s' : Shared} {H' : Hp}, Inv (X.blk s3 H3 scope ce fp) ([] ++ pinsAt fp s7.heap) σ8 H' s' → Nx H' → ∃ m, m < n ∧ ∃ (i : Nat) (H' : Hp), Inv (X.blk s3 H3 scope ce fp) [] (wipe σ (own.map (·.2))) H' s' ∧ tn i s'.heap ∧ (∀ b ∈ fp, H' b = none) ∧ W i m H' := fun {s' H'} J nx => by
        obtain ⟨m', hm, w'⟩ := hNx H' nx
        have kept : ∀ b ∈ fp, ∀ o, s7.heap.get? b = some o → s'.heap.get? b = some o ∧ H' b = none := fun b hb o e => by
          have z := J.pin (b, o) (List.mem_append_right _ (List.mem_append_right _ (mem_pinsAt hb e)))
          exact ⟨z.1, z.2.1⟩
        refine ⟨m', hm, i + 1, H', (J.unpinned (pins := [])).weak (by rw [← hw8, wipe_length]) (fun j v e => (wipe_some (hw8 ▸ e)).1), T.keep _ _ _ st7 fun b hb o e => (kept b hb o e).1, fun b hb => ?_, w'⟩
        obtain ⟨o, e, _⟩ := T.obj _ _ st7 b hb
        exact (kept b hb o e).2
      cases b with
      | false =>
        rw [if_neg Bool.false_ne_true] at q9 ⊢
        exact fin I9 q9
      | true =>
        rw [if_pos rfl] at q9 ⊢
        exact thnF (G3.run _ s9 σ8 H9 _ I9 q9) fun z s10 ⟨yv, H10, I10, r10, acc, hD10, room, nx⟩ => app_ok (X := X.blk s3 H3 scope ce fp) I10 hD10 room r10 fun s11 I11 => fin I11 nx
  exact codeAny_compStart_list walk (T.self X.A 0 _ _ _ st4 walk)
/-- sorted of a list or a tuple of fewer than 64 texts -/
def rSortB (K : PySem.W.Frag) : List V → Hp → VK → Prop := fun xs H Q => ∃ (a : Addr) (zs : List Str), xs = [.ref a] ∧ (SqL K H a (zs.map V.str) ∨ SqT K H a (zs.map V.str)) ∧ zs.length < 64 ∧ ∀ ys p, ys.Perm zs → sortedS ys = true → H p = none → p ≠ sysModules → Q (.ref p) (upd H p (.lst (ys.map V.str)))
theorem call_sortB : CallR X (.builtin "sorted") (rSortB X.K) := by
  intro pins s σ H xs us Q I r h
  obtain ⟨a, zs, rfl, ha, h64, q⟩ := h
  rw [Vals.ref1 r]
  obtain ⟨T, o, its, n, hT, rv, ho, hc, hd⟩ : ∃ (T : String) (o : Obj) (its : List Value) (n : Nat), (T = "list" ∨ T = "tuple") ∧ Vals (zs.map V.str) its ∧ s.heap.get? a = some o ∧ o.cls = .type T ∧ o.data = .seq its.toArray n := by
    rcases ha with ha | ha
    · obtain ⟨its, rv, pl, _⟩ := I.list ha
      obtain ⟨o, ho, hc, n, hd⟩ := pl.isList
      exact ⟨_, o, its, n, .inl rfl, rv, ho, hc, hd⟩
    · obtain ⟨its, rv, ⟨o, ho, hc, n, hd⟩, _⟩ := I.tuple ha
      exact ⟨_, o, its, n, .inr rfl, rv, ho, hc, hd⟩
  have vl : its.length = zs.length := by rw [← rv.length, List.length_map]
  refine Calls.call_function_entry PyProof.Rows.kind_sorted PyProof.Rows.plain_sorted PyProof.Rows.entry_sorted (PyProof.Rows.args_sorted1 _) ?_
  unfold Builtin.«sorted»
  refine wpAny_bind (m := checkCount "sorted" 1 1 _) (wpAny_pure (wpAny_bind (wpAny_collect_seq a hT ho hc hd (fun h1 k1 => ?_) (by rw [List.size_toArray, vl, sizeLine_eq]; omega))))
  have hS : StrsAre its zs := rv.strs
  have I1 : Inv X pins σ H { s with heap := h1 } := I.kept (t' := s.toks) k1
  refine wpAny_bind (wpAny_newList ?_ (by rw [show its.toArray.toList = its by simp, vl, sizeLine_eq]; omega))
  have oL : (h1.push (seqObj "list" its.toArray.toList.toArray 0)).get? h1.objs.size = some (seqObj "list" its.toArray.toList.toArray 0) := Heap.get?_push_size _ rfl
  rw [show its.toArray.toList = its by simp] at oL ⊢
  show wpAny _ _ _ _ _ { s with heap := h1.push (seqObj "list" its.toArray 0) }
  refine wpAny_bind (wpAny_holding (wpAny_call_entry PyProof.Rows.slot_list_sort ⟨_, oL, rfl⟩ PyProof.Rows.entry_list_sort
    (list_sort_treeK strKind_oneLt (s := { s with heap := h1.push (seqObj "list" its.toArray 0) }) oL hS.keysOf (fun v₁ v₂ rest e => keyKind_strs (by rw [← e]; exact hS)) (by rw [vl]; exact h64) fun st' hp hs => ⟨_, rfl, ?_⟩)
    (PyProof.Rows.args_list_sort _)))
  obtain ⟨ys, a1, a2, a3⟩ := sorted_out_str hS hp hs
  obtain ⟨e', he'⟩ := PyProof.Rows.sortedHeap_at (vs := its) (out := (arrOf st').map (·.2)) oL
  have yl : (ys.map V.str).length ≤ sizeLine := by
    rw [List.length_map, a2.length_eq, sizeLine_eq]
    omega
  refine wpAny_pure ⟨_, rfl, .ref h1.objs.size, upd H h1.objs.size (.lst (ys.map V.str)), I1.laid (t' := s.toks) (fun b u e => ?_) (Nat.le_refl _)
    (show ObjOk X.prog X.w _ _ _ (.lst (ys.map V.str)) from ⟨yl, ((arrOf st').map (·.2)).toList, e', vals_of_strs a1, by rw [Array.toArray_toList]; exact he'⟩), rfl, q ys _ a2 a3 (I1.hok.fresh (Nat.le_refl _)) (Nat.ne_of_gt I1.big)⟩
  have hb : b < h1.objs.size := Heap.lt_size e
  rw [PyProof.Rows.sortedHeap_old (Nat.ne_of_lt hb) (by rw [size_push']; exact Nat.lt_succ_of_lt hb)]
  exact Heap.get?_push_of_some _ e
end
end Fv


set_option Elab.async false
set_option linter.all false
set_option maxRecDepth 100000
set_option maxHeartbeats 1000000
namespace Fv
open PySem PySem.Spec PyProof.Rows L2
/-! a sorted list of texts is told by what is in it -/
def leS (a b : Str) : Prop := ¬ (b.cps.toList < a.cps.toList)
theorem leS_trans {a b c : Str} (h : leS a b) (k : leS b c) : leS a c := by
  unfold leS at *
  rw [List.not_lt] at *
  exact List.le_trans h k
theorem leS_anti {a b : Str} (h : leS a b) (k : leS b a) : a = b := by
  unfold leS at *
  rw [List.not_lt] at *
  have := List.le_antisymm h k
  obtain ⟨⟨a⟩⟩ := a
  obtain ⟨⟨b⟩⟩ := b
  simp at this
  rw [this]
theorem rising_pw : ∀ (l : List Str) (p : Str), risingS p l = true → (∀ x ∈ l, leS p x) ∧ l.Pairwise leS
  | [], p, _ => ⟨fun x hx => (List.not_mem_nil hx).elim, List.Pairwise.nil⟩
  | y :: l, p, h => by
    unfold risingS at h
    rw [Bool.and_eq_true] at h
    have h1 : leS p y := by
      have h1 := h.1
      rw [ltCps_eq] at h1
      unfold leS
      simpa using h1
    obtain ⟨h2, h3⟩ := rising_pw l y h.2
    refine ⟨fun x hx => ?_, List.pairwise_cons.mpr ⟨h2, h3⟩⟩
    rcases List.mem_cons.mp hx with rfl | hx
    · exact h1
    · exact leS_trans h1 (h2 x hx)
theorem sorted_pw : ∀ {l : List Str}, sortedS l = true → l.Pairwise leS
  | [], _ => List.Pairwise.nil
  | x :: l, h => by
    obtain ⟨h1, h2⟩ := rising_pw l x h
    exact List.pairwise_cons.mpr ⟨h1, h2⟩
theorem sorted_one : ∀ {l m : List Str}, l.Pairwise leS → m.Pairwise leS → l.Perm m → l = m
  | [], m, _, _, p => (List.nil_perm.mp p).symm
  | x :: l, [], _, _, p => by
    have := p.length_eq
    simp at this
  | x :: l, y :: m, hl, hm, p => by
    obtain ⟨a1, a2⟩ := List.pairwise_cons.mp hl
    obtain ⟨b1, b2⟩ := List.pairwise_cons.mp hm
    have exy : x = y := by
      have i1 := p.mem_iff.mp (List.mem_cons_self (a := x))
      have i2 := p.mem_iff.mpr (List.mem_cons_self (a := y))
      rcases List.mem_cons.mp i1 with h | h
      · exact h
      · rcases List.mem_cons.mp i2 with k | k
        · exact k.symm
        · exact leS_anti (a1 y k) (b1 x h)
    subst exy
    rw [sorted_one a2 b2 (List.Perm.cons_inv p)]
theorem sorted_same {l m a b : List Str} (hl : sortedS l = true) (hm : sortedS m = true) (pl : l.Perm a) (pm : m.Perm b) (h : a.Perm b) : l = m := sorted_one (sorted_pw hl) (sorted_pw hm) ((pl.trans h).trans pm.symm)
end Fv


set_option Elab.async false
set_option linter.all false
set_option maxRecDepth 100000
set_option maxHeartbeats 2000000
/-! enumerate over a tuple -/
namespace Fv
open PySem PySem.Spec PyProof.Rows L2
open AutoSeq1 (wpAny_loadPart')
theorem draws_tup {prog : Program} {w : World} {A : Around} (hh : A.handled = none) (it t : Addr) (hne : t ≠ it) (items : Array Value) :
    Draws prog w A it [it, t] items.size (fun i v => items[i]? = some v) (fun i h => h.IsTupleIter it t i ∧ h.IsTuple t items) where
  live := fun _ _ st => let ⟨o, ho, _⟩ := st.1; ⟨o, ho⟩
  frame := fun _ _ _ st hk => ⟨st.1.at fun o e => hk it (by simp) o e, let ⟨o, ho, r⟩ := st.2; ⟨o, hk t (by simp) o ho, r⟩⟩
  item := fun i s Q E hi st hQ => by
    refine RZ.nextOf_tuple_item st.1 st.2 (x := items[i]) (by simp [hi]) fun h' hit' hs' => ?_
    obtain ⟨o, ho, r⟩ := st.2
    exact hQ _ h' s.toks (by simp [hi]) ⟨hit', o, hs'.extBut t o hne ho, r⟩ hs'
  done := fun s Q E st hE => RZ.nextOf_tuple_end hh st.1 st.2 (by simp) hE
theorem enum_new (l : Addr) (items : Array Value) (n : Nat) (dct : Option Addr) (sl : Array (Option Value)) :
    Meets (Builtin.«enumerate.__new__» ⟨[.type "enumerate", .ref l], []⟩) (fun _ R s => s.heap.get? l = some { cls := .type "tuple", dict := dct, data := .seq items n, slots := sl } ∧
      R (.ok (.ret (.ref (s.heap.push { cls := .type "tuple_iterator", data := .fields #[.ref l, .int 0 0] }).objs.size)))
        { s with heap := (s.heap.push { cls := .type "tuple_iterator", data := .fields #[.ref l, .int 0 0] }).push { cls := .type "enumerate", data := .fields #[.none, .bool false, .ref s.heap.objs.size, rawInt 0, .none, .none] } }) :=
  .of_wp fun prog w A R s h => by
    obtain ⟨hp, g, d, tk, os⟩ := s
    obtain ⟨hl, h⟩ := h
    have hsub := sub_enumerate
    have hL : Heap.IsTuple (Shared.heap ⟨hp, g, d, tk, os⟩) l items := ⟨_, hl, rfl, n, rfl⟩
    wp_walk using wpAny_loadPart' hl
    refine wpAny_stack_any fun st => wpAny_pure ?_
    split
    · rename_i c _ _ _ _ _
      cases (c == Value.type "enumerate") <;> (wp_walk using wpAny_loadPart' hl, wpAny_pyIter_tuple hL; exact ⟨_, rfl, h⟩)
    · wp_walk using wpAny_loadPart' hl, wpAny_pyIter_tuple hL
      exact ⟨_, rfl, h⟩
section
variable {prog : Program} {w : World} {A : Around} {E : Value → Shared → Prop} {s : Shared}
theorem call_enumT {l : Addr} {items : Array Value} {Q : Value → Shared → Prop} (hL : s.heap.IsTuple l items)
    (h : ∀ h', IsEnum h' (s.heap.objs.size + 1) s.heap.objs.size 0 .none → h'.IsTupleIter s.heap.objs.size l 0 → h'.objs.size = s.heap.objs.size + 2 → (∀ b o, s.heap.get? b = some o → h'.get? b = some o) → Q (.ref (s.heap.objs.size + 1)) { s with heap := h' }) :
    wpAny (model prog w) A (call (.type "enumerate") [.ref l]) Q E s := by
  obtain ⟨⟨c, dct, dt, sl⟩, hl, hc, n, hd⟩ := hL
  simp only at hc hd
  subst hc hd
  have z1 : (s.heap.push { cls := .type "tuple_iterator", data := .fields #[.ref l, .int 0 0] }).objs.size = s.heap.objs.size + 1 := Heap.size_push ..
  have he : IsEnum ((s.heap.push { cls := .type "tuple_iterator", data := .fields #[.ref l, .int 0 0] }).push { cls := .type "enumerate", data := .fields #[.none, .bool false, .ref s.heap.objs.size, rawInt 0, .none, .none] }) (s.heap.objs.size + 1) s.heap.objs.size 0 .none := by
    have := Heap.get?_push_size (s.heap.push { cls := .type "tuple_iterator", data := .fields #[.ref l, .int 0 0] }) (o := { cls := .type "enumerate", data := .fields #[.none, .bool false, .ref s.heap.objs.size, rawInt 0, .none, .none] }) rfl
    rw [z1] at this
    exact this
  refine callType_new F.called_enumerate (by decide) (F.typeCall_enumerate_1 _) (F.newCall_enumerate_1 _) (fun obj => F.args_object_init_2 obj _) F.entry_enumerate_new (enum_new l items n dct sl) ⟨hl, ?_⟩
  show _ ∧ _
  rw [z1]
  exact ⟨⟨_, he, rfl⟩, h _ he ⟨_, Heap.get?_push_of_some _ (Heap.get?_push_size _ rfl), rfl, rfl⟩ (by rw [Heap.size_push, z1]) fun b o x => Heap.get?_push_of_some _ (Heap.get?_push_of_some _ x)⟩
theorem enum_endT {e it l : Addr} {i : Nat} {j : Int} {items : Array Value} {old : Value} {Q : Option Value → Shared → Prop} (hh : A.handled = none) (he : IsEnum s.heap e it j old) (hit : s.heap.IsTupleIter it l i) (hl : s.heap.IsTuple l items) (hx : items[i]? = none)
    (hQ : ∀ h', Heap.ExtBut it s.heap h' → Q none { s with heap := h' }) : wpAny (model prog w) A (pyNext (.ref e)) Q E s := by
  have hT : s.TypeIs (.ref e) "enumerate" := ⟨_, he, rfl⟩
  unfold pyNext
  refine wpAny_bind (wpAny_attempt (wpAny_callSpecial?_slot (name := Str.ofString "__next__") hT F.slot_enumerate_next (wpAny_call_entry F.slot_enumerate_next hT F.entry_enumerate_next ?_ (F.args_enumerate_next_1 _))))
  show wpAny _ _ (field (.ref e) 2 >>= _) _ _ _
  refine wpAny_bind (wpAny_field he rfl (x := .ref it) rfl (wpAny_bind (RZ.nextOf_tuple_end hh hit hl hx fun h' x k ⟨o, ho, hc⟩ => ?_)))
  exact wpAny_bind (wpAny_isInstance (T := "StopIteration") (b := true) ⟨o, ho, hc⟩ isSubtype_stop (wpAny_pure (hQ _ k)))
end
/-- the tuple at a as it stands at each turn, its items in new pairs with their numbers -/
def Iet (K : PySem.W.Frag) (a : Addr) : It :=
  ⟨fun i H => ∃ (xs : List V) (x : V), SqT K H a xs ∧ xs[i]? = some x, fun i H v H' => ∃ T x, v = .ref T ∧ H T = none ∧ H' = upd H T (.tup [.int (i : Nat), x]) ∧ ∀ xs, SqT K H a xs → xs[i]? = some x, fun i H => ∃ xs : List V, SqT K H a xs ∧ xs.length ≤ i⟩
theorem turn_enumT {P : Program} {w : World} {K : PySem.W.Frag} {elts : List Expr} {kk : Nat} {tpos : Pos} (a e it : Addr) (ha1 : a ≠ it) (ha2 : a ≠ e) :
    Turn P w K (.Tuple elts kk tpos) (Iet K a) [e, it] e (fun i h => (∃ old, IsEnum h e it ((i : Nat) : Int) old) ∧ h.IsTupleIter it a i ∧ e ≠ it) where
  mem := by simp
  obj := fun i h st b hb => by
    obtain ⟨⟨old, he⟩, ⟨o, ho, hc, hd⟩, _⟩ := st
    rcases (show b = e ∨ b = it by simpa using hb) with rfl | rfl
    · exact ⟨_, he, fun v q => nomatch q⟩
    · exact ⟨o, ho, fun v q => by rw [hd] at q; cases q⟩
  keep := fun i h h' st k => ⟨let ⟨old, he⟩ := st.1; ⟨old, k e (by simp) _ he⟩, st.2.1.at fun o q => k it (by simp) o q, st.2.2⟩
  item := by
    intro X hP hw hK hc i pins s σ H E I hf st hg
    subst hP hw hK
    obtain ⟨⟨old, he⟩, hit, hne⟩ := st
    obtain ⟨xs, x, hq, hx⟩ := hg
    obtain ⟨its, rv, p, hz⟩ := I.tuple hq
    have p' : s.heap.IsTuple a its.toArray := p
    obtain ⟨u, hu, ru⟩ := rv.get hx
    have hlt : i < its.toArray.size := by
      have := (List.getElem?_eq_some_iff.mp hu).1
      simpa using this
    have hel : e < s.heap.objs.size := Heap.lt_size he
    have hil : it < s.heap.objs.size := by obtain ⟨_, q, _⟩ := hit; exact Heap.lt_size q
    refine wpAny_pyNext_enum_itemD (draws_tup (A := X.A.in1) (I.ok.hd hc) it a ha1 its.toArray) he ⟨hit, p'⟩ hlt hne (by simp [hne, Ne.symm ha2]) fun y h' tk py ho st' hT hsz hk => ?_
    have ey : y = u := by
      have : some u = some y := hu.symm.trans (by simpa using py)
      exact (Option.some.inj this).symm
    subst ey
    refine ⟨_, rfl, wpAny_letOwnedTupleGo_enum (s := { s with heap := h', toks := tk + 1 }) ho fun h'' he' sb => ?_⟩
    have hT2 : h''.get? s.heap.objs.size = some { cls := .type "tuple", data := .seq #[.int i tk, y] } := (sb.2 _ (Nat.ne_of_gt hel)).trans hT
    have new : ObjOk X.prog X.w (upd H s.heap.objs.size (.tup [.int (i : Nat), x])) h'' s.heap.objs.size (.tup [.int (i : Nat), x]) :=
      ⟨by show 2 ≤ sizeLine; decide, [.int i tk, y], .cons ⟨_, rfl⟩ (.cons ru .nil), ⟨_, hT2, rfl, _, rfl⟩⟩
    have I1 : Inv X pins σ (upd H s.heap.objs.size (.tup [.int (i : Nat), x])) { s with heap := h'', toks := tk + 1 } :=
      I.turnedNew (ch := [e, it]) (fun b ob hb q => (sb.2 b (fun z => hb (by simp [z]))).trans (hk b ob (fun z => hb (by simp [z])) (fun z => hb (by simp [z])) q)) hf (Nat.le_refl _) new
    refine ⟨.ref s.heap.objs.size, _, I1, rfl, ⟨_, x, rfl, I.hok.fresh (Nat.le_refl _), rfl, fun ys hy => by rw [I.tuple_inj hy hq]; exact hx⟩, ⟨⟨y, ?_⟩, st'.1.at fun o q => (sb.2 it (Ne.symm hne)).trans q, hne⟩, fun b hb => ?_⟩
    · rw [show ((i + 1 : Nat) : Int) = (i : Int) + 1 by omega]
      exact he'
    · have hb' : b < s.heap.objs.size := by
        rcases (show b = e ∨ b = it by simpa using hb) with rfl | rfl
        · exact hel
        · exact hil
      rw [upd_ne (Nat.ne_of_lt hb')]
      exact (hf b hb).1
  done := by
    intro X hP hw hK hc i pins s σ H E I hf st hg
    subst hP hw hK
    obtain ⟨⟨old, he⟩, hit, hne⟩ := st
    obtain ⟨xs, hq, hx⟩ := hg
    obtain ⟨its, rv, p, hz⟩ := I.tuple hq
    obtain ⟨f0, f1, f2, f3, f4, f5⟩ := hf it (by simp)
    have hl := rv.length
    exact enum_endT (I.ok.hd hc) he hit (show s.heap.IsTuple a its.toArray from p) (by simp; omega) fun h' eb => ⟨rfl, I.turned (t' := s.toks) (fun b o hb q => eb b o hb q) f0 f1 f3 f4 f5⟩
  self := fun A i s Q E st h => let ⟨⟨_, he⟩, _⟩ := st; wpAny_pyIter_enum he h
def iEnumT (K : PySem.W.Frag) (ta : TA) : TI := fun σ H R => ta σ H fun vs H1 => ∃ a xs, vs = [.ref a] ∧ SqT K H1 a xs ∧ R (Iet K a) H1
theorem pi_enumT {X : Cx} {e : Expr} {ta : TA} {p pos tpos : Pos} {elts : List Expr} {kk : Nat} (hg : Gl X "enumerate") (hm : X.mg "enumerate" = none) (ha : PA X [e] ta) (hs : starEach [e] X.env = [(false, eval e X.env)] := by rfl) :
    PI X (.Tuple elts kk tpos) (.Call (.Name "enumerate" p) [e] [] pos) (iEnumT X.K ta) := by
  refine ⟨fun pins s σ H R I h => ?_⟩
  refine Call_ (ld_blt I hg hm boot_enumerate (PyProof.Rows.callWith_type1 (thn (ha.run pos pins s σ H _ I h) fun us s1 ⟨vs, H1, I1, r1, a, xs, ex, hq, q⟩ => ?_) hs rfl))
  subst ex
  rw [Vals.ref1 r1]
  obtain ⟨its, rv, p', hz⟩ := I1.tuple hq
  have hal : a < s1.heap.objs.size := by obtain ⟨o, ho, _⟩ := p'; exact Heap.lt_size ho
  refine call_enumT (show s1.heap.IsTuple a its.toArray from p') fun h' he hit hsz hk => wpAny_pyIter_enum he ?_
  have I2 : Inv X pins σ H1 { s1 with heap := h' } := I1.kept (t' := s1.toks) hk
  refine ⟨s1.heap.objs.size + 1, [s1.heap.objs.size + 1, s1.heap.objs.size], _, _, H1, rfl, I2, turn_enumT a (s1.heap.objs.size + 1) s1.heap.objs.size (Nat.ne_of_lt hal) (Nat.ne_of_lt (Nat.lt_succ_of_lt hal)), ⟨⟨.none, he⟩, hit, Nat.succ_ne_self _⟩, fun b hb => ?_, q⟩
  have hle : s1.heap.objs.size ≤ b := by
    rcases (show b = s1.heap.objs.size + 1 ∨ b = s1.heap.objs.size by simpa using hb) with z | z
    · rw [z]
      exact Nat.le_succ _
    · exact Nat.le_of_eq z.symm
  exact I1.fpOk hle (I1.hok.fresh hle)
theorem walk_enumT {K : PySem.W.Frag} {a : Addr} {xs : List V} : Walk (Iet K a) xs.length (fun H => SqT K H a xs) (YPair (fun i => some (.int (i : Nat))) (fun i => xs[i]?)) := by
  refine ⟨fun i _ hi q => ⟨xs, xs[i], q, by simp [hi]⟩, fun _ q => ⟨xs, q, Nat.le_refl _⟩, fun i H v H' _ q y => ?_⟩
  obtain ⟨T, x, h1, h2, h3, h4⟩ := y
  exact ⟨T, .int (i : Nat), x, h1, h2, h3, rfl, h4 xs q⟩
end Fv


set_option Elab.async false
set_option linter.all false
set_option maxRecDepth 100000
set_option maxHeartbeats 2000000
/-! y = {k: v for ..}, y a local -/
namespace Fv
open PySem PySem.Spec PyProof.Rows L2
theorem swD_true {kx vx : Expr} {gs : List Comprehension} {scope : Scope} {pos py : Pos} {y : PySem.Str} {l : Nat} {env : Env}
    (h1 : env.scope.kind = ScopeKind.function) (h2 : env.scope.names.lookup y = some NameKind.local) (h3 : (py.line == pos.line) = true)
    (h4 : (scope.names.any fun x => match x with | (n, k) => n == y && (k == NameKind.local || k == NameKind.cell)) = false) : swapsWith (kx.DictComp vx gs scope pos) (some (.Name y py)) l env = pure true := by
  have := sw_true (elt := kx) (gs := gs) (l := l) h1 h2 h3 h4
  unfold swapsWith at this ⊢
  exact this
section
variable {X : Cx}
theorem ps_setDc {i : Nat} {y : PySem.Str} {py : Pos} {kx vx tg iter : Expr} {ifs : List Expr} {scope : Scope} {own : List (PySem.Str × Nat)} {pos spos : Pos} {wi : TI} {g : TG} {tt : TT} {tk tv : TE} (hc : X.calm = true) (hN : X.N.Nodup)
    (hy : X.N[i]? = some y) (hl : X.env.scope.names.lookup y = some NameKind.local) (hsw : swapsWith (kx.DictComp vx [⟨tg, iter, ifs, 0⟩] scope pos) (some (.Name y py)) spos.line X.env = pure true) (hi : PI X tg iter wi) (ok : BlkOk X.N X.env.scope scope own)
    (hg : ∀ (s : Shared) (H : Hp) (C : Addr) (cl : List (PySem.Str × Addr)) (fp : List Addr), PG (X.blk s H scope (compEnvC scope cl C X.env) fp) tg g) (ht : ∀ (s : Shared) (H : Hp) (C : Addr) (cl : List (PySem.Str × Addr)) (fp : List Addr), PTs (X.blk s H scope (compEnvC scope cl C X.env) fp) ifs tt)
    (hk : ∀ (s : Shared) (H : Hp) (C : Addr) (cl : List (PySem.Str × Addr)) (fp : List Addr), PE (X.blk s H scope (compEnvC scope cl C X.env) fp) kx tk) (hv : ∀ (s : Shared) (H : Hp) (C : Addr) (cl : List (PySem.Str × Addr)) (fp : List Addr), PE (X.blk s H scope (compEnvC scope cl C X.env) fp) vx tv)
    (hs : ∀ x, foldedSetIterable iter X.env x = pure x := by intro _; rfl) :
    PS X (.Assign [.Name y py] (.DictComp kx vx [⟨tg, iter, ifs, 0⟩] scope pos) spos) (tAsg (tDc wi g tt tk tv (own.map (·.2))) (gName i)) := by
  refine ⟨fun pins s σ H D I h => ?_⟩
  rw [exec_Assign_arm]
  refine wpAny_bind (wpAny_standAt (wpAny_bind (wpAny_of_eq (a := true) hsw ?_)))
  rw [if_pos rfl]
  refine wpAny_bind ?_
  rw [evalThenUse]
  refine wpAny_bind (wpAny_mono (dc_core (pos' := firstIterPos [⟨tg, iter, ifs, 0⟩] pos) (Qf := fun _ s' => SP X pins D .next s') hc hN I hi ok hg ht hk hv hs h fun C0 C s' m H' I' q hn fp => ?_) (fun v s' z => wpAny_pure (wpAny_pure z)) fun _ _ z => z)
  obtain ⟨o, es, ep, ho, hd⟩ := id hn
  have P' := I'.pinned (fp := [C]) (fun b hb => by rw [List.mem_singleton.mp hb]; exact fp) (fun b hb => by
    rw [List.mem_singleton.mp hb]
    exact ⟨o, ho, fun v e => by rw [hd.1] at e; cases e⟩)
  have mem : (C, o) ∈ pinsAt [C] s'.heap := mem_pinsAt List.mem_cons_self ho
  refine wpAny_mono ((pg_name (pos := py) hN hy (.inl hl) (.inr hl)).run _ s' σ H' (.ref C0) (.ref C0) (fun σ1 H1 => H1 = H' ∧ D.nx σ1 H1) P' rfl ⟨rfl, q⟩) (fun _ s'' z => ?_) fun _ _ z => z
  obtain ⟨σ1, H1, J, rfl, q1⟩ := z
  have z := J.pin (C, o) (List.mem_append_right _ (List.mem_append_right _ mem))
  obtain ⟨f0, f1, f2, f3, f4, f5⟩ := fp
  refine ⟨m, ⟨o, es, ep, z.1, hd⟩, fun h' sb => ?_⟩
  exact ⟨σ1, H1, J.unpinned.turned (t' := s''.toks) (fun b o hb e => (sb.2 b hb).trans e) f0 f1 f3 f4 f5, q1⟩
end
theorem dc_it {J : It} {n : Nat} {G : Hp → Prop} {Y : Nat → Hp → V → Hp → Prop} (wk : Walk J n G Y) {g : TG} {tt : TT} {tk tv : TE} {vs : List Nat} {σ : L2.St} {H1 : Hp} {D : Addr} {Qd : Hp → Prop} (Pv : Nat → Hp → Prop) (h0 : Pv 0 (upd H1 D (.dK []))) (hG : ∀ i H, i ≤ n → Pv i H → G H)
    (hs : ∀ i x H H', i < n → Pv i H → Y i H x H' → g x (wipe σ vs) H' fun σ2 H2 => wipe σ2 vs = wipe σ vs ∧ tt σ2 H2 fun b H3 =>
      if b = true then tk σ2 H3 fun y H4 => tv σ2 H4 fun z H5 => ∃ (kvs : List (Key × V)) (k : Key), y = kV k ∧ H5 D = some (.dK kvs) ∧ kvs.length < sizeLine ∧ Pv (i + 1) (upd H5 D (.dK (putK kvs k z))) else Pv (i + 1) H3) (hd : ∀ H, Pv n H → Qd H) :
    ∃ W : Nat → Nat → Hp → Prop, (∃ m, W 0 m (upd H1 D (.dK []))) ∧ ∀ i m H, W i m H →
      (J.stop i H ∧ Qd H) ∨ (J.go i H ∧ ∃ Nx : Hp → Prop, (∀ H', Nx H' → ∃ m', m' < m ∧ W (i + 1) m' H') ∧ ∀ x H', J.yld i H x H' → g x (wipe σ vs) H' fun σ2 H2 => wipe σ2 vs = wipe σ vs ∧ tt σ2 H2 fun b H3 =>
        if b = true then tk σ2 H3 fun y H4 => tv σ2 H4 fun z H5 => ∃ (kvs : List (Key × V)) (k : Key), y = kV k ∧ H5 D = some (.dK kvs) ∧ kvs.length < sizeLine ∧ Nx (upd H5 D (.dK (putK kvs k z))) else Nx H3) := by
  refine ⟨fun i m H => m + i = n ∧ Pv i H, ⟨n, rfl, h0⟩, fun i m H ⟨hm, p⟩ => ?_⟩
  rcases Nat.lt_or_ge i n with hlt | hge
  · exact .inr ⟨wk.goes i H hlt (hG i H (Nat.le_of_lt hlt) p), Pv (i + 1), fun H' p' => ⟨n - (i + 1), by omega, by omega, p'⟩, fun x H' y => hs i x H H' hlt p (wk.yields i H x H' hlt (hG i H (Nat.le_of_lt hlt) p) y)⟩
  · obtain rfl : i = n := by omega
    exact .inl ⟨wk.stops H (hG i H hge p), hd H p⟩
end Fv


set_option Elab.async false
set_option linter.all false
set_option maxRecDepth 100000
set_option maxHeartbeats 4000000
/-! zip over a tuple and a list -/
namespace Fv
open PySem PySem.Spec PyProof.Rows L2
abbrev mz1 (h : Heap) (a : Addr) : Heap := h.push { cls := .type "tuple_iterator", data := .fields #[.ref a, .int 0 0] }
abbrev mz2 (h : Heap) (a b : Addr) : Heap := (mz1 h a).push { cls := .type "list_iterator", data := .fields #[.ref b, .int 0 0] }
abbrev mz3 (h : Heap) (a b : Addr) : Heap := (mz2 h a b).push { cls := .type "tuple", data := .seq #[.ref h.objs.size, .ref (mz1 h a).objs.size] }
abbrev mz4 (h : Heap) (a b : Addr) : Heap := (mz3 h a b).push { cls := .type "tuple", data := .seq #[.none, .none] }
abbrev mz5 (h : Heap) (a b : Addr) : Heap := (mz4 h a b).push { cls := .type "zip", data := .fields #[.none, .bool false, .bool false, .ref (mz2 h a b).objs.size, .ref (mz3 h a b).objs.size] }
theorem mz_new (a b : Addr) (us vs : Array Value) : Meets (Builtin.«zip.__new__» ⟨[.type "zip", .ref a, .ref b], []⟩) (fun _ R s => s.heap.IsTuple a us ∧ s.heap.IsList b vs ∧
    R (.ok (.ret (.ref (mz4 s.heap a b).objs.size))) { s with heap := mz5 s.heap a b }) :=
  .of_wp fun prog w A R s hh => by
    obtain ⟨hp, g, d, tk, os⟩ := s
    obtain ⟨ha, hb, h⟩ := hh
    have hsub := sub_zip
    have h1 : Heap.IsTuple (Shared.heap ⟨hp, g, d, tk, os⟩) a us := ha
    have h2 : Heap.IsList (Shared.heap ⟨hp.push { cls := .type "tuple_iterator", data := .fields #[.ref a, .int 0 0] }, g, d, tk, os⟩) b vs := Heap.IsList.push hb _
    wp_walk using wpAny_pyIter_tuple h1, wpAny_pyIter_list h2
    exact ⟨_, rfl, h⟩
theorem call_mz {prog : Program} {w : World} {A : Around} {E : Value → Shared → Prop} {s : Shared} {a b : Addr} {us vs : Array Value} {Q : Value → Shared → Prop} (ha : s.heap.IsTuple a us) (hb : s.heap.IsList b vs)
    (k : ∀ h', IsZip h' (s.heap.objs.size + 4) (s.heap.objs.size + 2) (s.heap.objs.size + 3) .none → IsTupOf2 h' (s.heap.objs.size + 2) (.ref s.heap.objs.size) (.ref (s.heap.objs.size + 1)) → IsTupOf2 h' (s.heap.objs.size + 3) .none .none →
      h'.IsTupleIter s.heap.objs.size a 0 → h'.IsListIter (s.heap.objs.size + 1) b 0 → (∀ c o, s.heap.get? c = some o → h'.get? c = some o) → Q (.ref (s.heap.objs.size + 4)) { s with heap := h' }) :
    wpAny (model prog w) A (call (.type "zip") [.ref a, .ref b]) Q E s := by
  refine callType_new F.called_zip (by decide) (F.typeCall_zip_2 _ _) (F.newCall_zip_2 _ _) (fun obj => F.args_object_init_3 obj _ _) F.entry_zip_new (mz_new a b us vs) ⟨ha, hb, ?_⟩
  have n1 : (mz1 s.heap a).objs.size = s.heap.objs.size + 1 := Heap.size_push ..
  have n2 : (mz2 s.heap a b).objs.size = s.heap.objs.size + 2 := (Heap.size_push ..).trans (by rw [n1])
  have n3 : (mz3 s.heap a b).objs.size = s.heap.objs.size + 3 := (Heap.size_push ..).trans (by rw [n2])
  have n4 : (mz4 s.heap a b).objs.size = s.heap.objs.size + 4 := (Heap.size_push ..).trans (by rw [n3])
  have up : ∀ {h : Heap} {c : Addr} {o u : Obj}, h.get? c = some o → (h.push u).get? c = some o := fun e => Heap.get?_push_of_some _ e
  have g5 : (mz5 s.heap a b).get? (mz4 s.heap a b).objs.size = some _ := Heap.get?_push_size _ rfl
  have g4 : (mz5 s.heap a b).get? (mz3 s.heap a b).objs.size = some _ := up (Heap.get?_push_size _ rfl)
  have g3 : (mz5 s.heap a b).get? (mz2 s.heap a b).objs.size = some _ := up (up (Heap.get?_push_size _ rfl))
  have g2 : (mz5 s.heap a b).get? (mz1 s.heap a).objs.size = some _ := up (up (up (Heap.get?_push_size _ rfl)))
  have g1 : (mz5 s.heap a b).get? s.heap.objs.size = some _ := up (up (up (up (Heap.get?_push_size _ rfl))))
  show _ ∧ _
  rw [n2, n3, n4] at g5
  rw [n1, n2] at g3
  rw [n3] at g4
  rw [n1] at g2
  rw [n4]
  exact ⟨⟨_, g5, rfl⟩, k _ g5 g3 g4 ⟨_, g1, rfl, rfl⟩ ⟨_, g2, rfl, rfl⟩ fun c o x => up (up (up (up (up x))))⟩
theorem apart_tup {h : Heap} {i a : Addr} {k : Nat} {us : Array Value} (hi : h.IsTupleIter i a k) (ha : h.IsTuple a us) : a ≠ i := fun e => by
  obtain ⟨o1, e1, c1, _⟩ := hi
  obtain ⟨o2, e2, c2, _⟩ := ha
  rw [e, e1] at e2
  cases e2
  rw [c1] at c2
  simp at c2
theorem apart_lst {h : Heap} {i a : Addr} {k : Nat} {us : Array Value} (hi : h.IsListIter i a k) (ha : h.IsList a us) : a ≠ i := fun e => by
  obtain ⟨o1, e1, c1, _⟩ := hi
  obtain ⟨o2, e2, c2, _⟩ := ha
  rw [e, e1] at e2
  cases e2
  rw [c1] at c2
  simp at c2
/-- the tuple at a and the list at b as they stand at each turn, their items in new pairs -/
def Izm (K : PySem.W.Frag) (a b : Addr) : It :=
  ⟨fun i H => ∃ (xs ys : List V) (x y : V), SqT K H a xs ∧ SqL K H b ys ∧ xs[i]? = some x ∧ ys[i]? = some y,
    fun i H v H' => ∃ T x y, v = .ref T ∧ H T = none ∧ H' = upd H T (.tup [x, y]) ∧ (∀ xs, SqT K H a xs → xs[i]? = some x) ∧ ∀ ys, SqL K H b ys → ys[i]? = some y,
    fun i H => ∃ xs ys : List V, SqT K H a xs ∧ SqL K H b ys ∧ i ≤ xs.length ∧ i ≤ ys.length ∧ (i = xs.length ∨ i = ys.length)⟩
theorem turn_mz {P : Program} {w : World} {K : PySem.W.Frag} {elts : List Expr} {kk : Nat} {tpos : Pos} {a b z ti to i1 i2 : Addr} (S : ZipSep2 z ti to i1 i2 [i1, a] [i2, b]) :
    Turn P w K (.Tuple elts kk tpos) (Izm K a b) [z, ti, to, i1, i2] z (fun i h => IsZip h z ti to .none ∧ IsTupOf2 h ti (.ref i1) (.ref i2) ∧ (∃ x y, IsTupOf2 h to x y) ∧ h.IsTupleIter i1 a i ∧ h.IsListIter i2 b i) where
  mem := by simp
  obj := fun i h st c hc => by
    obtain ⟨pz, pi, ⟨x, y, po⟩, ⟨o1, e1, _, d1⟩, ⟨o2, e2, _, d2⟩⟩ := st
    rcases (show c = z ∨ c = ti ∨ c = to ∨ c = i1 ∨ c = i2 by simpa using hc) with rfl | rfl | rfl | rfl | rfl
    · exact ⟨_, pz, fun v q => nomatch q⟩
    · exact ⟨_, pi, fun v q => nomatch q⟩
    · exact ⟨_, po, fun v q => nomatch q⟩
    · exact ⟨o1, e1, fun v q => by rw [d1] at q; cases q⟩
    · exact ⟨o2, e2, fun v q => by rw [d2] at q; cases q⟩
  keep := fun i h h' st k => by
    obtain ⟨pz, pi, ⟨x, y, po⟩, h1, h2⟩ := st
    exact ⟨k z (by simp) _ pz, k ti (by simp) _ pi, ⟨x, y, k to (by simp) _ po⟩, h1.at fun o q => k i1 (by simp) o q, h2.at fun o q => k i2 (by simp) o q⟩
  item := by
    intro X hP hw hK hc i pins s σ H E I hf st hg
    subst hP hw hK
    obtain ⟨pz, pi, ⟨x0, y0, po⟩, h1, h2⟩ := st
    obtain ⟨xs, ys, x, y, qx, qy, hx, hy⟩ := hg
    obtain ⟨us, rv, p, _⟩ := I.tuple qx
    obtain ⟨vs, rv2, p2, _⟩ := I.list qy
    have pa : s.heap.IsTuple a us.toArray := p
    obtain ⟨u, hu, ru⟩ := rv.get hx
    obtain ⟨u2, hu2, ru2⟩ := rv2.get hy
    have lt1 : i < us.toArray.size := by
      have := (List.getElem?_eq_some_iff.mp hu).1
      simpa using this
    have lt2 : i < vs.toArray.size := by
      have := (List.getElem?_eq_some_iff.mp hu2).1
      simpa using this
    have lz : z < s.heap.objs.size := Heap.lt_size pz
    have na : a ≠ i1 := apart_tup h1 pa
    have nb : b ≠ i2 := apart_lst h2 p2.isList
    refine wpAny_pyNext_zipD2_item S (draws_tup (A := X.A.in1) (I.ok.hd hc) i1 a na us.toArray) (Draws.list (A := X.A.in1) (I.ok.hd hc) i2 b nb vs.toArray) pz pi po ⟨h1, pa⟩ ⟨h2, p2.isList⟩ lt1 lt2 fun y1 y2 h' tk r1 r2 z' to' s1' s2' hT hsz hk => ?_
    have e1 : y1 = u := by
      have : some u = some y1 := hu.symm.trans (by simpa using r1)
      exact (Option.some.inj this).symm
    have e2 : y2 = u2 := by
      have : some u2 = some y2 := hu2.symm.trans (by simpa using r2)
      exact (Option.some.inj this).symm
    subst e1 e2
    refine ⟨_, rfl, wpAny_letOwnedTupleGo_zip (s := { s with heap := h', toks := tk }) z' fun h'' z'' sb => ?_⟩
    have hT2 : h''.get? s.heap.objs.size = some { cls := .type "tuple", data := .seq #[y1, y2] } := (sb.2 _ (Nat.ne_of_gt lz)).trans hT
    have ok : ObjOk X.prog X.w (upd H s.heap.objs.size (.tup [x, y])) h'' s.heap.objs.size (.tup [x, y]) := ⟨by show 2 ≤ sizeLine; decide, [y1, y2], .cons ru (.cons ru2 .nil), ⟨_, hT2, rfl, _, rfl⟩⟩
    have kk : ∀ c o, c ∉ [z, ti, to, i1, i2] → s.heap.get? c = some o → h''.get? c = some o := fun c o hb q => (sb.2 c (fun q' => hb (by simp [q']))).trans (hk c o (fun q' => hb (by simp [q'])) (fun q' => hb (by simp [q'])) (fun q' => hb (by simp [q'])) (fun q' => hb (by simp [q'])) q)
    have I1 : Inv X pins σ (upd H s.heap.objs.size (.tup [x, y])) { s with heap := h'', toks := tk } := I.turnedNew (ch := [z, ti, to, i1, i2]) kk hf (Nat.le_refl _) ok
    refine ⟨.ref s.heap.objs.size, _, I1, rfl, ⟨_, x, y, rfl, I.hok.fresh (Nat.le_refl _), rfl, fun l hl => by rw [I.tuple_inj hl qx]; exact hx, fun l hl => by rw [I.list_inj hl qy]; exact hy⟩, ⟨z'', ?_, ⟨y1, y2, ?_⟩, ?_, ?_⟩, fun c hcm => ?_⟩
    · exact (sb.2 _ S.TIz).trans (hk _ _ S.TIz S.TITO S.TIi1 S.TIi2 pi)
    · exact (sb.2 _ S.TOz).trans to'
    · exact s1'.1.at fun o q => (sb.2 _ S.zi1.symm).trans q
    · exact s2'.1.at fun o q => (sb.2 _ S.zi2.symm).trans q
    · have lc : c < s.heap.objs.size := by
        rcases (show c = z ∨ c = ti ∨ c = to ∨ c = i1 ∨ c = i2 by simpa using hcm) with rfl | rfl | rfl | rfl | rfl
        · exact lz
        · exact Heap.lt_size pi
        · exact Heap.lt_size po
        · obtain ⟨_, e1, _⟩ := h1; exact Heap.lt_size e1
        · obtain ⟨_, e2, _⟩ := h2; exact Heap.lt_size e2
      rw [upd_ne (Nat.ne_of_lt lc)]
      exact (hf c hcm).1
  done := by
    intro X hP hw hK hc i pins s σ H E I hf st hg
    subst hP hw hK
    obtain ⟨pz, pi, ⟨x0, y0, po⟩, h1, h2⟩ := st
    obtain ⟨xs, ys, qx, qy, l1, l2, hend⟩ := hg
    obtain ⟨us, rv, p, _⟩ := I.tuple qx
    obtain ⟨vs, rv2, p2, _⟩ := I.list qy
    have pa : s.heap.IsTuple a us.toArray := p
    have e1 : us.toArray.size = xs.length := by rw [List.size_toArray, rv.length]
    have e2 : vs.toArray.size = ys.length := by rw [List.size_toArray, rv2.length]
    exact wpAny_pyNext_zipD2_end S (draws_tup (A := X.A.in1) (I.ok.hd hc) i1 a (apart_tup h1 pa) us.toArray) (Draws.list (A := X.A.in1) (I.ok.hd hc) i2 b (apart_lst h2 p2.isList) vs.toArray) pz pi po ⟨h1, pa⟩ ⟨h2, p2.isList⟩ (by rw [e1]; exact l1) (by rw [e2]; exact l2) (by rw [e1, e2]; exact hend) fun h' tk hk => ⟨rfl, I.turnedL (t' := tk) (ch := [z, ti, to, i1, i2]) (fun c o hb q =>
      hk c o (fun q' => hb (by simp [q'])) (fun q' => hb (by simp [q'])) (fun q' => hb (by simp [q'])) (fun q' => hb (by simp [q'])) q) hf⟩
  self := fun A i s Q E st h => wpAny_pyIter_zip st.1 h
theorem not_pair {x p q : Nat} (h1 : x ≠ p) (h2 : x ≠ q) : x ∉ [p, q] := by simp [h1, h2]
theorem sep_new {n a b : Nat} (ha : a < n) (hb : b < n) : ZipSep2 (n + 4) (n + 2) (n + 3) n (n + 1) [n, a] [n + 1, b] where
  TIz := by simp
  TOz := by simp
  TITO := by simp
  TIi1 := by simp
  mem1 := by simp
  zf1 := not_pair (by omega) (by omega)
  Tf1 := not_pair (by omega) (by omega)
  TIi2 := by simp
  mem2 := by simp
  zf2 := not_pair (by omega) (by omega)
  Tf2 := not_pair (by omega) (by omega)
  sep1_2 := not_pair (by omega) (by omega)
  sep2_1 := not_pair (by omega) (by omega)
def iZm (K : PySem.W.Frag) (ta : TA) : TI := fun σ H R => ta σ H fun vs H1 => ∃ a b xs ys, vs = [.ref a, .ref b] ∧ SqT K H1 a xs ∧ SqL K H1 b ys ∧ R (Izm K a b) H1
theorem pi_mz {X : Cx} {e e2 : Expr} {ta : TA} {p pos tpos : Pos} {elts : List Expr} {kk : Nat} (hg : Gl X "zip") (hm : X.mg "zip" = none) (ha : PA X [e, e2] ta)
    (st : starEach [e, e2] X.env = (false, eval e X.env) :: starEach [e2] X.env := by rfl) (pl : (backTo pos (starEach [e2] X.env)).any (·.1) = false := by rfl) :
    PI X (.Tuple elts kk tpos) (.Call (.Name "zip" p) [e, e2] [] pos) (iZm X.K ta) := by
  refine ⟨fun pins s σ H R I h => ?_⟩
  refine Call_ (ld_blt I hg hm PyProof.Rows.boot_zip (PyProof.Rows.callWith_type1 (thn (ha.run pos pins s σ H _ I h) fun us s1 ⟨vs, H1, I1, r1, a, b, xs, ys, ex, qx, qy, q⟩ => ?_) st pl))
  subst ex
  cases r1 with
  | cons r rr =>
    cases rr with
    | cons r' rr =>
      cases rr
      cases r
      cases r'
      obtain ⟨us, rv, p1, _⟩ := I1.tuple qx
      obtain ⟨ws, rv2, p2, _⟩ := I1.list qy
      have pa : s1.heap.IsTuple a us.toArray := p1
      have la : a < s1.heap.objs.size := by obtain ⟨o, ho, _⟩ := pa; exact Heap.lt_size ho
      refine call_mz pa p2.isList fun h' z' ti' to' j1 j2 hk => wpAny_pyIter_zip z' ?_
      have I2 : Inv X pins σ H1 { s1 with heap := h' } := I1.kept (t' := s1.toks) hk
      refine ⟨s1.heap.objs.size + 4, [s1.heap.objs.size + 4, s1.heap.objs.size + 2, s1.heap.objs.size + 3, s1.heap.objs.size, s1.heap.objs.size + 1], _, _, H1, rfl, I2, turn_mz (sep_new la p2.lt), ⟨z', ti', ⟨_, _, to'⟩, j1, j2⟩, fun c hc => ?_, q⟩
      have hle : s1.heap.objs.size ≤ c := by
        rcases (show c = s1.heap.objs.size + 4 ∨ c = s1.heap.objs.size + 2 ∨ c = s1.heap.objs.size + 3 ∨ c = s1.heap.objs.size ∨ c = s1.heap.objs.size + 1 by simpa using hc) with z | z | z | z | z
        all_goals rw [z]
        · exact Nat.le_add_right _ 4
        · exact Nat.le_add_right _ 2
        · exact Nat.le_add_right _ 3
        · exact Nat.le_refl _
        · exact Nat.le_add_right _ 1
      exact I1.fpOk hle (I1.hok.fresh hle)
theorem walk_mz {K : PySem.W.Frag} {a b : Addr} {xs ys : List V} {n : Nat} (hn : n = min xs.length ys.length) : Walk (Izm K a b) n (fun H => SqT K H a xs ∧ SqL K H b ys) (YPair (fun i => xs[i]?) (fun i => ys[i]?)) := by
  subst hn
  refine ⟨fun i _ hi q => ?_, fun _ q => ⟨xs, ys, q.1, q.2, by omega, by omega, by omega⟩, fun i H v H' _ q y => ?_⟩
  · have h1 : i < xs.length := by omega
    have h2 : i < ys.length := by omega
    exact ⟨xs, ys, xs[i], ys[i], q.1, q.2, by simp [h1], by simp [h2]⟩
  · obtain ⟨T, x, z, h1, h2, h3, h4, h5⟩ := y
    exact ⟨T, x, z, h1, h2, h3, h4 xs q.1, h5 ys q.2⟩
end Fv


set_option Elab.async false
set_option linter.all false
set_option maxRecDepth 100000
set_option maxHeartbeats 1000000
namespace Fv
open PySem PySem.Spec PyProof.Rows L2
def top (i : Nat) : Stmt := PySem.Challenge.pw_farapart_k21_statements.main.body.getD i (.Pass ⟨0, 0, 0, 0⟩)
abbrev sBag : Stmt := top 40
abbrev sTake : Stmt := top 41
/-! ### the bag -/
def bagV (p s : Int) (i : Nat) (c : Addr) : HO := .lst [.int p, .int s, .int i, .ref c]
structure BagIs (H : Hp) (b c : Addr) (cs : List Int) (p s : Int) (i : Nat) : Prop where
  at_ : H b = some (bagV p s i c)
  cells : H c = some (.lst (cs.map V.int))
  ne : c ≠ b
  p0 : 0 ≤ p
  s0 : 0 ≤ s
  cs0 : ∀ z ∈ cs, 0 ≤ z
def Bag (H : Hp) (b : Addr) : Prop := ∃ c cs p s i, BagIs H b c cs p s i
def BagAt (H : Hp) (b c : Addr) : Prop := ∃ cs p s i, BagIs H b c cs p s i
theorem BagAt.bag {H : Hp} {b c : Addr} (h : BagAt H b c) : Bag H b := ⟨c, h⟩
theorem BagIs.same {H : Hp} {b c d : Addr} {cs : List Int} {p s : Int} {i : Nat} (B : BagIs H b c cs p s i) (h : BagAt H b d) : d = c := by
  obtain ⟨cs', p', s', i', B'⟩ := h
  have e := B'.at_.symm.trans B.at_
  unfold bagV at e
  simp only [Option.some.injEq, HO.lst.injEq, List.cons.injEq, V.ref.injEq, and_true] at e
  exact e.2.2.2
theorem BagAt.put {H : Hp} {b c D : Addr} {o : HO} (h : BagAt H b c) (nb : D ≠ b) (nc : D ≠ c) : BagAt (upd H D o) b c := by
  obtain ⟨cs, p, s, i, B⟩ := h
  exact ⟨cs, p, s, i, by rw [upd_ne nb.symm]; exact B.at_, by rw [upd_ne nc.symm]; exact B.cells, B.ne, B.p0, B.s0, B.cs0⟩
theorem BagAt.new {H : Hp} {b c D : Addr} {o : HO} (h : BagAt H b c) (n : H D = none) : BagAt (upd H D o) b c ∧ D ≠ b ∧ D ≠ c := by
  obtain ⟨cs, p, s, i, B⟩ := id h
  have n1 := (ne_of_none B.at_ n).symm
  have n2 := (ne_of_none B.cells n).symm
  exact ⟨h.put n1 n2, n1, n2⟩
def Keep (b : Addr) (H H' : Hp) : Prop := ∀ a o, a ≠ b → H a = some o → H' a = some o
theorem Keep.refl {b : Addr} {H : Hp} : Keep b H H := fun _ _ _ e => e
theorem Keep.trans {b : Addr} {H H1 H2 : Hp} (h : Keep b H H1) (k : Keep b H1 H2) : Keep b H H2 := fun a o n e => k a o n (h a o n e)
theorem Keep.upd {b : Addr} {H : Hp} {o : HO} : Keep b H (upd H b o) := fun a u n e => by rw [upd_ne n]; exact e
theorem Keep.new {b p : Addr} {H : Hp} {o : HO} (n : H p = none) : Keep b H (L2.upd H p o) := fun a u _ e => by rw [upd_ne (ne_of_none e n)]; exact e
theorem Bag.new {b p : Addr} {H : Hp} {o : HO} (B : Bag H b) (n : H p = none) : Bag (upd H p o) b := by
  obtain ⟨c, cs, q, s, i, B⟩ := B
  exact ⟨c, cs, q, s, i, by rw [upd_ne (ne_of_none B.at_ n)]; exact B.at_, by rw [upd_ne (ne_of_none B.cells n)]; exact B.cells, B.ne, B.p0, B.s0, B.cs0⟩
theorem BagIs.set {H : Hp} {b c : Addr} {cs : List Int} {p s p' s' : Int} {i i' : Nat} (B : BagIs H b c cs p s i) (hp : 0 ≤ p') (hs : 0 ≤ s') : BagIs (upd H b (bagV p' s' i' c)) b c cs p' s' i' :=
  ⟨upd_same, by rw [upd_ne B.ne]; exact B.cells, B.ne, hp, hs, B.cs0⟩
theorem cutK {t u : TS} {D : Ends} {σ : L2.St} {H : Hp} (P : L2.St → Hp → Prop) (k : ∀ σ' H', P σ' H' → u D σ' H') (h : (∀ σ' H', P σ' H' → u D σ' H') → tSeq t u D σ H) : tSeq t u D σ H := h k
theorem asgC {v : V} {i : Nat} {u : TS} {D : Ends} {σ : L2.St} {H : Hp} (h : u D (σ.set i (some v)) H) : tSeq (tAsg (tC v) (gName i)) u D σ H := h
theorem nz1 : (1000000007 : Int) ≠ 0 := by decide
theorem nz2 : (998244353 : Int) ≠ 0 := by decide
theorem nz3 : (2147483647 : Int) ≠ 0 := by decide
theorem modN {a m : Int} (ha : 0 ≤ a) (hm : 0 < m) : ∃ r : Nat, a.fmod m = (r : Int) ∧ (r : Int) < m := by
  have e : a.fmod m = a % m := Int.fmod_eq_emod_of_nonneg a (by omega)
  have h0 : 0 ≤ a % m := Int.emod_nonneg a (by omega)
  have h1 : a % m < m := Int.emod_lt_of_pos a hm
  exact ⟨(a % m).toNat, by rw [e]; omega, by omega⟩
section
variable {P : Program} {w : World} {K : PySem.W.Frag} {mg : Str → Option Value} {base : Heap}
def spTake : Sp := fun vs H Q _ => ∃ (b : Addr) (m : Int), vs = [.ref b, .int m] ∧ Bag H b ∧ 0 < m ∧ m ≤ 1000000 ∧ ∀ (r : Nat) (H' : Hp), (r : Int) < m → Bag H' b → Keep b H H' → (∀ c, BagAt H b c → BagAt H' b c) → Q (.int r) H'
theorem scT : FnScope ["_law_bag_here", "_law_many", "_law_cell", "_law_mixed_here", "_law_value", "_law_begin", "_law_second"] ["_law_bag_here", "_law_many"] (defScope sTake) := ⟨rfl, rfl, rfl, by decide +kernel, rfl, by decide +kernel, by decide +kernel⟩
theorem ok_take {f : Addr} {fd : FuncData} (F : Fun K "_law_take" "_law_take" sTake f fd) (mi : mg "int" = none) (ml : mg "len" = none) : FnOk P w K mg base CX0 1 f fd ["_law_bag_here", "_law_many"] spTake := by
  refine F.ok scT (fun vs H Q E h => ?_) (fun cdv A outer s H vs Q E hr h => ?_)
  · obtain ⟨b, m, rfl, _⟩ := h
    rfl
  · obtain ⟨b, m, rfl, B, m0, m1, q⟩ := h
    refine ⟨_, pss_cons (ps_if (pt_cmpR op_eq (pe_ix ix_list (pv 0) pe_int (fun _ _ => rfl)) pe_int (nomark _))
        (pss_cons (ps_set (i := 2) scT.nd rfl (.inl rfl) pe_int)
        (pss_cons (ps_if (pt_cmpR op_lt (pe_ix ix_list (pv 0) pe_int (fun _ _ => rfl)) (pe_callB call_len_seq (by rfl) ml PySem.boot_len (pa_cons (pe_ix ix_list (pv 0) pe_int (fun _ _ => rfl)) pa_nil)) (nomark _))
          (pss_one (ps_set (i := 2) scT.nd rfl (.inl rfl) (pe_ix ix_list (pe_ix ix_list (pv 0) pe_int (fun _ _ => rfl)) (pe_ix ix_list (pv 0) pe_int (fun _ _ => rfl)) (fun _ _ => rfl)))) pss_nil)
        (pss_cons (ps_augS (pv 0) pe_int pget_list pe_int ip_add set_list)
        (pss_cons (ps_if (pt_cmpR op_ge (pv 2) pe_int (nomark _)) (pss_one (ps_asg (pv 2) (pg_sub (pv 0) pe_int set_list))) pss_nil)
        (pss_cons (ps_set (i := 3) scT.nd rfl (.inl rfl) (pe_op op_add (pe_op op_add (pe_op op_mul (pe_ix ix_list (pv 0) pe_int (fun _ _ => rfl)) pe_int) (pe_op op_modN (pe_callTy call_int1 (by rfl) mi (by decide +kernel) (pa_cons (pv 2) pa_nil)) pe_int))
          (pe_op op_mul pe_int (pe_ix ix_list (pv 0) pe_int (fun _ _ => rfl)))))
        (pss_one (ps_asg (pe_op op_modN (pe_callTy call_int1 (by rfl) mi (by decide +kernel) (pa_cons (pv 3) pa_nil)) pe_int) (pg_sub (pv 0) pe_int set_list)))))))) pss_nil)
      (pss_cons (ps_if (pt_cmpR op_gt (pe_ix ix_list (pv 0) pe_int (fun _ _ => rfl)) pe_int (nomark _))
        (pss_cons (ps_set (i := 4) scT.nd rfl (.inl rfl) (pe_op op_modN (pe_callTy call_int1 (by rfl) mi (by decide +kernel) (pa_cons (pe_ix ix_list (pv 0) pe_int (fun _ _ => rfl)) pa_nil)) (pv 1)))
        (pss_cons (ps_asg (pe_op op_fdivN (pe_ix ix_list (pv 0) pe_int (fun _ _ => rfl)) (pv 1)) (pg_sub (pv 0) pe_int set_list))
        (pss_one (ps_ret (pv 4))))) pss_nil)
      (pss_cons (ps_set (i := 5) scT.nd rfl (.inl rfl) (pe_op op_modN (pe_callTy call_int1 (by rfl) mi (by decide +kernel) (pa_cons (pe_op op_mul (pe_op op_add (pe_ix ix_list (pv 0) pe_int (fun _ _ => rfl)) pe_int) pe_int) pa_nil)) pe_int))
      (pss_cons (ps_set (i := 6) scT.nd rfl (.inl rfl) (pe_op op_modN (pe_callTy call_int1 (by rfl) mi (by decide +kernel) (pa_cons (pe_op op_mul (pe_op op_modN (pe_callTy call_int1 (by rfl) mi (by decide +kernel) (pa_cons (pe_op op_mul (pv 5) (pv 5)) pa_nil)) pe_int) pe_int) pa_nil)) pe_int))
      (pss_cons (ps_if (pt_cmpR op_gt (pv 1) pe_int (nomark _)) (pss_one ps_never) pss_nil)
      (pss_one (ps_ret (pe_op op_modN (pe_callTy call_int1 (by rfl) mi (by decide +kernel) (pa_cons (pe_op op_fdivN (pv 6) pe_int) pa_nil)) (pv 1)))))))), ?_⟩
    refine cutK (fun σ' H' => ∃ c x : Option V, σ' = [some (.ref b), some (.int m), c, x, none, none, none] ∧ Bag H' b ∧ Keep b H H' ∧ ∀ c, BagAt H b c → BagAt H' b c) ?_ (fun k => ?_)
    · rintro σ' H' ⟨c, x, rfl, B', kp, st⟩
      obtain ⟨cc, cs, p, s, i, B'⟩ := B'
      have hb : SqL K H' b [.int p, .int s, .int i, .ref cc] := SqL.of B'.at_
      have mne : m ≠ 0 := by omega
      refine ⟨_, rfl, b, _, _, _, rfl, rfl, hb, atI_nat (j := 0) rfl, _, _, rfl, rfl, _, rfl, ite2 (fun e => ?_) (fun e => ?_)⟩
      · obtain ⟨r, er, r1⟩ := modN B'.p0 m0
        refine ⟨_, rfl, b, _, _, _, rfl, rfl, hb, atI_nat (j := 0) rfl, .inl ⟨_, rfl, _, rfl, _, _, rfl, rfl, mne, ?_⟩⟩
        refine ⟨_, rfl, b, _, _, _, rfl, rfl, hb, atI_nat (j := 0) rfl, _, rfl, _, _, rfl, rfl, ⟨mne, by omega⟩, _, rfl, b, _, _, _, rfl, rfl, B'.at_, rfl, ?_⟩
        refine ⟨_, rfl, ?_⟩
        show Q (V.int (p.fmod m)) _
        rw [er]
        have Bd : BagIs (upd H' b (bagV (p.fdiv m) s i cc)) b cc cs (p.fdiv m) s i := B'.set (Int.fdiv_nonneg B'.p0 (by omega)) B'.s0
        refine q r _ r1 ⟨cc, cs, _, _, _, Bd⟩ (kp.trans Keep.upd) fun c hc => ?_
        rw [B'.same (st c hc)]
        exact ⟨cs, _, _, _, Bd⟩
      · obtain ⟨g, eg, g1⟩ := modN (a := (s + 1) * 39373) (m := 1000000007) (by have := B'.s0; omega) (by decide)
        refine ⟨_, rfl, b, _, _, _, rfl, rfl, hb, atI_nat (j := 1) rfl, _, _, rfl, rfl, _, _, rfl, rfl, .inr ⟨by decide, by decide⟩, .inl ⟨_, rfl, _, _, rfl, rfl, nz1, ?_⟩⟩
        dsimp only
        rw [eg]
        obtain ⟨g2, eg2, g3⟩ := modN (a := (g : Int) * g) (m := 998244353) (Int.mul_nonneg (by omega) (by omega)) (by decide)
        refine ⟨_, rfl, _, rfl, _, _, rfl, rfl, .inl ⟨by omega, by omega⟩, .inl ⟨_, rfl, _, _, rfl, rfl, nz2, ?_⟩⟩
        dsimp only
        rw [eg2]
        obtain ⟨g4, eg4, g5⟩ := modN (a := (g2 : Int) * 30011) (m := 998244353) (by omega) (by decide)
        refine ⟨_, _, rfl, rfl, .inr ⟨by decide, by decide⟩, .inl ⟨_, rfl, _, _, rfl, rfl, nz2, ?_⟩⟩
        dsimp only
        rw [eg4]
        refine ⟨_, rfl, _, _, rfl, rfl, _, rfl, ite2 (fun e => ?_) (fun e => ?_)⟩
        · exact absurd (of_decide_eq_true e) (by omega)
        · obtain ⟨r, er, r1⟩ := modN (a := (g4 : Int).fdiv 7) (m := m) (Int.fdiv_nonneg (by omega) (by decide)) m0
          refine ⟨_, rfl, _, _, rfl, rfl, ⟨by decide, by decide⟩, .inl ⟨_, rfl, _, rfl, _, _, rfl, rfl, mne, ?_⟩⟩
          show Q (V.int (((g4 : Int).fdiv 7).fmod m)) _
          rw [er]
          exact q r _ r1 ⟨cc, cs, p, s, i, B'⟩ kp st
    · obtain ⟨cc, cs, p, s, i, B⟩ := B
      have hb : SqL K H b [.int p, .int s, .int i, .ref cc] := SqL.of B.at_
      refine ⟨_, rfl, b, _, _, _, rfl, rfl, hb, atI_nat (j := 0) rfl, rfl, _, rfl, ite2 (fun e => ?_) (fun e => ?_)⟩
      · -- what follows the reading of the cell
        refine asgC ?_
        refine cutK (fun σ' H' => ∃ z : Int, 0 ≤ z ∧ σ' = [some (.ref b), some (.int m), some (.int z), none, none, none, none] ∧ H' = H) ?_ (fun k2 => ?_)
        · rintro σ' H' ⟨z, z0, rfl, rfl⟩
          refine ⟨_, rfl, b, _, 2, _, rfl, rfl, hb, rfl, _, _, rfl, rfl, b, _, _, _, rfl, rfl, B.at_, rfl, ?_⟩
          have B1 : BagIs (upd H' b (bagV p s (i + 1) cc)) b cc cs p s (i + 1) := B.set B.p0 B.s0
          dsimp only
          refine cutK (fun σ1 H1 => σ1 = [some (.ref b), some (.int m), some (.int z), none, none, none, none] ∧ Keep b H' H1 ∧ ∃ p', BagIs H1 b cc cs p' s (i + 1)) ?_ (fun k3 => ?_)
          · rintro σ1 H1 ⟨rfl, kp, p', B2⟩
            have hb2 : SqL K H1 b [.int p', .int s, .int ((i + 1 : Nat) : Int), .ref cc] := SqL.of B2.at_
            refine ⟨_, rfl, b, _, _, _, rfl, rfl, hb2, atI_nat (j := 1) rfl, _, _, rfl, rfl, .inr ⟨by decide, by decide⟩, _, rfl, .inl ⟨_, rfl, _, _, rfl, rfl, nz3, ?_⟩⟩
            obtain ⟨g, eg, g1⟩ := modN (a := z) (m := 2147483647) z0 (by decide)
            dsimp only
            rw [eg]
            refine ⟨_, _, rfl, rfl, _, rfl, b, _, _, _, rfl, rfl, hb2, atI_nat (j := 2) rfl, _, _, rfl, rfl, .inl ⟨by decide, by decide⟩, _, _, rfl, rfl, ?_⟩
            obtain ⟨g2, eg2, g3⟩ := modN (a := s * 48271 + (g : Int) + 7919 * ((i + 1 : Nat) : Int)) (m := 2147483647) (by have := B.s0; omega) (by decide)
            refine ⟨_, rfl, .inl ⟨_, rfl, _, _, rfl, rfl, nz3, ?_⟩⟩
            dsimp only
            rw [eg2]
            refine ⟨_, rfl, b, _, _, _, rfl, rfl, B2.at_, rfl, ?_⟩
            exact k _ _ ⟨_, _, rfl, ⟨cc, cs, p', _, i + 1, B2.set (i' := i + 1) B2.p0 (Int.natCast_nonneg g2)⟩, kp.trans Keep.upd, fun c hc => by
              rw [B.same hc]
              exact ⟨cs, p', _, i + 1, B2.set (i' := i + 1) B2.p0 (Int.natCast_nonneg g2)⟩⟩
          · refine ⟨_, rfl, _, _, rfl, rfl, _, rfl, ite2 (fun e => ?_) (fun e => ?_)⟩
            · exact ⟨_, rfl, _, rfl, b, _, _, _, rfl, rfl, B1.at_, rfl, k3 _ _ ⟨rfl, Keep.upd.trans Keep.upd, z, B1.set (i' := i + 1) z0 B1.s0⟩⟩
            · exact k3 _ _ ⟨rfl, Keep.upd, p, B1⟩
        · refine ⟨_, rfl, b, _, _, _, rfl, rfl, hb, atI_nat (j := 2) rfl, _, rfl, b, _, _, _, rfl, rfl, hb, atI_nat (j := 3) rfl, cc, cs.map V.int, rfl, .inl (SqL.of B.cells), _, _, rfl, rfl, _, rfl, ite2 (fun e => ?_) (fun e => ?_)⟩
          · have hi : i < cs.length := by
              have := of_decide_eq_true e
              rw [List.length_map] at this
              omega
            have gi : (cs.map V.int)[i]? = some (.int cs[i]) := by
              rw [List.getElem?_map, List.getElem?_eq_getElem hi]
              rfl
            refine ⟨_, rfl, b, _, _, _, rfl, rfl, hb, atI_nat (j := 3) rfl, _, rfl, b, _, _, _, rfl, rfl, hb, atI_nat (j := 2) rfl, cc, _, _, _, rfl, rfl, SqL.of B.cells, atI_nat gi, ?_⟩
            exact k2 _ _ ⟨cs[i], B.cs0 _ (List.getElem_mem hi), rfl, rfl⟩
          · exact k2 _ _ ⟨0, by decide, rfl, rfl⟩
      · exact k _ _ ⟨none, none, rfl, ⟨cc, cs, p, s, i, B⟩, Keep.refl, fun _ h => h⟩
end
end Fv


set_option Elab.async false
set_option linter.all false
set_option maxRecDepth 100000
set_option maxHeartbeats 1000000
namespace Fv
open PySem PySem.Spec PyProof.Rows L2
section
variable {P : Program} {w : World} {K : PySem.W.Frag} {mg : Str → Option Value} {base : Heap}
def spBag (K : PySem.W.Frag) : Sp := fun vs H Q _ => ∃ (a : Addr) (ns : List Int), vs = [.ref a] ∧ SqL K H a (ns.map V.int) ∧ ns.length ≤ 63 ∧ ∀ (b : Addr) (H' : Hp), Bag H' b → Same H H' → Q (.ref b) H'
theorem scB : FnScope ["_law_script", "_law_cell"] ["_law_script"] (defScope sBag) := ⟨rfl, rfl, rfl, by decide +kernel, rfl, by decide +kernel, by decide +kernel⟩
theorem ok_bag {f : Addr} {fd : FuncData} (F : Fun K "_law_bag" "_law_bag" sBag f fd) (ma : mg "abs" = none) : FnOk P w K mg base CX0 1 f fd ["_law_script"] (spBag K) := by
  refine F.ok scB (fun vs H Q E h => ?_) (fun cdv A outer s H vs Q E hr h => ?_)
  · obtain ⟨b, m, rfl, _⟩ := h
    rfl
  · obtain ⟨a, ns, rfl, hS, hlen, q⟩ := h
    refine ⟨_, pss_one (ps_ret (pe_lst (pa_cons pe_int (pa_cons pe_int (pa_cons pe_int (pa_cons
      (pe_lc (own := [("_law_cell", 1)]) (g := gName 1) (tt := tYes) rfl scB.nd (pi_list (pe_slice sl_list (pv 0) po_none (po_some pe_int))) (blkOk_by (N := ["_law_script", "_law_cell"]) (sc := defScope sBag) (by decide +kernel))
        (fun _ _ _ _ _ => pg_name (i := 1) scB.nd rfl (Or.inl rfl)) (fun _ _ _ _ _ => pts_nil) (fun _ _ _ _ _ => pe_callB call_abs (by rfl) ma (by decide +kernel) (pa_cons (pv 1) pa_nil))) pa_nil)))))), ?_⟩
    refine ⟨_, rfl, _, rfl, a, ns.map V.int, rfl, hS, fun p np => ?_⟩
    have cut : cutV (ns.map V.int) none (some 63) = ns.map V.int := by
      unfold cutV
      rw [HT.sIx_none, show HT.sIx (ns.map V.int).length (ns.map V.int).length (some 63) = min 63 (ns.map V.int).length from HT.sIx_nat _ _ 63, List.drop_zero, List.length_map, List.take_of_length_le (by rw [List.length_map]; omega)]
    rw [cut]
    refine ⟨p, rfl, ⟨_, SqL.of upd_same⟩, fun D hD => ?_⟩
    have pD : p ≠ D := fun e => by rw [← e, upd_same] at hD; cases hD
    refine lc_list (K := K) (a := p) (xs := ns.map V.int) (fun i H1 => (∀ b o, H b = some o → H1 b = some o) ∧ H1 p = some (.lst (ns.map V.int)) ∧ H1 D = some (.lst ((ns.take i).map fun z => V.int (if z < 0 then -z else z)))) ?_ (fun i H1 _ h => SqL.of h.2.1) ?_ ?_
    · exact ⟨fun b o e => by rw [upd_ne (ne_of_none (by rw [upd_ne (ne_of_none e np)]; exact e) hD), upd_ne (ne_of_none e np)]; exact e, by rw [upd_ne pD]; exact upd_same, upd_same⟩
    · rintro i y H1 hi ⟨s1, e1, e2⟩
      obtain ⟨z, hz, rfl⟩ : ∃ z, ns[i]? = some z ∧ y = V.int z := by
        rw [List.getElem?_map] at hi
        cases e : ns[i]? with
        | none => rw [e] at hi; cases hi
        | some z => rw [e] at hi; exact ⟨z, rfl, (Option.some.inj hi).symm⟩
      have hn : i < ns.length := (List.getElem?_eq_some_iff.mp hz).1
      refine ⟨rfl, _, rfl, z, rfl, _, e2, ?_, ?_⟩
      · rw [List.length_map, List.length_take]
        exact small1000 (by omega)
      · refine ⟨fun b o e => ?_, by rw [upd_ne pD]; exact e1, ?_⟩
        · have : b ≠ D := ne_of_none (H := upd H p (.lst (ns.map V.int))) (by rw [upd_ne (ne_of_none e np)]; exact e) hD
          rw [upd_ne this]
          exact s1 b o e
        · rw [upd_same, List.take_add_one, hz, List.map_append]
          rfl
    · rintro H1 ⟨s1, e1, e2⟩
      refine ⟨by show 4 ≤ sizeLine; decide, fun b nb => ?_⟩
      rw [List.length_map, List.take_length] at e2
      refine q b _ ⟨D, ns.map fun z => if z < 0 then -z else z, 0, 1234567891, 0, ?_⟩ fun c o e => by rw [upd_ne (ne_of_none (s1 c o e) nb)]; exact s1 c o e
      refine ⟨upd_same, ?_, ne_of_none e2 nb, by decide, by decide, fun z hz => ?_⟩
      · rw [upd_ne (ne_of_none e2 nb), e2, List.map_map]
        rfl
      · obtain ⟨x, _, rfl⟩ := List.mem_map.mp hz
        split <;> omega
end
end Fv


set_option Elab.async false
set_option linter.all false
set_option maxRecDepth 100000
set_option maxHeartbeats 1000000
namespace Fv
open PySem PySem.Spec PyProof.Rows L2
def shortD : PyData → Prop := fun _ => True
theorem same_upd {H : Hp} {p : Addr} {o : HO} (h : H p = none) : Same H (upd H p o) := fun b x e => by
  rw [upd_ne (ne_of_none e h)]
  exact e
theorem Dq.plain {H : Hp} {b : Addr} {v : V} {d : PyData} (h : Dq H b v d) : Plain v := by
  cases h <;> first | exact .inl rfl | exact .inr ⟨_, rfl⟩
theorem Fine.line {d : PyData} (h : Fine d) : d.shown.length ≤ sizeLine := Nat.le_trans h.len (by decide)
theorem Fine.low {d : PyData} (h : Fine d) : d.depth ≤ 20 := Nat.le_trans h.deep (by decide)
end Fv


set_option Elab.async false
set_option linter.all false
set_option maxRecDepth 100000
set_option maxHeartbeats 2000000
namespace Fv
open PySem PySem.Spec PyProof.Rows L2
abbrev sOdd : Stmt := top 50
def ten (n : Nat) : Int := 10 ^ n
theorem int_zeros : ∀ n : Nat, n < 40 → PySem.intText? ("1" ++ zeros n) = some (ten n) ∧ (("1" : Str) ++ zeros n).length ≤ 640 := by decide +kernel
def oddD (n : Nat) (nm : Str) : List PyData := [.int 0, .int 1, .int (-1), .int (ten n), .int (-(ten n)), .bool true, .bool false, .none, .str "", .str "a", .str nm, .str (nm ++ "z"), .str "abcdefgh",
  .str "abcdefghi", .str "A", .str "a1", .str "a b",
  .str "plain", .str "high", .str "low", .str "Plain", .list [], .tuple [], .dict [], .list [.int 1], .tuple [.int 0], .tuple [.str nm], .dict [(.str nm, .int 1)], .list [.str nm], .tuple [.str "", .str "", .int 0]]
def NameOk (z : Str) : Prop := z.length ≤ 100 ∧ ∀ c ∈ z.cps.toList, c < 128
theorem NameOk.ok {z : Str} (h : NameOk z) : okS z := ⟨by have := h.1; omega, h.2⟩
theorem NameOk.more {z : Str} (h : NameOk z) : okS (z ++ "z") := by
  refine ⟨?_, ?_⟩
  · have e : ("z" : Str).length = 1 := by decide +kernel
    rw [strLen_append, e]
    have := h.1
    omega
  · intro c hc
    have e : (z ++ "z" : Str).cps.toList = z.cps.toList ++ ("z" : Str).cps.toList := by
      show (z.cps ++ _).toList = _
      simp
    rw [e] at hc
    rcases List.mem_append.mp hc with q | q
    · exact h.2 c q
    · have : ∀ c ∈ ("z" : Str).cps.toList, c < 128 := by decide +kernel
      exact this c q
def okB (z : Str) : Bool := decide (z.length ≤ 1000) && z.cps.toList.all fun c => decide (c < 128)
theorem okS_of {z : Str} (h : okB z = true) : okS z := by
  unfold okB at h
  simp only [Bool.and_eq_true, decide_eq_true_eq, List.all_eq_true] at h
  exact h
theorem fine_ten : ∀ n : Nat, n < 40 → (PyData.int (ten n)).showable = true ∧ (PyData.int (ten n)).shown.length ≤ 20000 ∧ (PyData.int (-(ten n))).showable = true ∧ (PyData.int (-(ten n))).shown.length ≤ 20000 := by decide +kernel
def Nice (d : PyData) : Prop := Fine d ∧ shortD d
theorem nice_str {z : Str} (h : okS z) : Nice (.str z) := ⟨Fine.str h, True.intro⟩
theorem fine_dec {d : PyData} (h : (d.showable && decide (d.shown.length ≤ 20000) && decide (d.depth ≤ 3)) = true) : Fine d := by
  simp only [Bool.and_eq_true, decide_eq_true_eq] at h
  exact ⟨h.1.1, h.1.2, h.2⟩
theorem odd_nice {n : Nat} {nm : Str} (hn : n < 40) (h : NameOk nm) : ∀ d ∈ oddD n nm, Nice d := by
  obtain ⟨t1, t2, t3, t4⟩ := fine_ten n hn
  intro d hd
  unfold oddD at hd
  simp only [List.mem_cons, List.not_mem_nil, or_false] at hd
  rcases hd with rfl | rfl | rfl | rfl | rfl | rfl | rfl | rfl | rfl | rfl | rfl | rfl | rfl | rfl | rfl | rfl | rfl | rfl | rfl | rfl | rfl | rfl | rfl | rfl | rfl | rfl | rfl | rfl | rfl | rfl
  · exact ⟨fine_dec (by decide +kernel), True.intro⟩
  · exact ⟨fine_dec (by decide +kernel), True.intro⟩
  · exact ⟨fine_dec (by decide +kernel), True.intro⟩
  · exact ⟨⟨t1, t2, by simp [PyData.depth]⟩, True.intro⟩
  · exact ⟨⟨t3, t4, by simp [PyData.depth]⟩, True.intro⟩
  · exact ⟨fine_dec (by decide +kernel), True.intro⟩
  · exact ⟨fine_dec (by decide +kernel), True.intro⟩
  · exact ⟨fine_dec (by decide +kernel), True.intro⟩
  · (refine nice_str (okS_of ?_); decide +kernel)
  · (refine nice_str (okS_of ?_); decide +kernel)
  · exact nice_str h.ok
  · exact nice_str h.more
  · (refine nice_str (okS_of ?_); decide +kernel)
  · (refine nice_str (okS_of ?_); decide +kernel)
  · (refine nice_str (okS_of ?_); decide +kernel)
  · (refine nice_str (okS_of ?_); decide +kernel)
  · (refine nice_str (okS_of ?_); decide +kernel)
  · (refine nice_str (okS_of ?_); decide +kernel)
  · (refine nice_str (okS_of ?_); decide +kernel)
  · (refine nice_str (okS_of ?_); decide +kernel)
  · (refine nice_str (okS_of ?_); decide +kernel)
  · exact ⟨fine_dec (by decide +kernel), True.intro⟩
  · exact ⟨fine_dec (by decide +kernel), True.intro⟩
  · exact ⟨fine_dec (by decide +kernel), True.intro⟩
  · exact ⟨fine_dec (by decide +kernel), True.intro⟩
  · exact ⟨fine_dec (by decide +kernel), True.intro⟩
  · exact ⟨Fine.one_tup h.ok, True.intro⟩
  · exact ⟨Fine.one_dct h.ok, True.intro⟩
  · exact ⟨Fine.one_lst h.ok, True.intro⟩
  · exact ⟨fine_dec (by decide +kernel), True.intro⟩
end Fv


set_option Elab.async false
set_option linter.all false
set_option maxRecDepth 100000
set_option maxHeartbeats 4000000
namespace Fv
open PySem PySem.Spec PyProof.Rows L2
def odd17 (n : Nat) (nm : Str) : List V := [.int 0, .int 1, .int (-1), .int (ten n), .int (-ten n), .bl true, .bl false, .non, .str "", .str "a", .str nm, .str (nm ++ "z"), .str "abcdefgh", .str "abcdefghi", .str "A", .str "a1", .str "a b"]
def spOdd : Sp := fun vs H Q _ => ∃ (b : Addr) (nm : Str), vs = [.ref b, .str nm] ∧ Bag H b ∧ NameOk nm ∧ ∀ (v : V) (d : PyData) (H' : Hp), Dq H' b v d → Nice d → Bag H' b → Keep b H H' → (∀ c, BagAt H b c → BagAt H' b c) → Q v H'
theorem item {H Hf : Hp} {p b a : Addr} {o : HO} (n : H a = none) (hp : ∃ u, H p = some u) (hb : ∃ u, H b = some u) (k : Keep p (upd H a o) Hf) : Hf a = some o ∧ a ≠ b := by
  obtain ⟨u, hp⟩ := hp
  obtain ⟨u', hb⟩ := hb
  exact ⟨k a o (ne_of_none hp n).symm upd_same, (ne_of_none hb n).symm⟩
theorem there {H H' : Hp} {a : Addr} (k : Same H H') (h : ∃ u, H a = some u) : ∃ u, H' a = some u := by
  obtain ⟨u, h⟩ := h
  exact ⟨u, k _ _ h⟩
theorem same_twice {H : Hp} {a : Addr} {o u : HO} (n : H a = none) : Same H (upd (upd H a o) a u) := fun c v e => by
  have z := ne_of_none e n
  rw [upd_ne z, upd_ne z]
  exact e
def odd30 (n : Nat) (nm : Str) (a1 a2 a3 a4 a5 a6 a7 a8 a9 : Addr) : List V := [.int 0, .int 1, .int (-1), .int (ten n), .int (-ten n), .bl true, .bl false, .non, .str "", .str "a", .str nm, .str (nm ++ "z"), .str "abcdefgh", .str "abcdefghi", .str "A", .str "a1", .str "a b",
  .str "plain", .str "high", .str "low", .str "Plain", .ref a1, .ref a2, .ref a3, .ref a4, .ref a5, .ref a6, .ref a7, .ref a8, .ref a9]
theorem odd_all {H : Hp} {b : Addr} {n : Nat} {nm : Str} {a1 a2 a3 a4 a5 a6 a7 a8 a9 : Addr} (g1 : H a1 = some (.lst [])) (b1 : a1 ≠ b) (m1 : a1 ≠ sysModules) (g2 : H a2 = some (.tup [])) (b2 : a2 ≠ b) (g3 : H a3 = some (.dK [])) (b3 : a3 ≠ b) (g4 : H a4 = some (.lst [.int 1])) (b4 : a4 ≠ b) (m4 : a4 ≠ sysModules)
    (g5 : H a5 = some (.tup [.int 0])) (b5 : a5 ≠ b) (g6 : H a6 = some (.tup [.str nm])) (b6 : a6 ≠ b) (g7 : H a7 = some (.dK [(Sum.inr nm, .int 1)])) (b7 : a7 ≠ b) (g8 : H a8 = some (.lst [.str nm])) (b8 : a8 ≠ b) (m8 : a8 ≠ sysModules) (g9 : H a9 = some (.tup [.str "", .str "", .int 0])) (b9 : a9 ≠ b) :
    DqAll H b (odd30 n nm a1 a2 a3 a4 a5 a6 a7 a8 a9) (oddD n nm) :=
  .cons (.int _) (.cons (.int _) (.cons (.int _) (.cons (.int _) (.cons (.int _) (.cons (.bl _) (.cons (.bl _) (.cons .non (.cons (.str _) (.cons (.str _) (.cons (.str _) (.cons (.str _) (.cons (.str _)
    (.cons (.str _) (.cons (.str _) (.cons (.str _) (.cons (.str _) (.cons (.str _) (.cons (.str _) (.cons (.str _) (.cons (.str _)
    (.cons (.lst g1 b1 m1 .nil) (.cons (.tup g2 b2 .nil) (.cons (.dct g3 b3 .nil .nil) (.cons (.lst g4 b4 m4 (.cons (.int _) .nil)) (.cons (.tup g5 b5 (.cons (.int _) .nil)) (.cons (.tup g6 b6 (.cons (.str _) .nil))
    (.cons (.dct g7 b7 (.cons (.str _) .nil) (.cons (.int _) .nil)) (.cons (.lst g8 b8 m8 (.cons (.str _) .nil)) (.cons (.tup g9 b9 (.cons (.str _) (.cons (.str _) (.cons (.int _) .nil)))) .nil)))))))))))))))))))))))))))))
theorem Keep.same {p : Addr} {H H' : Hp} (s : Same H H') : Keep p H H' := fun a o _ e => s a o e
theorem Bag.at_b {H : Hp} {b : Addr} (B : Bag H b) : ∃ o, H b = some o := by
  obtain ⟨c, cs, p, s, i, B⟩ := B
  exact ⟨_, B.at_⟩
theorem BagAt.same {H H' : Hp} {b c : Addr} (B : BagAt H b c) (k : Same H H') : BagAt H' b c := by
  obtain ⟨cs, p, s, i, B⟩ := B
  exact ⟨cs, p, s, i, k _ _ B.at_, k _ _ B.cells, B.ne, B.p0, B.s0, B.cs0⟩
theorem Bag.same {H H' : Hp} {b : Addr} (B : Bag H b) (k : Same H H') : Bag H' b := by
  obtain ⟨c, cs, p, s, i, B⟩ := B
  exact ⟨c, cs, p, s, i, k _ _ B.at_, k _ _ B.cells, B.ne, B.p0, B.s0, B.cs0⟩
section
variable {P : Program} {w : World} {K : PySem.W.Frag} {mg : Str → Option Value} {base : Heap}
theorem scO : FnScope ["_law_bag_here", "_law_name_here", "_law_wide", "_law_plain"] ["_law_bag_here", "_law_name_here"] (defScope sOdd) := ⟨rfl, rfl, rfl, by decide +kernel, rfl, by decide +kernel, by decide +kernel⟩
theorem ok_odd {f fT : Addr} {fd fdT : FuncData} (F : Fun K "_law_odd" "_law_odd" sOdd f fd) (GT : FnOk P w K mg base CX0 1 fT fdT ["_law_bag_here", "_law_many"] spTake) (bT : Binds K fdT ["_law_bag_here", "_law_many"] []) (mT : mg "_law_take" = some (.ref fT)) (kT : PySem.W.keepIn K (.ref fT) = true)
    (mi : mg "int" = none) (ml : mg "len" = none) : FnOk P w K mg base CX0 2 f fd ["_law_bag_here", "_law_name_here"] spOdd := by
  refine F.ok scO (fun vs H Q E h => ?_) (fun cdv A outer s H vs Q E hr h => ?_)
  · obtain ⟨b, nm, rfl, _⟩ := h
    rfl
  · obtain ⟨b, nm, rfl, B, hnm, q⟩ := h
    refine ⟨_, pss_cons (ps_set (i := 2) scO.nd rfl (.inl rfl) (pe_callTy call_int_str (by rfl) mi (by decide +kernel) (pa_cons (pe_op op_add_str pe_str (pe_op op_zeros pe_str (pe_call GT hr (by rfl) mT kT bT .nil pass0 (pa_cons (pv 0) (pa_cons pe_int pa_nil))))) pa_nil)))
      (pss_cons (ps_set (i := 3) scO.nd rfl (.inl rfl) (pe_lstB (pa_cons pe_int (pa_cons pe_int (pa_cons (pe_un un_neg pe_int) (pa_cons (pv 2) (pa_cons (pe_un un_neg (pv 2)) (pa_cons pe_bl (pa_cons pe_bl (pa_cons pe_non (pa_cons pe_str (pa_cons pe_str (pa_cons (pv 1) (pa_cons (pe_op op_add_str (pv 1) pe_str) (pa_cons pe_str pa_nil)))))))))))))))
      (pss_cons (ps_aug (i := 3) scO.nd rfl (.inl rfl) (pe_lstB (pa_cons pe_str (pa_cons pe_str (pa_cons pe_str (pa_cons pe_str pa_nil))))) iop_ext)
      (pss_cons (ps_aug (i := 3) scO.nd rfl (.inl rfl) (pe_lstB (pa_cons pe_str (pa_cons pe_str (pa_cons pe_str (pa_cons pe_str (pa_cons (pe_lstB pa_nil) (pa_cons (pe_tup pa_nil) (pa_cons pe_dnewK (pa_cons (pe_lstB (pa_cons pe_int pa_nil)) (pa_cons (pe_tup (pa_cons pe_int pa_nil)) (pa_cons (pe_tup (pa_cons (pv 1) pa_nil))
          (pa_cons (pe_disp (pps_cons (pv 1) pe_int pps_nil) (by rfl) (by rfl) (fun z => by cases z) (by decide)) (pa_cons (pe_lstB (pa_cons (pv 1) pa_nil)) (pa_cons (pe_tup (pa_cons pe_str (pa_cons pe_str (pa_cons pe_int pa_nil)))) pa_nil)))))))))))))) iop_ext)
      (pss_one (ps_ret (pe_ix ix_list (pv 3) (pe_call GT hr (by rfl) mT kT bT .nil pass0 (pa_cons (pv 0) (pa_cons (pe_callB call_len_seq (by rfl) ml PySem.boot_len (pa_cons (pv 3) pa_nil)) pa_nil))) (fun _ _ => rfl))))))), ?_⟩
    refine ⟨_, rfl, b, 40, rfl, B, by decide, by decide, fun n H1 hn B1 k1 gs1 => ?_⟩
    have hn' : n < 40 := by omega
    obtain ⟨it, il⟩ := int_zeros n hn'
    refine ⟨n, rfl, rfl, by omega, _, _, rfl, rfl, Nat.le_trans (by rw [← strLen_append]; exact il) (by decide), _, _, rfl, it, il, ?_⟩
    refine ⟨_, rfl, _, rfl, _, rfl, _, rfl, _, rfl, _, rfl, _, _, rfl, rfl, ?_, by show 13 ≤ sizeLine; decide, fun p np mp => ?_⟩
    · have h1 := hnm.1
      have h2 : ("z" : Str).length = 1 := by decide +kernel
      have h3 : 101 ≤ sizeLine := by decide
      rw [h2]
      omega
    have pb : p ≠ b := by
      obtain ⟨o, e⟩ := B1.at_b
      exact (ne_of_none e np).symm
    dsimp only
    refine cutK (fun σ' H2 => σ' = [some (.ref b), some (.str nm), some (.int (ten n)), some (.ref p)] ∧ Same H1 H2 ∧ H2 p = some (.lst (odd17 n nm))) ?_ (fun k => ?_)
    · rintro σ' H2 ⟨rfl, s2, hp⟩
      have B2 : Bag H2 b := B1.same s2
      obtain ⟨ob, hb⟩ := B2.at_b
      refine ⟨_, rfl, Nat.zero_le _, fun a1 n1 m1 => ?_⟩
      refine ⟨Nat.zero_le _, fun a2 n2 => ?_⟩
      refine fun a3 n3 => ?_
      refine ⟨by show 1 ≤ sizeLine; decide, fun a4 n4 m4 => ?_⟩
      refine ⟨by show 1 ≤ sizeLine; decide, fun a5 n5 => ?_⟩
      refine ⟨_, rfl, by show 1 ≤ sizeLine; decide, fun a6 n6 => ?_⟩
      refine fun a7 n7 => ?_
      refine ⟨_, rfl, upd_same, [(Sum.inr nm, .int 1)], rfl, by show 1 ≤ 15; decide, ?_⟩
      refine ⟨_, rfl, by show 1 ≤ sizeLine; decide, fun a8 n8 m8 => ?_⟩
      refine ⟨by show 3 ≤ sizeLine; decide, fun a9 n9 => ?_⟩
      refine ⟨by show 13 ≤ sizeLine; decide, fun p3 n10 _ => ?_⟩
      have t1 := same_upd (o := .lst []) n1
      have t2 := same_upd (o := .tup []) n2
      have t3 := same_upd (o := .dK []) n3
      have t4 := same_upd (o := .lst [.int 1]) n4
      have t5 := same_upd (o := .tup [.int 0]) n5
      have t6 := same_upd (o := .tup [.str nm]) n6
      have t7 := same_twice (o := .dK []) (u := .dK [(Sum.inr nm, .int 1)]) n7
      have t8 := same_upd (o := .lst [.str nm]) n8
      have t9 := same_upd (o := .tup [.str "", .str "", .int 0]) n9
      have t10 := same_upd (o := .lst [.str "plain", .str "high", .str "low", .str "Plain", .ref a1, .ref a2, .ref a3, .ref a4, .ref a5, .ref a6, .ref a7, .ref a8, .ref a9]) n10
      have p0 : ∃ u, H2 p = some u := ⟨_, hp⟩
      have p1 := there t1 p0
      have p2 := there t2 p1
      have p3' := there t3 p2
      have p4 := there t4 p3'
      have p5 := there t5 p4
      have p6 := there t6 p5
      have p7 := there t7 p6
      have p8 := there t8 p7
      have c0 : ∃ u, H2 b = some u := ⟨_, hb⟩
      have c1 := there t1 c0
      have c2 := there t2 c1
      have c3 := there t3 c2
      have c4 := there t4 c3
      have c5 := there t5 c4
      have c6 := there t6 c5
      have c7 := there t7 c6
      have c8 := there t8 c7
      have hp9 := t9 _ _ (t8 _ _ (t7 _ _ (t6 _ _ (t5 _ _ (t4 _ _ (t3 _ _ (t2 _ _ (t1 _ _ hp))))))))
      have pp3 := ne_of_none hp9 n10
      refine ⟨p, p3, _, _, rfl, rfl, by rw [upd_ne pp3]; exact hp9, upd_same, by show 30 ≤ sizeLine; decide, ?_⟩
      have K9 : Keep p _ (upd _ p (.lst (odd30 n nm a1 a2 a3 a4 a5 a6 a7 a8 a9))) := (Keep.same (p := p) t10).trans Keep.upd
      have K8 := (Keep.same (p := p) t9).trans K9
      have K7 := (Keep.same (p := p) t8).trans K8
      have K6 := (Keep.same (p := p) t7).trans K7
      have K5 := (Keep.same (p := p) t6).trans K6
      have K4 := (Keep.same (p := p) t5).trans K5
      have K3 := (Keep.same (p := p) t4).trans K4
      have K2 := (Keep.same (p := p) t3).trans K3
      have K1 := (Keep.same (p := p) t2).trans K2
      have K0 := (Keep.same (p := p) t1).trans K1
      obtain ⟨g1, b1⟩ := item n1 p0 c0 K1
      obtain ⟨g2, b2⟩ := item n2 p1 c1 K2
      obtain ⟨g3, b3⟩ := item n3 p2 c2 K3
      obtain ⟨g4, b4⟩ := item n4 p3' c3 K4
      obtain ⟨g5, b5⟩ := item n5 p4 c4 K5
      obtain ⟨g6, b6⟩ := item n6 p5 c5 K6
      have b7 : a7 ≠ b := by
        obtain ⟨u, e⟩ := c6
        exact (ne_of_none e n7).symm
      have g7 := K7 a7 _ (by
        obtain ⟨u, e⟩ := p6
        exact (ne_of_none e n7).symm) upd_same
      obtain ⟨g8, b8⟩ := item n8 p7 c7 K8
      obtain ⟨g9, b9⟩ := item n9 p8 c8 K9
      have sf : Same H1 _ := fun a o e => K0 a o (ne_of_none e np) (s2 a o e)
      have Bf := B1.same sf
      refine ⟨_, rfl, _, rfl, _, rfl, p, _, rfl, .inl (SqL.of upd_same), b, 30, rfl, Bf, by decide, by decide, fun r H' r1 B' k' gs2 => ?_⟩
      have hD := odd_all (n := n) (nm := nm) g1 b1 m1 g2 b2 g3 b3 g4 b4 m4 g5 b5 g6 b6 g7 b7 g8 b8 m8 g9 b9
      have hr30 : r < (odd30 n nm a1 a2 a3 a4 a5 a6 a7 a8 a9).length := by show r < 30; omega
      obtain ⟨d, md, dq⟩ := hD.get (List.getElem?_eq_getElem hr30)
      refine ⟨p, odd30 n nm a1 a2 a3 a4 a5 a6 a7 a8 a9, r, _, rfl, rfl, SqL.of (k' p _ pb upd_same), atI_nat (List.getElem?_eq_getElem hr30), ?_⟩
      refine q _ d H' (dq.mono k') (odd_nice hn' hnm d md) B' ((k1.trans (Keep.same sf)).trans k') fun c hc => gs2 c ((gs1 c hc).same sf)
    · refine ⟨_, rfl, by show 4 ≤ sizeLine; decide, fun p2 np2 _ => ?_⟩
      have pp2 : p ≠ p2 := ne_of_none upd_same np2
      refine ⟨p, p2, _, _, rfl, rfl, by rw [upd_ne pp2]; exact upd_same, upd_same, by show 17 ≤ sizeLine; decide, ?_⟩
      refine k _ _ ⟨rfl, fun a o e => ?_, upd_same⟩
      have z1 : a ≠ p := ne_of_none e np
      have z2 : a ≠ p2 := ne_of_none (by rw [upd_ne z1]; exact e) np2
      rw [upd_ne z1, upd_ne z2, upd_ne z1]
      exact e
end
end Fv


set_option Elab.async false
set_option linter.all false
set_option maxRecDepth 100000
set_option maxHeartbeats 2000000
namespace Fv
open PySem PySem.Spec PyProof.Rows L2
abbrev sMixed : Stmt := top 43
abbrev sNumber : Stmt := top 45
theorem list_cons_perm {α : Type} (i : Nat) (y : α) (xs : List α) : (xs.take i ++ [y] ++ xs.drop i).Perm (y :: xs) := by
  have h : (xs.take i ++ [y] ++ xs.drop i).Perm ([y] ++ xs.take i ++ xs.drop i) := List.Perm.append_right _ List.perm_append_comm
  have e : [y] ++ xs.take i ++ xs.drop i = y :: xs := by
    rw [List.append_assoc, List.take_append_drop]
    rfl
  exact e ▸ h
theorem BagAt.uniq {H : Hp} {b c d : Addr} (h : BagAt H b c) (g : BagAt H b d) : d = c := by
  obtain ⟨cs, p, s, i, B⟩ := h
  exact B.same g
/-- the items of a row, in another order -/
def spMixed (K : PySem.W.Frag) : Sp := fun vs H Q _ => ∃ (b a : Addr) (xs : List V), vs = [.ref b, .ref a] ∧ Bag H b ∧ a ≠ b ∧ H a = some (.lst xs) ∧ xs.length ≤ 60 ∧
  ∀ (p : Addr) (ys : List V) (H' : Hp), H p = none → p ≠ sysModules → H' p = some (.lst ys) → ys.Perm xs → Bag H' b → Keep b H H' → (∀ c, BagAt H b c → BagAt H' b c) → Q (.ref p) H'
section
variable {P : Program} {w : World} {K : PySem.W.Frag} {mg : Str → Option Value} {base : Heap}
theorem scMx : FnScope ["_law_bag_here", "_law_things", "_law_found", "_law_thing"] ["_law_bag_here", "_law_things"] (defScope sMixed) := ⟨rfl, rfl, rfl, by decide +kernel, rfl, by decide +kernel, by decide +kernel⟩
theorem ok_mixed {f fT : Addr} {fd fdT : FuncData} (F : Fun K "_law_mixed" "_law_mixed" sMixed f fd) (GT : FnOk P w K mg base CX0 1 fT fdT ["_law_bag_here", "_law_many"] spTake) (bT : Binds K fdT ["_law_bag_here", "_law_many"] []) (mT : mg "_law_take" = some (.ref fT)) (kT : PySem.W.keepIn K (.ref fT) = true)
    (ml : mg "len" = none) : FnOk P w K mg base CX0 2 f fd ["_law_bag_here", "_law_things"] (spMixed K) := by
  refine F.ok scMx (fun vs H Q E h => ?_) (fun cdv A outer s H vs Q E hr h => ?_)
  · obtain ⟨b, a, xs, rfl, _⟩ := h
    rfl
  · obtain ⟨b, a, xs, rfl, B, ab, ha, hl, q⟩ := h
    have hr1 : Room 1 _ := hr.mono (by decide)
    refine ⟨_, pss_cons (ps_set (i := 2) scMx.nd rfl (.inl rfl) (pe_lstB pa_nil))
      (pss_cons (ps_for PassesOwn.never rfl (pi_list (pv 1)) (pg_name (i := 3) scMx.nd rfl (.inl rfl))
        (pss_one (ps_expr (pe_bm PySem.F.plainAttrs_list PySem.F.slot_list_insert PySem.F.type_list_insert mt_insert (pv 2)
          (pa_cons (pe_call GT hr1 (by rfl) mT kT bT .nil pass0 (pa_cons (pv 0) (pa_cons (pe_op op_add (pe_callB call_len_seq (by rfl) ml PySem.boot_len (pa_cons (pv 2) pa_nil)) pe_int) pa_nil))) (pa_cons (pv 3) pa_nil))))))
      (pss_one (ps_ret (pv 2)))), ?_⟩
    obtain ⟨c0, B0⟩ := B
    refine ⟨Nat.zero_le _, fun p np mp => ?_⟩
    obtain ⟨B1, pb, pc⟩ := BagAt.new (o := .lst []) B0 np
    have ea : (upd H p (.lst [])) a = some (.lst xs) := by rw [upd_ne (ne_of_none ha np)]; exact ha
    have pa : a ≠ p := ne_of_none ha np
    refine ⟨_, rfl, a, rfl, ⟨_, SqL.of ea⟩, ?_⟩
    refine for_list (K := K) (a := a) (xs := xs) (fun i σ H' => ∃ y : Option V, σ = [some (.ref b), some (.ref a), some (.ref p), y] ∧ BagAt H' b c0 ∧ Keep b H H' ∧ H' a = some (.lst xs) ∧ ∃ ys : List V, H' p = some (.lst ys) ∧ ys.Perm (xs.take i))
      ⟨none, rfl, B1, Keep.new np, ea, [], upd_same, .nil⟩ (fun i σ H' _ h => ?_) ?_ ?_
    · obtain ⟨y, _, _, _, e, _⟩ := h
      exact SqL.of e
    · rintro i x σ H2 hx ⟨y, rfl, B2, k2, e2, ys, ep, pe⟩
      have hi : i < xs.length := (List.getElem?_eq_some_iff.mp hx).1
      have hys : ys.length = i := by rw [pe.length_eq, List.length_take]; omega
      refine ⟨_, rfl, .inl ⟨rfl, _, SqL.of ep⟩, _, rfl, _, rfl, p, ys, rfl, .inl (SqL.of ep), _, _, rfl, rfl, b, _, rfl, B2.bag, by omega, by omega, fun r H3 h3 B3 k3 g3 => ?_⟩
      refine ⟨_, rfl, p, ys, r, x, rfl, rfl, k3 _ _ pb ep, small1000 (by omega), by omega, by omega, ?_⟩
      refine ⟨some x, rfl, (g3 _ B2).put pb pc, fun c o n e => ?_, ?_, _, upd_same, ?_⟩
      · rw [upd_ne (ne_of_none e np)]
        exact k3 c o n (k2 c o n e)
      · rw [upd_ne pa]
        exact k3 _ _ ab e2
      · rw [List.take_add_one, hx]
        exact (list_cons_perm _ _ _).trans ((List.Perm.cons x pe).trans (List.perm_append_singleton x (xs.take i)).symm)
    · rintro σ H2 ⟨y, rfl, B2, k2, e2, ys, ep, pe⟩
      rw [List.take_length] at pe
      refine ⟨_, rfl, ?_⟩
      exact q p ys H2 np mp ep pe B2.bag k2 fun c hc => by rw [BagAt.uniq B0 hc]; exact B2
/-! ### a number -/
theorem ten_le : ∀ n : Nat, n < 40 → 2 ≤ ten n + 1 ∧ ten n ≤ 10 ^ 39 := by decide +kernel
def spNumber : Sp := fun vs H Q _ => ∃ b : Addr, vs = [.ref b] ∧ Bag H b ∧ ∀ (z : Int) (H' : Hp), -(10 ^ 39) ≤ z → z ≤ 10 ^ 39 → Bag H' b → Keep b H H' → (∀ c, BagAt H b c → BagAt H' b c) → Q (.int z) H'
theorem scNb : FnScope ["_law_bag_here", "_law_wide"] ["_law_bag_here"] (defScope sNumber) := ⟨rfl, rfl, rfl, by decide +kernel, rfl, by decide +kernel, by decide +kernel⟩
theorem ok_number {f fT : Addr} {fd fdT : FuncData} (F : Fun K "_law_number" "_law_number" sNumber f fd) (GT : FnOk P w K mg base CX0 1 fT fdT ["_law_bag_here", "_law_many"] spTake) (bT : Binds K fdT ["_law_bag_here", "_law_many"] []) (mT : mg "_law_take" = some (.ref fT)) (kT : PySem.W.keepIn K (.ref fT) = true)
    (mi : mg "int" = none) : FnOk P w K mg base CX0 2 f fd ["_law_bag_here"] spNumber := by
  refine F.ok scNb (fun vs H Q E h => ?_) (fun cdv A outer s H vs Q E hr h => ?_)
  · obtain ⟨b, rfl, _⟩ := h
    rfl
  · obtain ⟨b, rfl, B, q⟩ := h
    have hr1 : Room 1 _ := hr.mono (by decide)
    refine ⟨_, pss_cons (ps_if (pt_cmpR op_eq (pe_call GT hr1 (by rfl) mT kT bT .nil pass0 (pa_cons (pv 0) (pa_cons pe_int pa_nil))) pe_int (nomark _))
        (pss_cons (ps_set (i := 1) scNb.nd rfl (.inl rfl) (pe_op op_sub (pe_callTy call_int_str (by rfl) mi (by decide +kernel) (pa_cons (pe_op op_add_str pe_str (pe_op op_zeros pe_str (pe_op op_add pe_int (pe_call GT hr1 (by rfl) mT kT bT .nil pass0 (pa_cons (pv 0) (pa_cons pe_int pa_nil)))))) pa_nil)) (pe_call GT hr1 (by rfl) mT kT bT .nil pass0 (pa_cons (pv 0) (pa_cons pe_int pa_nil)))))
        (pss_one (ps_ret (pe_ifExp (pt_cmpR op_eq (pe_call GT hr1 (by rfl) mT kT bT .nil pass0 (pa_cons (pv 0) (pa_cons pe_int pa_nil))) pe_int (nomark _)) (pv 1) (pe_un un_neg (pv 1)))))) pss_nil)
      (pss_one (ps_ret (pe_op op_sub (pe_call GT hr1 (by rfl) mT kT bT .nil pass0 (pa_cons (pv 0) (pa_cons pe_int pa_nil))) pe_int))), ?_⟩
    refine ⟨_, rfl, b, 12, rfl, B, by decide, by decide, fun r H1 h1 B1 k1 g1 => ?_⟩
    refine ⟨rfl, _, rfl, ite2 (fun e => ?_) (fun e => ?_)⟩
    · refine ⟨_, rfl, b, 38, rfl, B1, by decide, by decide, fun n H2 h2 B2 k2 g2 => ?_⟩
      have hn : 1 + n < 40 := by omega
      obtain ⟨it, il⟩ := int_zeros (1 + n) hn
      obtain ⟨t0, t1⟩ := ten_le (1 + n) hn
      refine ⟨_, _, rfl, rfl, 1 + n, rfl, congrArg V.int (by omega), by omega, _, _, rfl, rfl, Nat.le_trans (by rw [← strLen_append]; exact il) (by decide), _, _, rfl, it, il, ?_⟩
      refine ⟨_, rfl, b, 2, rfl, B2, by decide, by decide, fun d H3 h3 B3 k3 g3 => ⟨_, _, rfl, rfl, ?_⟩⟩
      refine ⟨_, rfl, b, 2, rfl, B3, by decide, by decide, fun o H4 h4 B4 k4 g4 => ?_⟩
      have kk : Keep b H H4 := ((k1.trans k2).trans k3).trans k4
      have gg : ∀ c, BagAt H b c → BagAt H4 b c := fun c hc => g4 c (g3 c (g2 c (g1 c hc)))
      refine ⟨rfl, _, rfl, ite2 (fun e => ?_) (fun e => ?_)⟩
      · exact ⟨_, rfl, q _ H4 (by omega) (by omega) B4 kk gg⟩
      · exact ⟨_, rfl, _, rfl, q _ H4 (by omega) (by omega) B4 kk gg⟩
    · refine ⟨_, rfl, b, 9, rfl, B1, by decide, by decide, fun n H2 h2 B2 k2 g2 => ⟨_, _, rfl, rfl, ?_⟩⟩
      exact q _ H2 (by omega) (by omega) B2 (k1.trans k2) fun c hc => g2 c (g1 c hc)
end
end Fv


set_option Elab.async false
set_option linter.all false
set_option maxRecDepth 100000
set_option maxHeartbeats 1000000
/-! data in which instances of one own class may stand (told as None: what is asked of them is the same) -/
namespace Fv
open PySem PySem.Spec PyProof.Rows L2
mutual
inductive Dx (C : Addr) (H : Hp) (b : Addr) : V → PyData → Prop
  | non : Dx C H b .non .none
  | bl (x : Bool) : Dx C H b (.bl x) (.bool x)
  | int (i : Int) : Dx C H b (.int i) (.int i)
  | str (x : Str) : Dx C H b (.str x) (.str x)
  | obj {a dx : Addr} {fs : List (Str × V)} : H a = some (.ins C dx fs) → a ≠ b → Dx C H b (.ref a) .none
  | lst {a : Addr} {xs : List V} {ds : List PyData} : H a = some (.lst xs) → a ≠ b → DxAll C H b xs ds → Dx C H b (.ref a) (.list ds)
  | tup {a : Addr} {xs : List V} {ds : List PyData} : H a = some (.tup xs) → a ≠ b → DxAll C H b xs ds → Dx C H b (.ref a) (.tuple ds)
  | dct {a : Addr} {kvs : List (Key × V)} {ps : List (PyData × PyData)} : H a = some (.dK kvs) → a ≠ b → Dx C H b (.ref a) (.dict ps)
inductive DxAll (C : Addr) (H : Hp) (b : Addr) : List V → List PyData → Prop
  | nil : DxAll C H b [] []
  | cons {v : V} {vs : List V} {d : PyData} {ds : List PyData} : Dx C H b v d → DxAll C H b vs ds → DxAll C H b (v :: vs) (d :: ds)
end
mutual
theorem Dx.mono {C : Addr} {H H' : Hp} {b : Addr} (k : ∀ a o, a ≠ b → H a = some o → H' a = some o) : ∀ {v : V} {d : PyData}, Dx C H b v d → Dx C H' b v d
  | _, _, .non => .non
  | _, _, .bl x => .bl x
  | _, _, .int i => .int i
  | _, _, .str x => .str x
  | _, _, .obj e n => .obj (k _ _ n e) n
  | _, _, .lst e n h => .lst (k _ _ n e) n (DxAll.mono k h)
  | _, _, .tup e n h => .tup (k _ _ n e) n (DxAll.mono k h)
  | _, _, .dct e n => .dct (k _ _ n e) n
theorem DxAll.mono {C : Addr} {H H' : Hp} {b : Addr} (k : ∀ a o, a ≠ b → H a = some o → H' a = some o) : ∀ {v : List V} {d : List PyData}, DxAll C H b v d → DxAll C H' b v d
  | _, _, .nil => .nil
  | _, _, .cons h t => .cons (Dx.mono k h) (DxAll.mono k t)
end
mutual
theorem Dq.x {C : Addr} {H : Hp} {b : Addr} : ∀ {v : V} {d : PyData}, Dq H b v d → Dx C H b v d
  | _, _, .non => .non
  | _, _, .bl x => .bl x
  | _, _, .int i => .int i
  | _, _, .str x => .str x
  | _, _, .lst e n _ h => .lst e n (DqAll.x h)
  | _, _, .tup e n h => .tup e n (DqAll.x h)
  | _, _, .dct e n _ _ => .dct e n
theorem DqAll.x {C : Addr} {H : Hp} {b : Addr} : ∀ {v : List V} {d : List PyData}, DqAll H b v d → DxAll C H b v d
  | _, _, .nil => .nil
  | _, _, .cons h t => .cons (Dq.x h) (DqAll.x t)
end
theorem DxAll.len {C : Addr} {H : Hp} {b : Addr} : ∀ {v : List V} {d : List PyData}, DxAll C H b v d → v.length = d.length
  | _, _, .nil => rfl
  | _, _, .cons _ t => by rw [List.length_cons, List.length_cons, DxAll.len t]
theorem DxAll.get {C : Addr} {H : Hp} {b : Addr} : ∀ {v : List V} {d : List PyData} {i : Nat} {x : V}, DxAll C H b v d → v[i]? = some x → ∃ e, d[i]? = some e ∧ Dx C H b x e
  | _, _, 0, _, .cons h _, e => ⟨_, rfl, by cases e; exact h⟩
  | _, _, i + 1, _, .cons _ t, e => DxAll.get (i := i) t e
theorem DxAll.at_ {C : Addr} {H : Hp} {b : Addr} : ∀ {v : List V} {d : List PyData} {i : Nat} {e : PyData}, DxAll C H b v d → d[i]? = some e → ∃ x, v[i]? = some x ∧ Dx C H b x e
  | _, _, 0, _, .cons h _, e => ⟨_, rfl, by cases e; exact h⟩
  | _, _, i + 1, _, .cons _ t, e => DxAll.at_ (i := i) t e
/-- what the written part says of that class -/
structure KFn (K : PySem.W.Frag) (C : Addr) : Prop where
  cl : Cls K C
  ha : PySem.W.findIn K (.ref C) "__class__" = some (some (.builtin "object.__class__"))
  hn : PySem.W.specialIn K (.builtin "object.__class__") "__get__" = some (some (.builtin "getset_descriptor.__get__"))
  htk : PySem.W.takesIn K (.builtin "object.__class__") = some true
  hm : PySem.W.mroIn K C (.type "object") = some true
  kI : PySem.W.kitOne K (.ref C) (.type "int") = some false
  kB : PySem.W.kitOne K (.ref C) (.type "bool") = some false
  kS : PySem.W.kitOne K (.ref C) (.type "str") = some false
  kL : PySem.W.kitOne K (.ref C) (.type "list") = some false
  kT : PySem.W.kitOne K (.ref C) (.type "tuple") = some false
def isListD : PyData → Bool
  | .list _ => true
  | _ => false
def isTupD : PyData → Bool
  | .tuple _ => true
  | _ => false
def rowD (d : PyData) : Bool := isListD d || isTupD d
theorem kit_list {K : PySem.W.Frag} (d : PyData) : PySem.W.kitOne K (.type (tyN d)) (.type "list") = some (isListD d) := by
  cases d
  · exact kit_ty (a := "NoneType") (b := "list") (r := false) (by decide +kernel)
  · exact kit_ty (a := "bool") (b := "list") (r := false) (by decide +kernel)
  · exact kit_ty (a := "int") (b := "list") (r := false) (by decide +kernel)
  · exact kit_ty (a := "str") (b := "list") (r := false) (by decide +kernel)
  · exact kit_ty (a := "list") (b := "list") (r := true) (by decide +kernel)
  · exact kit_ty (a := "tuple") (b := "list") (r := false) (by decide +kernel)
  · exact kit_ty (a := "dict") (b := "list") (r := false) (by decide +kernel)
theorem kit_tup {K : PySem.W.Frag} (d : PyData) : PySem.W.kitOne K (.type (tyN d)) (.type "tuple") = some (isTupD d) := by
  cases d
  · exact kit_ty (a := "NoneType") (b := "tuple") (r := false) (by decide +kernel)
  · exact kit_ty (a := "bool") (b := "tuple") (r := false) (by decide +kernel)
  · exact kit_ty (a := "int") (b := "tuple") (r := false) (by decide +kernel)
  · exact kit_ty (a := "str") (b := "tuple") (r := false) (by decide +kernel)
  · exact kit_ty (a := "list") (b := "tuple") (r := false) (by decide +kernel)
  · exact kit_ty (a := "tuple") (b := "tuple") (r := true) (by decide +kernel)
  · exact kit_ty (a := "dict") (b := "tuple") (r := false) (by decide +kernel)
structure Isa (K : PySem.W.Frag) (H : Hp) (v : V) (d : PyData) (t : Value) : Prop where
  ty : TyX K H v t
  i : PySem.W.kitOne K t (.type "int") = some (isIntD d)
  b : PySem.W.kitOne K t (.type "bool") = some (isBoolD d)
  s : PySem.W.kitOne K t (.type "str") = some (isStrD d)
  l : PySem.W.kitOne K t (.type "list") = some (isListD d)
  t : PySem.W.kitOne K t (.type "tuple") = some (isTupD d)
theorem Dx.isa {K : PySem.W.Frag} {C : Addr} {H : Hp} {b : Addr} {v : V} {d : PyData} (T : KFn K C) (h : Dx C H b v d) : ∃ t, Isa K H v d t := by
  have base : ∀ {v : V}, TyX K H v (.type (tyN d)) → ∃ t, Isa K H v d t := fun y => ⟨_, y, kit_int d, kit_bool d, kit_str d, kit_list d, kit_tup d⟩
  cases h with
  | non => exact base (.base .non)
  | bl x => exact base (.base (.bl x))
  | int i => exact base (.base (.int i))
  | str x => exact base (.base (.str x))
  | obj e n => exact ⟨_, .base (.ins e T.cl T.ha T.hn T.htk T.hm), T.kI, T.kB, T.kS, T.kL, T.kT⟩
  | lst e _ _ => exact base (.base (.lst e))
  | tup e _ _ => exact base (.base (.tup e))
  | dct e _ => exact base (.base (.dK e))
theorem Dx.str_of {C : Addr} {H : Hp} {b : Addr} {v : V} {d : PyData} (h : Dx C H b v d) (e : isStrD d = true) : ∃ z, v = .str z ∧ d = .str z := by
  cases h <;> first | exact ⟨_, rfl, rfl⟩ | cases e
theorem Dx.tup_of {C : Addr} {H : Hp} {b : Addr} {v : V} {d : PyData} (h : Dx C H b v d) (e : isTupD d = true) : ∃ a xs ds, v = .ref a ∧ d = .tuple ds ∧ H a = some (.tup xs) ∧ DxAll C H b xs ds := by
  cases h with
  | tup e1 n h => exact ⟨_, _, _, rfl, rfl, e1, h⟩
  | _ => cases e
/-- a list or a tuple: its items -/
theorem Dx.row_of {K : PySem.W.Frag} {C : Addr} {H : Hp} {b : Addr} {v : V} {d : PyData} (h : Dx C H b v d) (e : rowD d = true) : ∃ a xs ds, v = .ref a ∧ (d = .tuple ds ∨ d = .list ds) ∧ (SqL K H a xs ∨ SqT K H a xs) ∧ DxAll C H b xs ds := by
  cases h with
  | tup e1 n h => exact ⟨_, _, _, rfl, .inl rfl, .inr (SqT.of e1), h⟩
  | lst e1 n h => exact ⟨_, _, _, rfl, .inr rfl, .inl (SqL.of e1), h⟩
  | _ => cases e
/-! ### how large -/
mutual
def okD : PyData → Prop
  | .str z => z.length ≤ 1000 ∧ ∀ c ∈ z.cps.toList, c < 128
  | .list ds => ds.length ≤ 60 ∧ okAll ds
  | .tuple ds => ds.length ≤ 60 ∧ okAll ds
  | _ => True
def okAll : List PyData → Prop
  | [] => True
  | d :: ds => okD d ∧ okAll ds
end
theorem okAll.mem : ∀ {ds : List PyData}, okAll ds → ∀ d ∈ ds, okD d
  | d :: ds, h, x, hx => by
    rcases List.mem_cons.mp hx with rfl | hx
    · exact h.1
    · exact okAll.mem h.2 x hx
/-! ### integers, names, sources -/
abbrev sIsInt : Stmt := top 11
abbrev sIsName : Stmt := top 12
abbrev sIsSource : Stmt := top 13
abbrev sIsRow : Stmt := top 16
def abc : Str := "abcdefghijklmnopqrstuvwxyz"
def nameS (z : Str) : Bool := decide (1 ≤ z.length) && decide (z.length ≤ 8) && z.cps.toList.all fun c => decide (c ∈ abc.cps.toList)
def nameD : PyData → Bool
  | .str z => nameS z
  | _ => false
def emptyD : PyData → Bool
  | .str z => decide (z.length = 0)
  | _ => false
def sourceD (d : PyData) : Bool := nameD d || emptyD d
def intD (d : PyData) : Bool := isIntD d && !isBoolD d
theorem name_not {d : PyData} (h : isStrD d = false) : nameD d = false := by cases d <;> first | rfl | cases h
theorem empty_not {d : PyData} (h : isStrD d = false) : emptyD d = false := by cases d <;> first | rfl | cases h
theorem small_line {n : Nat} (h : n ≤ 1000) : n ≤ sizeLine := Nat.le_of_lt (small1000 h)
def spX (C : Addr) (g : PyData → Bool) : Sp := fun vs H Q _ => ∃ (b : Addr) (v : V) (d : PyData), vs = [v] ∧ Dx C H b v d ∧ okD d ∧ (∃ o, H b = some o) ∧ ∀ H', Same H H' → Q (.bl (g d)) H'
section
variable {P : Program} {w : World} {K : PySem.W.Frag} {mg : Str → Option Value} {base : Heap} {C : Addr}
theorem sc1 : FnScope ["thing"] ["thing"] (defScope sIsInt) := ⟨rfl, rfl, rfl, by decide +kernel, rfl, by decide +kernel, by decide +kernel⟩
theorem ok_isint {f : Addr} {fd : FuncData} (T : KFn K C) (F : Fun K "is_integer" "is_integer" sIsInt f fd) (mq : mg "isinstance" = none) (mi : mg "int" = none) (mb : mg "bool" = none) : FnOk P w K mg base CX0 1 f fd ["thing"] (spX C intD) := by
  refine F.ok sc1 (fun vs H Q E h => ?_) (fun cdv A outer s H vs Q E hr h => ?_)
  · obtain ⟨b, v, d, rfl, _⟩ := h
    rfl
  · obtain ⟨b, v, d, rfl, hd, _, _, q⟩ := h
    obtain ⟨t, I⟩ := hd.isa T
    refine ⟨_, pss_one (ps_ret (pe_and (pe_callB call_isi (by rfl) mq (by decide +kernel) (pa_cons (pv 0) (pa_cons (pe_bltn (v := .ty "int") (by rfl) mi boot_int rfl) pa_nil)))
      (pe_one (pe_not (pe_callB call_isi (by rfl) mq (by decide +kernel) (pa_cons (pv 0) (pa_cons (pe_bltn (v := .ty "bool") (by rfl) mb boot_bool rfl) pa_nil))))))), ?_⟩
    refine ⟨_, rfl, _, _, _, _, _, rfl, .ty "int", I.ty, I.i, _, rfl, ?_⟩
    have e : intD d = (isIntD d && !isBoolD d) := rfl
    rw [e] at q
    cases h1 : isIntD d with
    | false =>
      rw [h1] at q
      exact q H fun _ _ e => e
    | true =>
      rw [h1] at q
      exact ⟨_, rfl, _, _, _, _, _, rfl, .ty "bool", I.ty, I.b, _, rfl, q H fun _ _ e => e⟩
theorem sc2 : FnScope ["thing", "letter"] ["thing"] (defScope sIsName) := ⟨rfl, rfl, rfl, by decide +kernel, rfl, by decide +kernel, by decide +kernel⟩
theorem ok_isname {f : Addr} {fd : FuncData} {t u : Tok} (T : KFn K C) (F : Fun K "is_name" "is_name" sIsName f fd) (mq : mg "isinstance" = none) (ms : mg "str" = none) (ml : mg "len" = none) (ma : mg "all" = none)
    (mL : mg "LETTERS" = some (.str abc t)) (mN : mg "LONGEST_NAME" = some (.int 8 u)) : FnOk P w K mg base CX0 1 f fd ["thing"] (spX C nameD) := by
  refine F.ok sc2 (fun vs H Q E h => ?_) (fun cdv A outer s H vs Q E hr h => ?_)
  · obtain ⟨b, v, d, rfl, _⟩ := h
    rfl
  · obtain ⟨b, v, d, rfl, hd, hs, hb, q⟩ := h
    obtain ⟨t', I⟩ := hd.isa T
    refine ⟨_, pss_cons (ps_if (PW.pt (pw_or (pt_not (pt_val (pe_callB call_isi (by rfl) mq (by decide +kernel) (pa_cons (pv 0) (pa_cons (pe_bltn (v := .ty "str") (by rfl) ms boot_str rfl) pa_nil)))))
        (pw_or1 (pt_not (pt_chain op_le op_le pe_int (pe_callB call_len_str (by rfl) ml PySem.boot_len (pa_cons (pv 0) pa_nil)) (pe_glob (v := .int 8) (by rfl) mN ⟨_, rfl⟩))))))
        (pss_one (ps_ret pe_bl)) pss_nil)
      (pss_one (ps_ret (pe_callB (cr_all rfl) (by rfl) ma (by decide +kernel) (pa_cons
        (pe_lc (own := [("letter", 1)]) (g := gName 1) (tt := tYes) rfl sc2.nd (pi_str (pv 0)) (blkOk_by (N := ["thing", "letter"]) (sc := defScope sIsName) (by decide +kernel))
        (fun _ _ _ _ _ => pg_name (i := 1) sc2.nd rfl (Or.inl rfl)) (fun _ _ _ _ _ => pts_nil) (fun _ _ _ _ _ => pe_cmpR op_in_sign (pv 1) (pe_glob (v := .str abc) (by rfl) mL ⟨_, rfl⟩) (by rfl))) pa_nil)))), ?_⟩
    refine ⟨_, rfl, _, _, _, _, _, rfl, .ty "str", I.ty, I.s, _, rfl, ?_⟩
    cases h1 : isStrD d with
    | false =>
      rw [name_not h1] at q
      exact q H fun _ _ e => e
    | true =>
      obtain ⟨z, rfl, rfl⟩ := hd.str_of h1
      have hz : z.length ≤ sizeLine := small_line hs.1
      have e : nameD (.str z) = (decide (1 ≤ z.length) && decide (z.length ≤ 8) && z.cps.toList.all fun c => decide (c ∈ abc.cps.toList)) := rfl
      rw [e] at q
      refine ⟨_, rfl, z, rfl, hz, _, _, rfl, rfl, _, rfl, ?_⟩
      by_cases a1 : (1 : Int) ≤ (z.length : Int)
      · have b1 : decide (1 ≤ z.length) = true := decide_eq_true (by omega)
        rw [b1] at q
        rw [decide_eq_true a1]
        refine ⟨_, _, rfl, rfl, _, rfl, ?_⟩
        by_cases a2 : (z.length : Int) ≤ 8
        · have b2 : decide (z.length ≤ 8) = true := decide_eq_true (by omega)
          rw [b2] at q
          rw [decide_eq_true a2]
          refine iteF ?_
          refine ⟨_, rfl, z, rfl, fun D hD => ?_⟩
          refine lc_it walk_str (fun i H1 => Same H H1 ∧ H1 D = some (.lst ((z.cps.toList.take i).map fun c => V.bl (decide (c ∈ abc.cps.toList))))) ⟨same_upd hD, upd_same⟩ (fun _ _ _ _ => True.intro) ?_ ?_
          · rintro i x H1 H2 hi ⟨s1, e1⟩ ⟨rfl, c, hc, rfl⟩
            refine ⟨rfl, _, rfl, c, abc, rfl, rfl, _, e1, ?_, fun a o e => ?_, ?_⟩
            · rw [List.length_map, List.length_take]
              have : z.cps.toList.length = z.length := by simp [Str.length]
              exact small1000 (by have : z.length ≤ 1000 := hs.1; omega)
            · have : a ≠ D := ne_of_none e hD
              rw [upd_ne this]
              exact s1 a o e
            · have hc' : z.cps.toList[i]? = some c := by simpa using hc
              rw [upd_same, List.take_add_one, hc', List.map_append]
              rfl
          · rintro H1 ⟨s1, e1⟩
            have ez : z.cps.size = z.cps.toList.length := by simp
            rw [ez, List.take_length] at e1
            refine ⟨D, z.cps.toList.map fun c => decide (c ∈ abc.cps.toList), rfl, SqL.of (by rw [List.map_map]; exact e1), ?_⟩
            rw [List.all_map]
            exact q H1 s1
        · have b2 : decide (z.length ≤ 8) = false := decide_eq_false (by omega)
          rw [b2] at q
          rw [decide_eq_false a2]
          exact q H fun _ _ e => e
      · have b1 : decide (1 ≤ z.length) = false := decide_eq_false (by omega)
        rw [b1] at q
        rw [decide_eq_false a1]
        exact ⟨_, rfl, q H fun _ _ e => e⟩
theorem sc3 : FnScope ["thing"] ["thing"] (defScope sIsSource) := ⟨rfl, rfl, rfl, by decide +kernel, rfl, by decide +kernel, by decide +kernel⟩
theorem ok_issource {f f1 : Addr} {fd fd1 : FuncData} (T : KFn K C) (F : Fun K "is_source" "is_source" sIsSource f fd) (G : FnOk P w K mg base CX0 1 f1 fd1 ["thing"] (spX C nameD)) (b1 : Binds K fd1 ["thing"] []) (m1 : mg "is_name" = some (.ref f1)) (k1 : PySem.W.keepIn K (.ref f1) = true)
    (mq : mg "isinstance" = none) (ms : mg "str" = none) (ml : mg "len" = none) : FnOk P w K mg base CX0 2 f fd ["thing"] (spX C sourceD) := by
  refine F.ok sc3 (fun vs H Q E h => ?_) (fun cdv A outer s H vs Q E hr h => ?_)
  · obtain ⟨b, v, d, rfl, _⟩ := h
    rfl
  · obtain ⟨b, v, d, rfl, hd, hs, hb, q⟩ := h
    refine ⟨_, pss_one (ps_ret (pe_or (pe_call G hr (by rfl) m1 k1 b1 .nil pass0 (pa_cons (pv 0) pa_nil))
      (pe_one (pe_and (pe_callB call_isi (by rfl) mq (by decide +kernel) (pa_cons (pv 0) (pa_cons (pe_bltn (v := .ty "str") (by rfl) ms boot_str rfl) pa_nil)))
        (pe_one (pe_cmpR op_eq (pe_callB call_len_str (by rfl) ml PySem.boot_len (pa_cons (pv 0) pa_nil)) pe_int (nomark _))))))), ?_⟩
    refine ⟨_, rfl, b, v, d, rfl, hd, hs, hb, fun H1 s1 => ⟨_, rfl, ?_⟩⟩
    have e : sourceD d = (nameD d || emptyD d) := rfl
    rw [e] at q
    cases h0 : nameD d with
    | true =>
      rw [h0] at q
      exact q H1 s1
    | false =>
      rw [h0, Bool.false_or] at q
      have hd1 : Dx C H1 b v d := hd.mono fun a o _ e => s1 a o e
      obtain ⟨t', I⟩ := hd1.isa T
      refine iteF ⟨_, rfl, _, _, _, _, _, rfl, .ty "str", I.ty, I.s, _, rfl, ?_⟩
      cases h1 : isStrD d with
      | false =>
        rw [empty_not h1] at q
        exact q H1 s1
      | true =>
        obtain ⟨z, rfl, rfl⟩ := hd.str_of h1
        refine iteT ⟨_, rfl, z, rfl, small_line hs.1, rfl, ?_⟩
        have e2 : decide (V.int (z.length : Int) = V.int 0) = decide (z.length = 0) := by
          rw [Bool.eq_iff_iff]
          simp
        show Q (V.bl (decide (V.int (z.length : Int) = V.int 0))) H1
        rw [e2]
        exact q H1 s1
end
end Fv


set_option Elab.async false
set_option linter.all false
set_option maxRecDepth 100000
set_option maxHeartbeats 1000000
/-! rows: a list or a tuple, walked; parts of statements known -/
namespace L2
open PySem PySem.Spec PyProof.Rows
theorem SqL.same {K : PySem.W.Frag} {H H' : Hp} {a : Addr} {xs : List V} (s : ∀ c o, H c = some o → H' c = some o) (h : SqL K H a xs) : SqL K H' a xs := by
  rcases h with (h | ⟨o, h⟩) | h
  · exact .inl (.inl (s _ _ h))
  · exact .inl (.inr ⟨o, s _ _ h⟩)
  · exact .inr h
theorem SqT.same {K : PySem.W.Frag} {H H' : Hp} {a : Addr} {xs : List V} (s : ∀ c o, H c = some o → H' c = some o) (h : SqT K H a xs) : SqT K H' a xs := by
  rcases h with (h | ⟨o, h⟩) | h
  · exact .inl (.inl (s _ _ h))
  · exact .inl (.inr ⟨o, s _ _ h⟩)
  · exact .inr h
section
variable {X : Cx} {tg : Expr}
def iRow (K : PySem.W.Frag) (tl : TE) : TI := fun σ H R => tl σ H fun x H1 => ∃ a xs, x = .ref a ∧ (SqL K H1 a xs ∨ SqT K H1 a xs) ∧ ∀ J G, Walk J xs.length G (YAt xs) → (∀ H', (∀ c o, H1 c = some o → H' c = some o) → G H') → R J H1
/-- a name that holds a list or a tuple -/
theorem pi_row {l : Expr} {i : Nat} (hl : PE X l (tVar i)) : PI X tg l (iRow X.K (tVar i)) := by
  constructor
  intro pins s σ H R I h
  obtain ⟨v, e, a, xs, ev, hq, q⟩ := h
  rcases hq with hq | hq
  · exact (pi_list hl).run pins s σ H R I ⟨v, e, a, ev, ⟨xs, hq⟩, q _ _ walk_list fun H' s => hq.same s⟩
  · exact (pi_tup hl).run pins s σ H R I ⟨v, e, a, ev, ⟨xs, hq⟩, q _ _ walk_tup fun H' s => hq.same s⟩
end
end L2
namespace Fv
open PySem PySem.Spec PyProof.Rows L2
abbrev sAreParts : Stmt := top 30
abbrev sIsPart : Stmt := top 31
abbrev sIsSetting : Stmt := top 29
def pairD : PyData → Bool
  | .tuple [x, y] => sourceD x && intD y
  | _ => false
def tripD : PyData → Bool
  | .tuple [x, y, z] => nameD x && sourceD y && intD z
  | _ => false
def itemsD : PyData → List PyData
  | .tuple ds => ds
  | .list ds => ds
  | _ => []
def partsD (d : PyData) : Bool := rowD d && (itemsD d).all pairD
theorem pair_not {d : PyData} (h : isTupD d = false) : pairD d = false := by cases d <;> first | rfl | cases h
theorem trip_not {d : PyData} (h : isTupD d = false) : tripD d = false := by cases d <;> first | rfl | cases h
theorem pair_len {ds : List PyData} (h : ds.length ≠ 2) : pairD (.tuple ds) = false := by
  match ds, h with
  | [], _ => rfl
  | [_], _ => rfl
  | [_, _], h => exact absurd rfl h
  | _ :: _ :: _ :: _, _ => rfl
theorem trip_len {ds : List PyData} (h : ds.length ≠ 3) : tripD (.tuple ds) = false := by
  match ds, h with
  | [], _ => rfl
  | [_], _ => rfl
  | [_, _], _ => rfl
  | [_, _, _], h => exact absurd rfl h
  | _ :: _ :: _ :: _ :: _, _ => rfl
theorem len_of {n m : Nat} (e : ¬ ((!decide (V.int (n : Int) = V.int (m : Int))) = true)) : n = m := by
  rw [Bool.not_eq_true, Bool.not_eq_false'] at e
  have := V.int.inj (of_decide_eq_true e)
  omega
theorem DxAll.two {C : Addr} {H : Hp} {b : Addr} {x y : V} {ds : List PyData} (h : DxAll C H b [x, y] ds) : ∃ dx dy, ds = [dx, dy] ∧ Dx C H b x dx ∧ Dx C H b y dy := by
  cases h with
  | cons h1 h => cases h with
    | cons h2 h =>
      cases h
      exact ⟨_, _, rfl, h1, h2⟩
theorem DxAll.three {C : Addr} {H : Hp} {b : Addr} {x y z : V} {ds : List PyData} (h : DxAll C H b [x, y, z] ds) : ∃ dx dy dz, ds = [dx, dy, dz] ∧ Dx C H b x dx ∧ Dx C H b y dy ∧ Dx C H b z dz := by
  cases h with
  | cons h1 h => cases h with
    | cons h2 h => cases h with
      | cons h3 h =>
        cases h
        exact ⟨_, _, _, rfl, h1, h2, h3⟩
theorem two_of {xs : List V} (h : xs.length = 2) : ∃ x y, xs = [x, y] := by
  match xs, h with
  | [x, y], _ => exact ⟨x, y, rfl⟩
theorem three_of {xs : List V} (h : xs.length = 3) : ∃ x y z, xs = [x, y, z] := by
  match xs, h with
  | [x, y, z], _ => exact ⟨x, y, z, rfl⟩
section
variable {P : Program} {w : World} {K : PySem.W.Frag} {mg : Str → Option Value} {base : Heap} {C : Addr}
theorem sc5 : FnScope ["thing"] ["thing"] (defScope sIsRow) := ⟨rfl, rfl, rfl, by decide +kernel, rfl, by decide +kernel, by decide +kernel⟩
theorem ok_isrow {f : Addr} {fd : FuncData} (T : KFn K C) (F : Fun K "is_row" "is_row" sIsRow f fd) (mq : mg "isinstance" = none) (ml : mg "list" = none) (mt : mg "tuple" = none) : FnOk P w K mg base CX0 1 f fd ["thing"] (spX C rowD) := by
  refine F.ok sc5 (fun vs H Q E h => ?_) (fun cdv A outer s H vs Q E hr h => ?_)
  · obtain ⟨b, v, d, rfl, _⟩ := h
    rfl
  · obtain ⟨b, v, d, rfl, hd, _, _, q⟩ := h
    refine ⟨_, pss_one (ps_ret (pe_callB call_isiT (by rfl) mq (by decide +kernel) (pa_cons (pv 0) (pa_cons (pe_tup (pa_cons (pe_bltn (v := .ty "list") (by rfl) ml boot_list rfl) (pa_cons (pe_bltn (v := .ty "tuple") (by rfl) mt boot_tuple rfl) pa_nil))) pa_nil)))), ?_⟩
    refine ⟨_, rfl, by show 2 ≤ sizeLine; decide, fun p np => ?_⟩
    obtain ⟨t, I⟩ := (hd.mono fun a o _ e => same_upd (o := .tup [.ty "list", .ty "tuple"]) np a o e).isa T
    exact ⟨_, _, _, _, _, _, rfl, upd_same, .cons (.ty "list") (.cons (.ty "tuple") .nil), I.ty, kitAny_cons (r := rowD d) I.l (fun e => by
      refine kitAny_cons (r := rowD d) I.t (fun e2 => ?_) (fun e2 => ?_)
      · unfold rowD
        rw [e, e2]
        rfl
      · unfold rowD
        rw [e2, Bool.or_true]) (fun e => by
      unfold rowD
      rw [e]
      rfl), q _ (same_upd np)⟩
theorem sc6 : FnScope ["thing"] ["thing"] (defScope sIsPart) := ⟨rfl, rfl, rfl, by decide +kernel, rfl, by decide +kernel, by decide +kernel⟩
theorem ok_ispart {f fS fI : Addr} {fd fdS fdI : FuncData} (T : KFn K C) (F : Fun K "_is_part" "_is_part" sIsPart f fd)
    (GS : FnOk P w K mg base CX0 2 fS fdS ["thing"] (spX C sourceD)) (bS : Binds K fdS ["thing"] []) (mS : mg "is_source" = some (.ref fS)) (kS : PySem.W.keepIn K (.ref fS) = true)
    (GI : FnOk P w K mg base CX0 1 fI fdI ["thing"] (spX C intD)) (bI : Binds K fdI ["thing"] []) (mI : mg "is_integer" = some (.ref fI)) (kI : PySem.W.keepIn K (.ref fI) = true)
    (mq : mg "isinstance" = none) (mt : mg "tuple" = none) (ml : mg "len" = none) : FnOk P w K mg base CX0 3 f fd ["thing"] (spX C pairD) := by
  refine F.ok sc6 (fun vs H Q E h => ?_) (fun cdv A outer s H vs Q E hr h => ?_)
  · obtain ⟨b, v, d, rfl, _⟩ := h
    rfl
  · obtain ⟨b, v, d, rfl, hd, hs, hb, q⟩ := h
    obtain ⟨t, I⟩ := hd.isa T
    have hr1 : Room 1 _ := hr.mono (by decide)
    refine ⟨_, pss_cons (ps_if (PW.pt (pw_or (pt_not (pt_val (pe_callB call_isi (by rfl) mq (by decide +kernel) (pa_cons (pv 0) (pa_cons (pe_bltn (v := .ty "tuple") (by rfl) mt boot_tuple rfl) pa_nil)))))
        (pw_or1 (pt_cmpR op_ne (pe_callB call_len_seq (by rfl) ml PySem.boot_len (pa_cons (pv 0) pa_nil)) pe_int (nomark _)))))
        (pss_one (ps_ret pe_bl)) pss_nil)
      (pss_one (ps_ret (pe_and (pe_call GS hr (by rfl) mS kS bS .nil pass0 (pa_cons (pe_ix ix_tup (pv 0) pe_int (fun _ _ => rfl)) pa_nil))
        (pe_one (pe_call GI hr1 (by rfl) mI kI bI .nil pass0 (pa_cons (pe_ix ix_tup (pv 0) pe_int (fun _ _ => rfl)) pa_nil)))))), ?_⟩
    refine ⟨_, rfl, _, _, _, _, _, rfl, .ty "tuple", I.ty, I.t, _, rfl, ?_⟩
    cases h1 : isTupD d with
    | false =>
      rw [pair_not h1] at q
      exact q H fun _ _ e => e
    | true =>
      obtain ⟨a, xs, ds, rfl, rfl, e1, hx⟩ := hd.tup_of h1
      have hlen := hx.len
      refine ⟨_, rfl, a, xs, rfl, .inr (SqT.of e1), rfl, _, rfl, ite2 (fun e => ?_) (fun e => ?_)⟩
      · have n2 : ds.length ≠ 2 := fun z => by
          rw [hlen, z] at e
          exact absurd e (by decide)
        rw [pair_len n2] at q
        exact q H fun _ _ e => e
      · obtain ⟨x, y, rfl⟩ := two_of (len_of e)
        obtain ⟨dx, dy, rfl, h1, h2⟩ := hx.two
        · have hs2 : okD dx ∧ okD dy ∧ True := hs.2
          refine ⟨_, rfl, a, _, _, _, rfl, rfl, SqT.of e1, atI_nat (j := 0) rfl, b, x, dx, rfl, h1, hs2.1, hb, fun H1 s1 => ⟨_, rfl, ?_⟩⟩
          have ep : pairD (.tuple [dx, dy]) = (sourceD dx && intD dy) := rfl
          rw [ep] at q
          cases h3 : sourceD dx with
          | false =>
            rw [h3] at q
            exact q H1 s1
          | true =>
            rw [h3] at q
            refine ⟨_, rfl, a, _, _, _, rfl, rfl, SqT.of (s1 _ _ e1), atI_nat (j := 1) rfl, b, y, dy, rfl, h2.mono fun c o _ e => s1 c o e, hs2.2.1, there s1 hb, fun H2 s2 => ?_⟩
            exact q H2 (s1.trans s2)
theorem sc7 : FnScope ["thing"] ["thing"] (defScope sIsSetting) := ⟨rfl, rfl, rfl, by decide +kernel, rfl, by decide +kernel, by decide +kernel⟩
theorem ok_issetting {f fN fS fI : Addr} {fd fdN fdS fdI : FuncData} (T : KFn K C) (F : Fun K "_is_setting" "_is_setting" sIsSetting f fd)
    (GN : FnOk P w K mg base CX0 1 fN fdN ["thing"] (spX C nameD)) (bN : Binds K fdN ["thing"] []) (mN : mg "is_name" = some (.ref fN)) (kN : PySem.W.keepIn K (.ref fN) = true)
    (GS : FnOk P w K mg base CX0 2 fS fdS ["thing"] (spX C sourceD)) (bS : Binds K fdS ["thing"] []) (mS : mg "is_source" = some (.ref fS)) (kS : PySem.W.keepIn K (.ref fS) = true)
    (GI : FnOk P w K mg base CX0 1 fI fdI ["thing"] (spX C intD)) (bI : Binds K fdI ["thing"] []) (mI : mg "is_integer" = some (.ref fI)) (kI : PySem.W.keepIn K (.ref fI) = true)
    (mq : mg "isinstance" = none) (mt : mg "tuple" = none) (ml : mg "len" = none) : FnOk P w K mg base CX0 3 f fd ["thing"] (spX C tripD) := by
  refine F.ok sc7 (fun vs H Q E h => ?_) (fun cdv A outer s H vs Q E hr h => ?_)
  · obtain ⟨b, v, d, rfl, _⟩ := h
    rfl
  · obtain ⟨b, v, d, rfl, hd, hs, hb, q⟩ := h
    obtain ⟨t, I⟩ := hd.isa T
    have hr1 : Room 1 _ := hr.mono (by decide)
    refine ⟨_, pss_cons (ps_if (PW.pt (pw_or (pt_not (pt_val (pe_callB call_isi (by rfl) mq (by decide +kernel) (pa_cons (pv 0) (pa_cons (pe_bltn (v := .ty "tuple") (by rfl) mt boot_tuple rfl) pa_nil)))))
        (pw_or1 (pt_cmpR op_ne (pe_callB call_len_seq (by rfl) ml PySem.boot_len (pa_cons (pv 0) pa_nil)) pe_int (nomark _)))))
        (pss_one (ps_ret pe_bl)) pss_nil)
      (pss_one (ps_ret (pe_and (pe_call GN hr1 (by rfl) mN kN bN .nil pass0 (pa_cons (pe_ix ix_tup (pv 0) pe_int (fun _ _ => rfl)) pa_nil))
        (pe_and (pe_call GS hr (by rfl) mS kS bS .nil pass0 (pa_cons (pe_ix ix_tup (pv 0) pe_int (fun _ _ => rfl)) pa_nil))
        (pe_one (pe_call GI hr1 (by rfl) mI kI bI .nil pass0 (pa_cons (pe_ix ix_tup (pv 0) pe_int (fun _ _ => rfl)) pa_nil))))))), ?_⟩
    refine ⟨_, rfl, _, _, _, _, _, rfl, .ty "tuple", I.ty, I.t, _, rfl, ?_⟩
    cases h1 : isTupD d with
    | false =>
      rw [trip_not h1] at q
      exact q H fun _ _ e => e
    | true =>
      obtain ⟨a, xs, ds, rfl, rfl, e1, hx⟩ := hd.tup_of h1
      have hlen := hx.len
      refine ⟨_, rfl, a, xs, rfl, .inr (SqT.of e1), rfl, _, rfl, ite2 (fun e => ?_) (fun e => ?_)⟩
      · have n2 : ds.length ≠ 3 := fun z => by
          rw [hlen, z] at e
          exact absurd e (by decide)
        rw [trip_len n2] at q
        exact q H fun _ _ e => e
      · obtain ⟨x, y, z, rfl⟩ := three_of (len_of e)
        obtain ⟨dx, dy, dz, rfl, h1, h2, h4⟩ := hx.three
        · have hs2 : okD dx ∧ okD dy ∧ okD dz ∧ True := hs.2
          refine ⟨_, rfl, a, _, _, _, rfl, rfl, SqT.of e1, atI_nat (j := 0) rfl, b, x, dx, rfl, h1, hs2.1, hb, fun H1 s1 => ⟨_, rfl, ?_⟩⟩
          have ep : tripD (.tuple [dx, dy, dz]) = (nameD dx && sourceD dy && intD dz) := rfl
          rw [ep] at q
          cases h3 : nameD dx with
          | false =>
            rw [h3] at q
            exact q H1 s1
          | true =>
            rw [h3, Bool.true_and] at q
            refine iteT ⟨_, rfl, a, _, _, _, rfl, rfl, SqT.of (s1 _ _ e1), atI_nat (j := 1) rfl, b, y, dy, rfl, h2.mono fun c o _ e => s1 c o e, hs2.2.1, there s1 hb, fun H2 s2 => ⟨_, rfl, ?_⟩⟩
            cases h5 : sourceD dy with
            | false =>
              rw [h5] at q
              exact q H2 (s1.trans s2)
            | true =>
              rw [h5] at q
              refine ⟨_, rfl, a, _, _, _, rfl, rfl, SqT.of (s2 _ _ (s1 _ _ e1)), atI_nat (j := 2) rfl, b, z, dz, rfl, h4.mono fun c o _ e => s2 _ _ (s1 c o e), hs2.2.2.1, there (s1.trans s2) hb, fun H3 s3 => ?_⟩
              exact q H3 ((s1.trans s2).trans s3)
end
end Fv


set_option Elab.async false
set_option linter.all false
set_option maxRecDepth 100000
set_option maxHeartbeats 1000000
namespace Fv
open PySem PySem.Spec PyProof.Rows L2
theorem rows_items {d : PyData} {ds : List PyData} (h : d = .tuple ds ∨ d = .list ds) : itemsD d = ds := by rcases h with rfl | rfl <;> rfl
theorem rows_ok {d : PyData} {ds : List PyData} (h : d = .tuple ds ∨ d = .list ds) (k : okD d) : ds.length ≤ 60 ∧ okAll ds := by rcases h with rfl | rfl <;> exact k
theorem small60 {n : Nat} (h : n ≤ 60) : n < sizeLine := small1000 (by omega)
theorem take_map_snoc {α β : Type} {f : α → β} {xs : List α} {i : Nat} {x : α} (h : xs[i]? = some x) : (xs.take (i + 1)).map f = (xs.take i).map f ++ [f x] := by
  rw [List.take_add_one, h, List.map_append]
  rfl
section
variable {P : Program} {w : World} {K : PySem.W.Frag} {mg : Str → Option Value} {base : Heap} {C : Addr}
theorem sc8 : FnScope ["thing", "part"] ["thing"] (defScope sAreParts) := ⟨rfl, rfl, rfl, by decide +kernel, rfl, by decide +kernel, by decide +kernel⟩
theorem ok_areparts {f fR fP : Addr} {fd fdR fdP : FuncData} (F : Fun K "_are_parts" "_are_parts" sAreParts f fd)
    (GR : FnOk P w K mg base CX0 1 fR fdR ["thing"] (spX C rowD)) (bR : Binds K fdR ["thing"] []) (mR : mg "is_row" = some (.ref fR)) (kR : PySem.W.keepIn K (.ref fR) = true)
    (GP : FnOk P w K mg base CX0 3 fP fdP ["thing"] (spX C pairD)) (bP : Binds K fdP ["thing"] []) (mP : mg "_is_part" = some (.ref fP)) (kP : PySem.W.keepIn K (.ref fP) = true)
    (ma : mg "all" = none) : FnOk P w K mg base CX0 4 f fd ["thing"] (spX C partsD) := by
  refine F.ok sc8 (fun vs H Q E h => ?_) (fun cdv A outer s H vs Q E hr h => ?_)
  · obtain ⟨b, v, d, rfl, _⟩ := h
    rfl
  · obtain ⟨b, v, d, rfl, hd, hs, hb, q⟩ := h
    have hr1 : Room 1 _ := hr.mono (by decide)
    refine ⟨_, pss_one (ps_ret (pe_and (pe_call GR hr1 (by rfl) mR kR bR .nil pass0 (pa_cons (pv 0) pa_nil))
      (pe_one (pe_callB (cr_all rfl) (by rfl) ma (by decide +kernel) (pa_cons
        (pe_lc (own := [("part", 1)]) (g := gName 1) (tt := tYes) rfl sc8.nd (pi_row (pv 0)) (blkOk_by (N := ["thing", "part"]) (sc := defScope sAreParts) (by decide +kernel))
        (fun _ _ _ _ _ => pg_name (i := 1) sc8.nd rfl (Or.inl rfl)) (fun _ _ _ _ _ => pts_nil) (fun _ _ _ _ _ => pe_call GP hr (by rfl) mP kP bP .nil pass0 (pa_cons (pv 1) pa_nil))) pa_nil))))), ?_⟩
    refine ⟨_, rfl, b, v, d, rfl, hd, hs, hb, fun H1 s1 => ⟨_, rfl, ?_⟩⟩
    have e : partsD d = (rowD d && (itemsD d).all pairD) := rfl
    rw [e] at q
    cases h0 : rowD d with
    | false =>
      rw [h0] at q
      exact q H1 s1
    | true =>
      rw [h0, Bool.true_and] at q
      have hd1 : Dx C H1 b v d := hd.mono fun a o _ e => s1 a o e
      obtain ⟨a, xs, ds, rfl, hdd, hrow, hx⟩ := hd1.row_of (K := K) h0
      rw [rows_items hdd] at q
      obtain ⟨hl, hok⟩ := rows_ok hdd hs
      have hlen := hx.len
      refine ⟨_, rfl, a, xs, rfl, hrow, fun J G wk hG D hD => ?_⟩
      refine lc_it wk (fun i H' => Same H1 H' ∧ H' D = some (.lst ((ds.take i).map fun d => V.bl (pairD d)))) ⟨same_upd hD, upd_same⟩ (fun i H' _ h => hG H' h.1) ?_ ?_
      · rintro i x H' H2 hi ⟨s', e'⟩ ⟨rfl, hxi⟩
        obtain ⟨dx, hdi, hdx⟩ := hx.get hxi
        refine ⟨rfl, _, rfl, b, x, dx, rfl, hdx.mono fun c o _ e => s' c o e, hok.mem dx (List.mem_of_getElem? hdi), there (s1.trans s') hb, fun H3 s3 => ⟨_, s3 _ _ e', ?_, fun c o e => ?_, ?_⟩⟩
        · rw [List.length_map, List.length_take]
          exact small60 (by omega)
        · rw [upd_ne (ne_of_none e hD)]
          exact s3 _ _ (s' c o e)
        · rw [upd_same, take_map_snoc hdi]
      · rintro H2 ⟨s2, e2⟩
        rw [hlen, List.take_length] at e2
        refine ⟨D, ds.map pairD, rfl, SqL.of (by rw [List.map_map]; exact e2), ?_⟩
        rw [List.all_map]
        exact q H2 (s1.trans s2)
end
end Fv


set_option Elab.async false
set_option linter.all false
set_option maxRecDepth 100000
set_option maxHeartbeats 2000000
/-! is_statement, from what its helpers tell -/
namespace Fv
open PySem PySem.Spec PyProof.Rows L2
abbrev sIsSt : Stmt := top 20
def strS : PyData → Str
  | .str z => z
  | _ => ""
def headS : PyData → Str
  | .tuple (.str z :: _) => z
  | _ => ""
def setsD (d : PyData) : Bool := rowD d && (itemsD d).all tripD && decide ((itemsD d).map headS).Nodup
def namesD (d : PyData) : Bool := rowD d && (itemsD d).all nameD && decide ((itemsD d).map strS).Nodup
def setR : List PyData → Bool
  | [a] => setsD a
  | _ => false
def mostR : List PyData → Bool
  | [a, c] => nameD a && (partsD c && !(itemsD c).isEmpty)
  | _ => false
def callR : List PyData → Bool
  | [a, c, e] => nameD a && (partsD c && namesD e)
  | _ => false
/-- what stands behind the word of a statement -/
def restD (w : Str) (r : List PyData) : Bool :=
  if w = "skip" then r.isEmpty else if w = "set" then setR r else if w = "most" ∨ w = "least" then mostR r else if w = "call" then callR r else false
def stD : PyData → Bool
  | .tuple (.str w :: r) => restD w r
  | _ => false
theorem st_not {d : PyData} (h : isTupD d = false) : stD d = false := by cases d <;> first | rfl | cases h
theorem st_word {d : PyData} {r : List PyData} (h : isStrD d = false) : stD (.tuple (d :: r)) = false := by cases d <;> first | rfl | cases h
theorem rest_set {r : List PyData} (h : r.length ≠ 1) : setR r = false := by
  match r, h with
  | [], _ => rfl
  | [_], h => exact absurd rfl h
  | _ :: _ :: _, _ => rfl
theorem rest_most {r : List PyData} (h : r.length ≠ 2) : mostR r = false := by
  match r, h with
  | [], _ => rfl
  | [_], _ => rfl
  | [_, _], h => exact absurd rfl h
  | _ :: _ :: _ :: _, _ => rfl
theorem rest_call {r : List PyData} (h : r.length ≠ 3) : callR r = false := by
  match r, h with
  | [], _ => rfl
  | [_], _ => rfl
  | [_, _], _ => rfl
  | [_, _, _], h => exact absurd rfl h
  | _ :: _ :: _ :: _ :: _, _ => rfl
theorem one_of {xs : List V} (h : xs.length = 1) : ∃ x, xs = [x] := by
  match xs, h with
  | [x], _ => exact ⟨x, rfl⟩
theorem DxAll.one {C : Addr} {H : Hp} {b : Addr} {x : V} {ds : List PyData} (h : DxAll C H b [x] ds) : ∃ dx, ds = [dx] ∧ Dx C H b x dx := by
  cases h with
  | cons h1 h =>
    cases h
    exact ⟨_, rfl, h1⟩
theorem int_len {n m : Nat} : decide (V.int (n : Int) = V.int (m : Int)) = decide (n = m) := by
  rw [Bool.eq_iff_iff]
  simp
  omega
theorem str_dec {x y : Str} : decide (V.str x = V.str y) = decide (x = y) := by
  rw [Bool.eq_iff_iff]
  simp
section
variable {P : Program} {w : World} {K : PySem.W.Frag} {mg : Str → Option Value} {base : Heap} {C : Addr}
theorem sc9 : FnScope ["thing", "word"] ["thing"] (defScope sIsSt) := ⟨rfl, rfl, rfl, by decide +kernel, rfl, by decide +kernel, by decide +kernel⟩
theorem ok_isst {f fN fA fS fM : Addr} {fd fdN fdA fdS fdM : FuncData} (T : KFn K C) (F : Fun K "is_statement" "is_statement" sIsSt f fd)
    (GN : FnOk P w K mg base CX0 1 fN fdN ["thing"] (spX C nameD)) (bN : Binds K fdN ["thing"] []) (mN : mg "is_name" = some (.ref fN)) (kN : PySem.W.keepIn K (.ref fN) = true)
    (GA : FnOk P w K mg base CX0 4 fA fdA ["thing"] (spX C partsD)) (bA : Binds K fdA ["thing"] []) (mA : mg "_are_parts" = some (.ref fA)) (kA : PySem.W.keepIn K (.ref fA) = true)
    (GS : FnOk P w K mg base CX0 4 fS fdS ["thing"] (spX C setsD)) (bS : Binds K fdS ["thing"] []) (mS : mg "_are_settings" = some (.ref fS)) (kS : PySem.W.keepIn K (.ref fS) = true)
    (GM : FnOk P w K mg base CX0 2 fM fdM ["thing"] (spX C namesD)) (bM : Binds K fdM ["thing"] []) (mM : mg "are_names" = some (.ref fM)) (kM : PySem.W.keepIn K (.ref fM) = true)
    (mq : mg "isinstance" = none) (mt : mg "tuple" = none) (ms : mg "str" = none) (ml : mg "len" = none) : FnOk P w K mg base CX0 5 f fd ["thing"] (spX C stD) := by
  refine F.ok sc9 (fun vs H Q E h => ?_) (fun cdv A outer s H vs Q E hr h => ?_)
  · obtain ⟨b, v, d, rfl, _⟩ := h
    rfl
  · obtain ⟨b, v, d, rfl, hd, hs, hb, q⟩ := h
    obtain ⟨t, I⟩ := hd.isa T
    have hr1 : Room 1 _ := hr.mono (by decide)
    have hr2 : Room 2 _ := hr.mono (by decide)
    refine ⟨_, pss_cons (ps_if (PW.pt (pw_or (pt_not (pt_val (pe_callB call_isi (by rfl) mq (by decide +kernel) (pa_cons (pv 0) (pa_cons (pe_bltn (v := .ty "tuple") (by rfl) mt boot_tuple rfl) pa_nil)))))
        (pw_or (pt_cmpR op_eq (pe_callB call_len_seq (by rfl) ml PySem.boot_len (pa_cons (pv 0) pa_nil)) pe_int (nomark _))
        (pw_or1 (pt_not (pt_val (pe_callB call_isi (by rfl) mq (by decide +kernel) (pa_cons (pe_ix ix_tup (pv 0) pe_int (fun _ _ => rfl)) (pa_cons (pe_bltn (v := .ty "str") (by rfl) ms boot_str rfl) pa_nil)))))))))
        (pss_one (ps_ret pe_bl)) pss_nil)
      (pss_cons (ps_set (i := 1) sc9.nd rfl (.inl rfl) (pe_ix ix_tup (pv 0) pe_int (fun _ _ => rfl)))
      (pss_cons (ps_if (pt_cmpR op_eq (pv 1) pe_str (nomark _)) (pss_one (ps_ret (pe_cmpR op_eq (pe_callB call_len_seq (by rfl) ml PySem.boot_len (pa_cons (pv 0) pa_nil)) pe_int (nomark _)))) pss_nil)
      (pss_cons (ps_if (pt_cmpR op_eq (pv 1) pe_str (nomark _)) (pss_one (ps_ret (pe_and (pe_cmpR op_eq (pe_callB call_len_seq (by rfl) ml PySem.boot_len (pa_cons (pv 0) pa_nil)) pe_int (nomark _))
          (pe_one (pe_call GS hr (by rfl) mS kS bS .nil pass0 (pa_cons (pe_ix ix_tup (pv 0) pe_int (fun _ _ => rfl)) pa_nil)))))) pss_nil)
      (pss_cons (ps_if (PW.pt (pw_or (pt_cmpR op_eq (pv 1) pe_str (nomark _)) (pw_or1 (pt_cmpR op_eq (pv 1) pe_str (nomark _)))))
          (pss_one (ps_ret (pe_and (pe_cmpR op_eq (pe_callB call_len_seq (by rfl) ml PySem.boot_len (pa_cons (pv 0) pa_nil)) pe_int (nomark _))
            (pe_and (pe_call GN hr1 (by rfl) mN kN bN .nil pass0 (pa_cons (pe_ix ix_tup (pv 0) pe_int (fun _ _ => rfl)) pa_nil))
            (pe_and (pe_call GA hr (by rfl) mA kA bA .nil pass0 (pa_cons (pe_ix ix_tup (pv 0) pe_int (fun _ _ => rfl)) pa_nil))
            (pe_one (pe_cmpR op_gt (pe_callB call_len_seq (by rfl) ml PySem.boot_len (pa_cons (pe_ix ix_tup (pv 0) pe_int (fun _ _ => rfl)) pa_nil)) pe_int (nomark _)))))))) pss_nil)
      (pss_cons (ps_if (pt_cmpR op_eq (pv 1) pe_str (nomark _))
          (pss_one (ps_ret (pe_and (pe_cmpR op_eq (pe_callB call_len_seq (by rfl) ml PySem.boot_len (pa_cons (pv 0) pa_nil)) pe_int (nomark _))
            (pe_and (pe_call GN hr1 (by rfl) mN kN bN .nil pass0 (pa_cons (pe_ix ix_tup (pv 0) pe_int (fun _ _ => rfl)) pa_nil))
            (pe_and (pe_call GA hr (by rfl) mA kA bA .nil pass0 (pa_cons (pe_ix ix_tup (pv 0) pe_int (fun _ _ => rfl)) pa_nil))
            (pe_one (pe_call GM hr2 (by rfl) mM kM bM .nil pass0 (pa_cons (pe_ix ix_tup (pv 0) pe_int (fun _ _ => rfl)) pa_nil)))))))) pss_nil)
      (pss_one (ps_ret pe_bl))))))), ?_⟩
    refine ⟨_, rfl, _, _, _, _, _, rfl, .ty "tuple", I.ty, I.t, _, rfl, ?_⟩
    cases h1 : isTupD d with
    | false =>
      rw [st_not h1] at q
      exact q H fun _ _ e => e
    | true =>
      obtain ⟨a, xs, ds, rfl, rfl, e1, hx⟩ := hd.tup_of h1
      have hlen := hx.len
      cases hx with
      | nil =>
        refine ⟨_, rfl, a, _, rfl, .inr (SqT.of e1), rfl, _, rfl, ?_⟩
        exact q H fun _ _ e => e
      | @cons x0 xr d0 dr h0 hx =>
        have hlr := hx.len
        have hok : okD d0 ∧ okAll dr := hs.2
        have hl60 : dr.length + 1 ≤ 60 := hs.1
        refine ⟨_, rfl, a, _, rfl, .inr (SqT.of e1), rfl, _, rfl, ?_⟩
        have z0 : decide (V.int (((x0 :: xr).length : Nat) : Int) = V.int 0) = false := by
          refine (int_len (m := 0)).trans ?_
          rw [List.length_cons]
          exact decide_eq_false (by omega)
        rw [z0]
        obtain ⟨t0, I0⟩ := h0.isa T
        refine ⟨_, rfl, a, _, _, _, rfl, rfl, SqT.of e1, atI_nat (j := 0) rfl, _, _, _, _, _, rfl, .ty "str", I0.ty, I0.s, _, rfl, ?_⟩
        cases h2 : isStrD d0 with
        | false =>
          rw [st_word h2] at q
          exact q H fun _ _ e => e
        | true =>
          obtain ⟨z, rfl, rfl⟩ := h0.str_of h2
          have fin : stD (.tuple (.str z :: dr)) = restD z dr := rfl
          rw [fin] at q
          unfold restD at q
          have len1 : ∀ m : Nat, decide (V.int (((V.str z :: xr).length : Nat) : Int) = V.int ((m + 1 : Nat) : Int)) = decide (dr.length = m) := fun m => by
            rw [int_len, List.length_cons, hlr, Bool.eq_iff_iff]
            simp
          refine ⟨_, rfl, a, _, _, _, rfl, rfl, SqT.of e1, atI_nat (j := 0) rfl, ?_⟩
          refine ⟨_, rfl, rfl, _, rfl, ite2 (fun e => ?_) (fun e => ?_)⟩
          · rw [str_dec] at e
            rw [if_pos (of_decide_eq_true e)] at q
            refine ⟨_, rfl, a, _, rfl, .inr (SqT.of e1), rfl, ?_⟩
            have e3 : decide (V.int (((V.str z :: xr).length : Nat) : Int) = V.int 1) = dr.isEmpty := by
              refine (len1 0).trans ?_
              cases dr <;> rfl
            show Q (V.bl (decide (V.int (((V.str z :: xr).length : Nat) : Int) = V.int 1))) H
            rw [e3]
            exact q H fun _ _ e => e
          rw [str_dec] at e
          rw [if_neg (fun y => e (decide_eq_true y))] at q
          refine ⟨_, rfl, rfl, _, rfl, ite2 (fun e => ?_) (fun e => ?_)⟩
          · rw [str_dec] at e
            rw [if_pos (of_decide_eq_true e)] at q
            refine ⟨_, rfl, a, _, rfl, .inr (SqT.of e1), rfl, _, rfl, ?_⟩
            have l1 : decide (V.int (((V.str z :: xr).length : Nat) : Int) = V.int 2) = decide (dr.length = 1) := len1 1
            rw [l1]
            by_cases n : dr.length = 1
            · rw [decide_eq_true n]
              obtain ⟨x1, rfl⟩ := one_of (hlr.trans n)
              obtain ⟨d1, rfl, g1⟩ := hx.one
              have k1 : okD d1 := hok.2.1
              refine iteT ⟨_, rfl, a, _, _, _, rfl, rfl, SqT.of e1, atI_nat (j := 1) rfl, b, x1, d1, rfl, g1, k1, hb, fun H1 s1 => ?_⟩
              exact q H1 s1
            · rw [decide_eq_false n]
              rw [rest_set n] at q
              exact q H fun _ _ e => e
          rw [str_dec] at e
          rw [if_neg (fun y => e (decide_eq_true y))] at q
          refine ⟨_, rfl, rfl, _, rfl, ?_⟩
          by_cases hm : z = "most" ∨ z = "least"
          · rw [if_pos hm] at q
            have l1 : decide (V.int (((V.str z :: xr).length : Nat) : Int) = V.int 3) = decide (dr.length = 2) := len1 2
            by_cases hz : z = "most"
            · rw [show decide (V.str z = V.str "most") = true from by rw [str_dec]; exact decide_eq_true hz]
              refine ⟨_, rfl, a, _, rfl, .inr (SqT.of e1), rfl, _, rfl, ?_⟩
              rw [l1]
              by_cases n : dr.length = 2
              · rw [decide_eq_true n]
                obtain ⟨x1, x2, rfl⟩ := two_of (hlr.trans n)
                obtain ⟨d1, d2, rfl, g1, g2⟩ := hx.two
                obtain ⟨k1, k2, _⟩ := hok.2
                refine iteT ⟨_, rfl, a, _, _, _, rfl, rfl, SqT.of e1, atI_nat (j := 1) rfl, b, x1, d1, rfl, g1, k1, hb, fun H1 s1 => ⟨_, rfl, ?_⟩⟩
                have er : mostR [d1, d2] = (nameD d1 && (partsD d2 && !(itemsD d2).isEmpty)) := rfl
                rw [er] at q
                cases nd : nameD d1 with
                | false =>
                  rw [nd] at q
                  exact q H1 s1
                | true =>
                  rw [nd, Bool.true_and] at q
                  refine iteT ⟨_, rfl, a, _, _, _, rfl, rfl, SqT.of (s1 _ _ e1), atI_nat (j := 2) rfl, b, x2, d2, rfl, g2.mono fun c o _ e => s1 c o e, k2, there s1 hb, fun H2 s2 => ⟨_, rfl, ?_⟩⟩
                  cases pd : partsD d2 with
                  | false =>
                    rw [pd] at q
                    exact q H2 (s1.trans s2)
                  | true =>
                    rw [pd, Bool.true_and] at q
                    have hr0 : rowD d2 = true := by
                      unfold partsD at pd
                      exact (Bool.and_eq_true_iff.mp pd).1
                    obtain ⟨a', xs', ds', rfl, hdd, hrow, hx'⟩ := (g2.mono fun c o _ e => s2 _ _ (s1 c o e)).row_of (K := K) hr0
                    refine iteT ⟨_, rfl, a, _, _, _, rfl, rfl, SqT.of (s2 _ _ (s1 _ _ e1)), atI_nat (j := 2) rfl, a', xs', rfl, hrow, _, _, rfl, rfl, ?_⟩
                    have e4 : decide ((0 : Int) < ((xs'.length : Nat) : Int)) = !(itemsD d2).isEmpty := by
                      rw [rows_items hdd, hx'.len]
                      cases ds' with
                      | nil => rfl
                      | cons y ys =>
                        refine (decide_eq_true ?_).trans rfl
                        rw [List.length_cons]
                        omega
                    show Q (V.bl (decide ((0 : Int) < ((xs'.length : Nat) : Int)))) H2
                    rw [e4]
                    exact q H2 (s1.trans s2)
              · rw [decide_eq_false n]
                rw [rest_most n] at q
                exact q H fun _ _ e => e
            · rw [show decide (V.str z = V.str "most") = false from by rw [str_dec]; exact decide_eq_false hz]
              refine ⟨_, rfl, rfl, _, rfl, ?_⟩
              rw [show decide (V.str z = V.str "least") = true from by rw [str_dec]; exact decide_eq_true (hm.resolve_left hz)]
              refine ⟨_, rfl, a, _, rfl, .inr (SqT.of e1), rfl, _, rfl, ?_⟩
              rw [l1]
              by_cases n : dr.length = 2
              · rw [decide_eq_true n]
                obtain ⟨x1, x2, rfl⟩ := two_of (hlr.trans n)
                obtain ⟨d1, d2, rfl, g1, g2⟩ := hx.two
                obtain ⟨k1, k2, _⟩ := hok.2
                refine iteT ⟨_, rfl, a, _, _, _, rfl, rfl, SqT.of e1, atI_nat (j := 1) rfl, b, x1, d1, rfl, g1, k1, hb, fun H1 s1 => ⟨_, rfl, ?_⟩⟩
                have er : mostR [d1, d2] = (nameD d1 && (partsD d2 && !(itemsD d2).isEmpty)) := rfl
                rw [er] at q
                cases nd : nameD d1 with
                | false =>
                  rw [nd] at q
                  exact q H1 s1
                | true =>
                  rw [nd, Bool.true_and] at q
                  refine iteT ⟨_, rfl, a, _, _, _, rfl, rfl, SqT.of (s1 _ _ e1), atI_nat (j := 2) rfl, b, x2, d2, rfl, g2.mono fun c o _ e => s1 c o e, k2, there s1 hb, fun H2 s2 => ⟨_, rfl, ?_⟩⟩
                  cases pd : partsD d2 with
                  | false =>
                    rw [pd] at q
                    exact q H2 (s1.trans s2)
                  | true =>
                    rw [pd, Bool.true_and] at q
                    have hr0 : rowD d2 = true := by
                      unfold partsD at pd
                      exact (Bool.and_eq_true_iff.mp pd).1
                    obtain ⟨a', xs', ds', rfl, hdd, hrow, hx'⟩ := (g2.mono fun c o _ e => s2 _ _ (s1 c o e)).row_of (K := K) hr0
                    refine iteT ⟨_, rfl, a, _, _, _, rfl, rfl, SqT.of (s2 _ _ (s1 _ _ e1)), atI_nat (j := 2) rfl, a', xs', rfl, hrow, _, _, rfl, rfl, ?_⟩
                    have e4 : decide ((0 : Int) < ((xs'.length : Nat) : Int)) = !(itemsD d2).isEmpty := by
                      rw [rows_items hdd, hx'.len]
                      cases ds' with
                      | nil => rfl
                      | cons y ys =>
                        refine (decide_eq_true ?_).trans rfl
                        rw [List.length_cons]
                        omega
                    show Q (V.bl (decide ((0 : Int) < ((xs'.length : Nat) : Int)))) H2
                    rw [e4]
                    exact q H2 (s1.trans s2)
              · rw [decide_eq_false n]
                rw [rest_most n] at q
                exact q H fun _ _ e => e
          · rw [if_neg hm] at q
            rw [show decide (V.str z = V.str "most") = false from by rw [str_dec]; exact decide_eq_false fun y => hm (.inl y)]
            refine ⟨_, rfl, rfl, _, rfl, ?_⟩
            rw [show decide (V.str z = V.str "least") = false from by rw [str_dec]; exact decide_eq_false fun y => hm (.inr y)]
            refine ⟨_, rfl, rfl, _, rfl, ite2 (fun e => ?_) (fun e => ?_)⟩
            · rw [str_dec] at e
              rw [if_pos (of_decide_eq_true e)] at q
              refine ⟨_, rfl, a, _, rfl, .inr (SqT.of e1), rfl, _, rfl, ?_⟩
              have l1 : decide (V.int (((V.str z :: xr).length : Nat) : Int) = V.int 4) = decide (dr.length = 3) := len1 3
              rw [l1]
              by_cases n : dr.length = 3
              · rw [decide_eq_true n]
                obtain ⟨x1, x2, x3, rfl⟩ := three_of (hlr.trans n)
                obtain ⟨d1, d2, d3, rfl, g1, g2, g3⟩ := hx.three
                obtain ⟨k1, k2, k3, _⟩ := hok.2
                refine iteT ⟨_, rfl, a, _, _, _, rfl, rfl, SqT.of e1, atI_nat (j := 1) rfl, b, x1, d1, rfl, g1, k1, hb, fun H1 s1 => ⟨_, rfl, ?_⟩⟩
                have er : callR [d1, d2, d3] = (nameD d1 && (partsD d2 && namesD d3)) := rfl
                rw [er] at q
                cases nd : nameD d1 with
                | false =>
                  rw [nd] at q
                  exact q H1 s1
                | true =>
                  rw [nd, Bool.true_and] at q
                  refine iteT ⟨_, rfl, a, _, _, _, rfl, rfl, SqT.of (s1 _ _ e1), atI_nat (j := 2) rfl, b, x2, d2, rfl, g2.mono fun c o _ e => s1 c o e, k2, there s1 hb, fun H2 s2 => ⟨_, rfl, ?_⟩⟩
                  cases pd : partsD d2 with
                  | false =>
                    rw [pd] at q
                    exact q H2 (s1.trans s2)
                  | true =>
                    rw [pd, Bool.true_and] at q
                    refine iteT ⟨_, rfl, a, _, _, _, rfl, rfl, SqT.of (s2 _ _ (s1 _ _ e1)), atI_nat (j := 3) rfl, b, x3, d3, rfl, g3.mono fun c o _ e => s2 _ _ (s1 c o e), k3, there (s1.trans s2) hb, fun H3 s3 => ?_⟩
                    exact q H3 ((s1.trans s2).trans s3)
              · rw [decide_eq_false n]
                rw [rest_call n] at q
                exact q H fun _ _ e => e
            · rw [str_dec] at e
              rw [if_neg (fun y => e (decide_eq_true y))] at q
              exact q H fun _ _ e => e
end
end Fv


set_option Elab.async false
set_option linter.all false
set_option maxRecDepth 100000
set_option maxHeartbeats 2000000
namespace Fv
open PySem PySem.Spec PyProof.Rows L2
/-- a list against an empty one, whatever is in it -/
def rNil (g : Bool → Bool) (K : PySem.W.Frag) : R2 := fun x y H Q => ∃ (a b : Addr) (xs : List V), x = .ref a ∧ y = .ref b ∧ SqL K H a xs ∧ SqL K H b [] ∧ Q (.bl (g xs.isEmpty)) H
section
variable {X : Cx}
theorem op_neNil (hu : X.A.units + 64 < cLine) : OpR X (compareOp .NotEq) (rNil (fun b => !b) X.K) := by
  intro pins s σ H x y v u Q I rx ry h
  obtain ⟨a, b, xs, rfl, rfl, ha, hb, q⟩ := h
  cases rx
  cases ry
  obtain ⟨us, r1, p1, _⟩ := I.list ha
  obtain ⟨ws, r2, p2, _⟩ := I.list hb
  cases r2
  cases xs with
  | nil =>
    cases r1
    exact SeqAt.RcNeAt.lists (e := fun _ => true) p1.isList p2.isList rfl (by omega) (fun j h1 _ => absurd h1 (Nat.not_lt_zero j)) X.prog X.w _ _ ⟨.bl false, H, I, rfl, q⟩
  | cons x xs =>
    have n : (us.toArray.size != ([] : List Value).toArray.size) = true := by
      rw [List.size_toArray, ← r1.length]
      rfl
    exact SeqAt.RcNeAt.lists_lengths p1.isList p2.isList n (by omega) X.prog X.w _ _ ⟨.bl true, H, I, rfl, q⟩
theorem op_eqNil (hu : X.A.units + 64 < cLine) : OpR X (compareOp .Eq) (rNil (fun b => b) X.K) := by
  intro pins s σ H x y v u Q I rx ry h
  obtain ⟨a, b, xs, rfl, rfl, ha, hb, q⟩ := h
  cases rx
  cases ry
  obtain ⟨us, r1, p1, _⟩ := I.list ha
  obtain ⟨ws, r2, p2, _⟩ := I.list hb
  cases r2
  cases xs with
  | nil =>
    cases r1
    exact SeqAt.RcAt.lists (e := fun _ => true) p1.isList p2.isList rfl (by omega) (fun j h1 _ => absurd h1 (Nat.not_lt_zero j)) X.prog X.w _ _ ⟨.bl true, H, I, rfl, q⟩
  | cons x xs =>
    have n : (us.toArray.size != ([] : List Value).toArray.size) = true := by
      rw [List.size_toArray, ← r1.length]
      rfl
    exact SeqAt.RcAt.lists_lengths p1.isList p2.isList n (by omega) X.prog X.w _ _ ⟨.bl false, H, I, rfl, q⟩
end
end Fv


set_option Elab.async false
set_option linter.all false
set_option maxRecDepth 100000
set_option maxHeartbeats 2000000
/-! the law's own reading of names, sources, integers, rows, pairs -/
namespace Fv
open PySem PySem.Spec PyProof.Rows L2
abbrev sLName : Stmt := top 51
abbrev sLSource : Stmt := top 52
abbrev sLWhole : Stmt := top 53
abbrev sLRow : Stmt := top 54
abbrev sLPairs : Stmt := top 55
theorem filter_len_take {α : Type} (p : α → Bool) (l : List α) (i : Nat) : ((l.take i).filter p).length ≤ l.length := by
  have l1 := List.length_filter_le p (l.take i)
  have l2 : (l.take i).length ≤ l.length := by rw [List.length_take]; omega
  omega
theorem filter_take_snoc {α : Type} {p : α → Bool} {l : List α} {i : Nat} {x : α} (h : l[i]? = some x) : (l.take (i + 1)).filter p = (l.take i).filter p ++ (if p x = true then [x] else []) := by
  rw [List.take_add_one, h, List.filter_append]
  cases e : p x <;> simp [e]
theorem filter_none {α : Type} (p : α → Bool) (l : List α) : (l.filter fun x => !p x).isEmpty = l.all p := by
  induction l with
  | nil => rfl
  | cons x l ih =>
    cases e : p x with
    | true => simpa [e] using ih
    | false => simp [e]
theorem map_empty {α β : Type} (f : α → β) (l : List α) : (l.map f).isEmpty = l.isEmpty := by cases l <;> rfl
section
variable {P : Program} {w : World} {K : PySem.W.Frag} {mg : Str → Option Value} {base : Heap} {C : Addr}
theorem sd1 : FnScope ["_law_thing", "_law_sign"] ["_law_thing"] (defScope sLName) := ⟨rfl, rfl, rfl, by decide +kernel, rfl, by decide +kernel, by decide +kernel⟩
theorem ok_lname {f : Addr} {fd : FuncData} (T : KFn K C) (F : Fun K "_law_name" "_law_name" sLName f fd) (mq : mg "isinstance" = none) (ms : mg "str" = none) (ml : mg "len" = none) : FnOk P w K mg base CX0 1 f fd ["_law_thing"] (spX C nameD) := by
  refine F.ok sd1 (fun vs H Q E h => ?_) (fun cdv A outer s H vs Q E hr h => ?_)
  · obtain ⟨b, v, d, rfl, _⟩ := h
    rfl
  · obtain ⟨b, v, d, rfl, hd, hs, hb, q⟩ := h
    obtain ⟨t', I⟩ := hd.isa T
    refine ⟨_, pss_cons (ps_if (PW.pt (pw_or (pt_not (pt_val (pe_callB call_isi (by rfl) mq (by decide +kernel) (pa_cons (pv 0) (pa_cons (pe_bltn (v := .ty "str") (by rfl) ms boot_str rfl) pa_nil)))))
        (pw_or (pt_cmpR op_lt (pe_callB call_len_str (by rfl) ml PySem.boot_len (pa_cons (pv 0) pa_nil)) pe_int (nomark _)) (pw_or1 (pt_cmpR op_gt (pe_callB call_len_str (by rfl) ml PySem.boot_len (pa_cons (pv 0) pa_nil)) pe_int (nomark _))))))
        (pss_one (ps_ret pe_bl)) pss_nil)
      (pss_one (ps_ret (pe_cmpR (op_eqNil hr.units)
        (pe_lc (own := [("_law_sign", 1)]) (g := gName 1) rfl sd1.nd (pi_str (pv 0)) (blkOk_by (N := ["_law_thing", "_law_sign"]) (sc := defScope sLName) (by decide +kernel))
        (fun _ _ _ _ _ => pg_name (i := 1) sd1.nd rfl (Or.inl rfl)) (fun _ _ _ _ _ => pts_one (pt_cmpR op_notIn_sign (pv 1) pe_str (by rfl))) (fun _ _ _ _ _ => pv 1)) (pe_lst pa_nil) (nomark _)))), ?_⟩
    refine ⟨_, rfl, _, _, _, _, _, rfl, .ty "str", I.ty, I.s, _, rfl, ?_⟩
    cases h1 : isStrD d with
    | false =>
      rw [name_not h1] at q
      exact q H fun _ _ e => e
    | true =>
      obtain ⟨z, rfl, rfl⟩ := hd.str_of h1
      have hz : z.length ≤ sizeLine := small_line hs.1
      have e : nameD (.str z) = (decide (1 ≤ z.length) && decide (z.length ≤ 8) && z.cps.toList.all fun c => decide (c ∈ abc.cps.toList)) := rfl
      rw [e] at q
      refine iteF ⟨_, rfl, z, rfl, hz, _, _, rfl, rfl, _, rfl, ?_⟩
      by_cases a1 : (z.length : Int) < 1
      · rw [decide_eq_true a1]
        rw [show decide (1 ≤ z.length) = false from decide_eq_false (by omega)] at q
        exact q H fun _ _ e => e
      · rw [show decide (1 ≤ z.length) = true from decide_eq_true (by omega)] at q
        rw [decide_eq_false a1]
        refine iteF ⟨_, rfl, z, rfl, hz, _, _, rfl, rfl, _, rfl, ?_⟩
        by_cases a2 : (8 : Int) < (z.length : Int)
        · rw [show decide (z.length ≤ 8) = false from decide_eq_false (by omega)] at q
          rw [decide_eq_true a2]
          exact q H fun _ _ e => e
        · rw [show decide (z.length ≤ 8) = true from decide_eq_true (by omega)] at q
          rw [decide_eq_false a2]
          refine iteF ⟨_, rfl, z, rfl, fun D hD => ?_⟩
          refine lc_it walk_str (fun i H1 => Same H H1 ∧ H1 D = some (.lst (((z.cps.toList.take i).filter fun c => !decide (c ∈ abc.cps.toList)).map fun c => V.str ⟨#[c]⟩))) ⟨same_upd hD, upd_same⟩ (fun _ _ _ _ => True.intro) ?_ ?_
          · rintro i x H1 H2 hi ⟨s1, e1⟩ ⟨rfl, c, hc, rfl⟩
            have hc' : z.cps.toList[i]? = some c := by simpa using hc
            refine ⟨rfl, _, rfl, c, abc, rfl, rfl, _, rfl, ?_⟩
            have fs := filter_take_snoc (p := fun c => !decide (c ∈ abc.cps.toList)) hc'
            cases hm : decide (c ∈ abc.cps.toList) with
            | true =>
              refine iteF ⟨s1, ?_⟩
              rw [fs, hm]
              rw [e1]
              simp
            | false =>
              refine iteT ⟨_, rfl, _, e1, ?_, fun a o e => ?_, ?_⟩
              · rw [List.length_map]
                have l1 := filter_len_take (fun c => !decide (c ∈ abc.cps.toList)) z.cps.toList i
                have l3 : z.cps.toList.length = z.length := by simp [Str.length]
                have l4 : z.length ≤ 1000 := hs.1
                exact small1000 (by omega)
              · rw [upd_ne (ne_of_none e hD)]
                exact s1 a o e
              · rw [upd_same, fs, hm]
                simp
          · rintro H1 ⟨s1, e1⟩
            have ez : z.cps.size = z.cps.toList.length := by simp
            rw [ez, List.take_length] at e1
            refine ⟨Nat.zero_le _, fun p np => ?_⟩
            have w1 := same_upd (o := .lst []) np
            refine ⟨D, p, _, rfl, rfl, SqL.of (w1 _ _ e1), SqL.of upd_same, ?_⟩
            rw [map_empty, filter_none]
            exact q _ (s1.trans w1)
theorem sd2 : FnScope ["_law_thing"] ["_law_thing"] (defScope sLSource) := ⟨rfl, rfl, rfl, by decide +kernel, rfl, by decide +kernel, by decide +kernel⟩
theorem ok_lsource {f f1 : Addr} {fd fd1 : FuncData} (T : KFn K C) (F : Fun K "_law_source" "_law_source" sLSource f fd) (G : FnOk P w K mg base CX0 1 f1 fd1 ["_law_thing"] (spX C nameD)) (b1 : Binds K fd1 ["_law_thing"] []) (m1 : mg "_law_name" = some (.ref f1)) (k1 : PySem.W.keepIn K (.ref f1) = true)
    (mq : mg "isinstance" = none) (ms : mg "str" = none) : FnOk P w K mg base CX0 2 f fd ["_law_thing"] (spX C sourceD) := by
  refine F.ok sd2 (fun vs H Q E h => ?_) (fun cdv A outer s H vs Q E hr h => ?_)
  · obtain ⟨b, v, d, rfl, _⟩ := h
    rfl
  · obtain ⟨b, v, d, rfl, hd, hs, hb, q⟩ := h
    refine ⟨_, pss_one (ps_ret (pe_or (pe_call G hr (by rfl) m1 k1 b1 .nil pass0 (pa_cons (pv 0) pa_nil))
      (pe_one (pe_and (pe_callB call_isi (by rfl) mq (by decide +kernel) (pa_cons (pv 0) (pa_cons (pe_bltn (v := .ty "str") (by rfl) ms boot_str rfl) pa_nil)))
        (pe_one (pe_cmpR op_eq (pv 0) pe_str (nomark _))))))), ?_⟩
    refine ⟨_, rfl, b, v, d, rfl, hd, hs, hb, fun H1 s1 => ⟨_, rfl, ?_⟩⟩
    have e : sourceD d = (nameD d || emptyD d) := rfl
    rw [e] at q
    cases h0 : nameD d with
    | true =>
      rw [h0] at q
      exact q H1 s1
    | false =>
      rw [h0, Bool.false_or] at q
      obtain ⟨t', I⟩ := (hd.mono fun a o _ e => s1 a o e).isa T
      refine iteF ⟨_, rfl, _, _, _, _, _, rfl, .ty "str", I.ty, I.s, _, rfl, ?_⟩
      cases h1 : isStrD d with
      | false =>
        rw [empty_not h1] at q
        exact q H1 s1
      | true =>
        obtain ⟨z, rfl, rfl⟩ := hd.str_of h1
        refine iteT ⟨_, rfl, rfl, ?_⟩
        have e2 : decide (V.str z = V.str "") = emptyD (.str z) := by
          rw [str_dec]
          show decide (z = "") = decide (z.length = 0)
          rw [Bool.eq_iff_iff]
          simp only [decide_eq_true_eq]
          constructor
          · rintro rfl
            rfl
          · intro h
            obtain ⟨cs⟩ := z
            have : cs.size = 0 := h
            have c0 : cs = #[] := Array.eq_empty_of_size_eq_zero this
            rw [c0]
            rfl
        show Q (V.bl (decide (V.str z = V.str ""))) H1
        rw [e2]
        exact q H1 s1
theorem sd3 : FnScope ["_law_thing"] ["_law_thing"] (defScope sLWhole) := ⟨rfl, rfl, rfl, by decide +kernel, rfl, by decide +kernel, by decide +kernel⟩
theorem ok_lwhole {f : Addr} {fd : FuncData} (T : KFn K C) (F : Fun K "_law_whole" "_law_whole" sLWhole f fd) (mq : mg "isinstance" = none) (mi : mg "int" = none) (mb : mg "bool" = none) : FnOk P w K mg base CX0 1 f fd ["_law_thing"] (spX C intD) := by
  refine F.ok sd3 (fun vs H Q E h => ?_) (fun cdv A outer s H vs Q E hr h => ?_)
  · obtain ⟨b, v, d, rfl, _⟩ := h
    rfl
  · obtain ⟨b, v, d, rfl, hd, _, _, q⟩ := h
    obtain ⟨t, I⟩ := hd.isa T
    refine ⟨_, pss_one (ps_ret (pe_and (pe_callB call_isi (by rfl) mq (by decide +kernel) (pa_cons (pv 0) (pa_cons (pe_bltn (v := .ty "int") (by rfl) mi boot_int rfl) pa_nil)))
      (pe_one (pe_not (pe_callB call_isi (by rfl) mq (by decide +kernel) (pa_cons (pv 0) (pa_cons (pe_bltn (v := .ty "bool") (by rfl) mb boot_bool rfl) pa_nil))))))), ?_⟩
    refine ⟨_, rfl, _, _, _, _, _, rfl, .ty "int", I.ty, I.i, _, rfl, ?_⟩
    have e : intD d = (isIntD d && !isBoolD d) := rfl
    rw [e] at q
    cases h1 : isIntD d with
    | false =>
      rw [h1] at q
      exact q H fun _ _ e => e
    | true =>
      rw [h1] at q
      exact ⟨_, rfl, _, _, _, _, _, rfl, .ty "bool", I.ty, I.b, _, rfl, q H fun _ _ e => e⟩
theorem sd4 : FnScope ["_law_thing"] ["_law_thing"] (defScope sLRow) := ⟨rfl, rfl, rfl, by decide +kernel, rfl, by decide +kernel, by decide +kernel⟩
theorem ok_lrow {f : Addr} {fd : FuncData} (T : KFn K C) (F : Fun K "_law_row" "_law_row" sLRow f fd) (mq : mg "isinstance" = none) (mL : mg "list" = none) (mt : mg "tuple" = none) : FnOk P w K mg base CX0 1 f fd ["_law_thing"] (spX C rowD) := by
  refine F.ok sd4 (fun vs H Q E h => ?_) (fun cdv A outer s H vs Q E hr h => ?_)
  · obtain ⟨b, v, d, rfl, _⟩ := h
    rfl
  · obtain ⟨b, v, d, rfl, hd, _, _, q⟩ := h
    obtain ⟨t, I⟩ := hd.isa T
    refine ⟨_, pss_one (ps_ret (pe_or (pe_callB call_isi (by rfl) mq (by decide +kernel) (pa_cons (pv 0) (pa_cons (pe_bltn (v := .ty "list") (by rfl) mL boot_list rfl) pa_nil)))
      (pe_one (pe_callB call_isi (by rfl) mq (by decide +kernel) (pa_cons (pv 0) (pa_cons (pe_bltn (v := .ty "tuple") (by rfl) mt boot_tuple rfl) pa_nil)))))), ?_⟩
    refine ⟨_, rfl, _, _, _, _, _, rfl, .ty "list", I.ty, I.l, _, rfl, ?_⟩
    have e : rowD d = (isListD d || isTupD d) := rfl
    rw [e] at q
    cases h1 : isListD d with
    | true =>
      rw [h1] at q
      exact q H fun _ _ e => e
    | false =>
      rw [h1, Bool.false_or] at q
      exact ⟨_, rfl, _, _, _, _, _, rfl, .ty "tuple", I.ty, I.t, q H fun _ _ e => e⟩
end
end Fv


set_option Elab.async false
set_option linter.all false
set_option maxRecDepth 100000
set_option maxHeartbeats 2000000
namespace Fv
open PySem PySem.Spec PyProof.Rows L2
abbrev sLUnlike : Stmt := top 56
abbrev sLTriples : Stmt := top 57
theorem all_take_snoc {α : Type} {p : α → Bool} {l : List α} {i : Nat} {x : α} (h : l[i]? = some x) : (l.take (i + 1)).all p = ((l.take i).all p && p x) := by
  rw [List.take_add_one, h, List.all_append]
  simp
theorem all_false {α : Type} {p : α → Bool} {l : List α} {i : Nat} {x : α} (h : l[i]? = some x) (e : p x = false) : l.all p = false := by
  cases q : l.all p with
  | false => rfl
  | true =>
    have := List.all_eq_true.mp q x (List.mem_of_getElem? h)
    rw [e] at this
    cases this
section
variable {P : Program} {w : World} {K : PySem.W.Frag} {mg : Str → Option Value} {base : Heap} {C : Addr}
theorem sd5 : FnScope ["_law_thing", "_law_one"] ["_law_thing"] (defScope sLPairs) := ⟨rfl, rfl, rfl, by decide +kernel, rfl, by decide +kernel, by decide +kernel⟩
theorem ok_lpairs {f fR fS fI : Addr} {fd fdR fdS fdI : FuncData} (T : KFn K C) (F : Fun K "_law_pairs" "_law_pairs" sLPairs f fd)
    (GR : FnOk P w K mg base CX0 1 fR fdR ["_law_thing"] (spX C rowD)) (bR : Binds K fdR ["_law_thing"] []) (mR : mg "_law_row" = some (.ref fR)) (kR : PySem.W.keepIn K (.ref fR) = true)
    (GS : FnOk P w K mg base CX0 2 fS fdS ["_law_thing"] (spX C sourceD)) (bS : Binds K fdS ["_law_thing"] []) (mS : mg "_law_source" = some (.ref fS)) (kS : PySem.W.keepIn K (.ref fS) = true)
    (GI : FnOk P w K mg base CX0 1 fI fdI ["_law_thing"] (spX C intD)) (bI : Binds K fdI ["_law_thing"] []) (mI : mg "_law_whole" = some (.ref fI)) (kI : PySem.W.keepIn K (.ref fI) = true)
    (mq : mg "isinstance" = none) (mt : mg "tuple" = none) (ml : mg "len" = none) : FnOk P w K mg base CX0 3 f fd ["_law_thing"] (spX C partsD) := by
  refine F.ok sd5 (fun vs H Q E h => ?_) (fun cdv A outer s H vs Q E hr h => ?_)
  · obtain ⟨b, v, d, rfl, _⟩ := h
    rfl
  · obtain ⟨b, v, d, rfl, hd, hs, hb, q⟩ := h
    have hr1 : Room 1 _ := hr.mono (by decide)
    refine ⟨_, pss_cons (ps_if (pt_not (pt_val (pe_call GR hr1 (by rfl) mR kR bR .nil pass0 (pa_cons (pv 0) pa_nil)))) (pss_one (ps_ret pe_bl)) pss_nil)
      (pss_cons (ps_for PassesOwn.never rfl (pi_row (pv 0)) (pg_name (i := 1) sd5.nd rfl (.inl rfl))
        (pss_one (ps_if (PW.pt (pw_or (pt_not (pt_val (pe_callB call_isi (by rfl) mq (by decide +kernel) (pa_cons (pv 1) (pa_cons (pe_bltn (v := .ty "tuple") (by rfl) mt boot_tuple rfl) pa_nil)))))
          (pw_or (pt_cmpR op_ne (pe_callB call_len_seq (by rfl) ml PySem.boot_len (pa_cons (pv 1) pa_nil)) pe_int (nomark _))
          (pw_or (pt_not (pt_val (pe_call GS hr (by rfl) mS kS bS .nil pass0 (pa_cons (pe_ix ix_tup (pv 1) pe_int (fun _ _ => rfl)) pa_nil))))
          (pw_or1 (pt_not (pt_val (pe_call GI hr1 (by rfl) mI kI bI .nil pass0 (pa_cons (pe_ix ix_tup (pv 1) pe_int (fun _ _ => rfl)) pa_nil)))))))))
          (pss_one (ps_ret pe_bl)) pss_nil)))
      (pss_one (ps_ret pe_bl))), ?_⟩
    refine ⟨_, rfl, b, v, d, rfl, hd, hs, hb, fun H1 s1 => ⟨_, rfl, ?_⟩⟩
    have e : partsD d = (rowD d && (itemsD d).all pairD) := rfl
    rw [e] at q
    cases h0 : rowD d with
    | false =>
      rw [h0] at q
      exact q H1 s1
    | true =>
      rw [h0, Bool.true_and] at q
      obtain ⟨a, xs, ds, rfl, hdd, hrow, hx⟩ := (hd.mono fun a o _ e => s1 a o e).row_of (K := K) h0
      rw [rows_items hdd] at q
      obtain ⟨hl, hok⟩ := rows_ok hdd hs
      have hlen := hx.len
      refine iteF ⟨_, rfl, a, xs, rfl, hrow, fun J G wk hG => ?_⟩
      refine for_it wk (fun i σ H' => ∃ y : Option V, σ = [some (.ref a), y] ∧ Same H1 H' ∧ (ds.take i).all pairD = true) ⟨none, rfl, fun _ _ e => e, by simp⟩ (fun i σ H' _ h => by obtain ⟨y, _, h2, _⟩ := h; exact hG H' h2) ?_ ?_
      · rintro i x σ H' H2 hi ⟨y, rfl, s', al⟩ ⟨rfl, hxi⟩
        obtain ⟨dx, hdi, hdx0⟩ := hx.get hxi
        have hdx : Dx C H2 b x dx := hdx0.mono fun c o _ e => s' c o e
        have okx := hok.mem dx (List.mem_of_getElem? hdi)
        obtain ⟨t, I⟩ := hdx.isa T
        have snoc := all_take_snoc (p := pairD) hdi
        refine ⟨_, rfl, _, _, _, _, _, rfl, .ty "tuple", I.ty, I.t, _, rfl, ?_⟩
        cases h1 : isTupD dx with
        | false =>
          rw [all_false hdi (pair_not h1)] at q
          exact q H2 (s1.trans s')
        | true =>
          obtain ⟨a', xs', ds', rfl, rfl, e1, hx'⟩ := hdx.tup_of h1
          have hlen' := hx'.len
          refine iteF ⟨_, rfl, a', xs', rfl, .inr (SqT.of e1), rfl, _, rfl, ?_⟩
          by_cases n2 : xs'.length = 2
          · rw [show (!decide (V.int ((xs'.length : Nat) : Int) = V.int 2)) = false from by rw [show decide (V.int ((xs'.length : Nat) : Int) = V.int 2) = decide (xs'.length = 2) from int_len (m := 2), decide_eq_true n2]; rfl]
            obtain ⟨x1, x2, rfl⟩ := two_of n2
            obtain ⟨d1, d2, rfl, g1, g2⟩ := hx'.two
            have okx2 : okD d1 ∧ okD d2 ∧ True := okx.2
            refine iteF ⟨_, rfl, a', _, _, _, rfl, rfl, SqT.of e1, atI_nat (j := 0) rfl, b, x1, d1, rfl, g1, okx2.1, there (s1.trans s') hb, fun H3 s3 => ⟨_, rfl, ?_⟩⟩
            have ep : pairD (.tuple [d1, d2]) = (sourceD d1 && intD d2) := rfl
            cases h3 : sourceD d1 with
            | false =>
              rw [all_false hdi (by rw [ep, h3]; rfl)] at q
              exact q H3 ((s1.trans s').trans s3)
            | true =>
              refine iteF ⟨_, rfl, a', _, _, _, rfl, rfl, SqT.of (s3 _ _ e1), atI_nat (j := 1) rfl, b, x2, d2, rfl, g2.mono fun c o _ e => s3 c o e, okx2.2.1, there ((s1.trans s').trans s3) hb, fun H4 s4 => ⟨_, rfl, ?_⟩⟩
              cases h4 : intD d2 with
              | false =>
                rw [all_false hdi (by rw [ep, h3, h4]; rfl)] at q
                exact q H4 (((s1.trans s').trans s3).trans s4)
              | true =>
                refine ⟨_, rfl, (s'.trans s3).trans s4, ?_⟩
                rw [snoc, al, ep, h3, h4]
                rfl
          · rw [show (!decide (V.int ((xs'.length : Nat) : Int) = V.int 2)) = true from by rw [show decide (V.int ((xs'.length : Nat) : Int) = V.int 2) = decide (xs'.length = 2) from int_len (m := 2), decide_eq_false n2]; rfl]
            rw [all_false hdi (pair_len (by omega))] at q
            exact q H2 (s1.trans s')
      · rintro σ H2 ⟨y, rfl, s2, al⟩
        rw [hlen, List.take_length] at al
        rw [al] at q
        exact q H2 (s1.trans s2)
end
end Fv


set_option Elab.async false
set_option linter.all false
set_option maxRecDepth 100000
set_option maxHeartbeats 2000000
namespace Fv
open PySem PySem.Spec PyProof.Rows L2
theorem inV_strs (z : Str) (zs : List Str) : inV (.str z) (zs.map V.str) = decide (z ∈ zs) := by
  unfold inV
  rw [Bool.eq_iff_iff, List.any_eq_true, decide_eq_true_eq]
  constructor
  · rintro ⟨y, hy, e⟩
    obtain ⟨t, ht, rfl⟩ := List.mem_map.mp hy
    have : t = z := by simpa [eqV] using e
    exact this ▸ ht
  · intro h
    exact ⟨.str z, List.mem_map.mpr ⟨z, h, rfl⟩, by simp [eqV]⟩
theorem flat_strs (zs : List Str) : (zs.map V.str).all flatV = true := by
  rw [List.all_map]
  exact List.all_eq_true.mpr fun _ _ => rfl
theorem cut_to (xs : List V) (k : Nat) : cutV xs none (some (k : Int)) = xs.take k := by
  unfold cutV
  rw [HT.sIx_none, HT.sIx_nat]
  simp only [List.drop_zero, Nat.sub_zero]
  rw [List.take_eq_take_iff]
  omega
theorem cut_from (xs : List V) (k : Nat) : cutV xs (some (k : Int)) none = xs.drop k := by
  unfold cutV
  rw [HT.sIx_none, HT.sIx_nat]
  rw [List.take_of_length_le (by rw [List.length_drop]; omega)]
  by_cases h : k ≤ xs.length
  · rw [Nat.min_eq_left h]
  · rw [Nat.min_eq_right (by omega), List.drop_of_length_le (Nat.le_refl _), List.drop_of_length_le (by omega)]
/-- the k-th is there already ahead -/
def twice (zs : List Str) (k : Nat) : Bool := (zs[k]?).any fun z => decide (z ∈ zs.take k)
theorem twice_none (zs : List Str) : ((List.range zs.length).filter (twice zs)).isEmpty = decide zs.Nodup := by
  rw [Bool.eq_iff_iff, List.isEmpty_iff, decide_eq_true_eq, List.filter_eq_nil_iff]
  constructor
  · intro h
    refine List.pairwise_iff_getElem.mpr fun i j hi hj hij e => ?_
    refine h j (List.mem_range.mpr hj) ?_
    unfold twice
    rw [List.getElem?_eq_getElem hj]
    show decide (zs[j] ∈ zs.take j) = true
    rw [decide_eq_true_eq, ← e]
    exact List.mem_take_iff_getElem.mpr ⟨i, by omega, rfl⟩
  · intro h k hk e
    have hk' := List.mem_range.mp hk
    unfold twice at e
    rw [List.getElem?_eq_getElem hk'] at e
    have e' : zs[k] ∈ zs.take k := of_decide_eq_true e
    obtain ⟨i, hi, ei⟩ := List.mem_take_iff_getElem.mp e'
    exact List.pairwise_iff_getElem.mp h i k (by omega) hk' (by omega) ei
def spUnlike (K : PySem.W.Frag) : Sp := fun vs H Q _ => ∃ (a : Addr) (zs : List Str), vs = [.ref a] ∧ SqL K H a (zs.map V.str) ∧ zs.length ≤ 60 ∧ ∀ H', Same H H' → Q (.bl (decide zs.Nodup)) H'
section
variable {P : Program} {w : World} {K : PySem.W.Frag} {mg : Str → Option Value} {base : Heap} {C : Addr}
theorem sd6 : FnScope ["_law_thing", "_law_k"] ["_law_thing"] (defScope sLUnlike) := ⟨rfl, rfl, rfl, by decide +kernel, rfl, by decide +kernel, by decide +kernel⟩
theorem ok_lunlike {f : Addr} {fd : FuncData} (F : Fun K "_law_unlike" "_law_unlike" sLUnlike f fd) (mr : mg "range" = none) (ml : mg "len" = none) : FnOk P w K mg base CX0 1 f fd ["_law_thing"] (spUnlike K) := by
  refine F.ok sd6 (fun vs H Q E h => ?_) (fun cdv A outer s H vs Q E hr h => ?_)
  · obtain ⟨a, zs, rfl, _⟩ := h
    rfl
  · obtain ⟨a, zs, rfl, hz, hl, q⟩ := h
    refine ⟨_, pss_one (ps_ret (pe_cmpR (op_eqNil hr.units)
      (pe_lc (own := [("_law_k", 1)]) (g := gName 1) rfl sd6.nd (pi_range1 (by rfl) mr (pa_cons (pe_callB call_len_seq (by rfl) ml PySem.boot_len (pa_cons (pv 0) pa_nil)) pa_nil)) (blkOk_by (N := ["_law_thing", "_law_k"]) (sc := defScope sLUnlike) (by decide +kernel))
        (fun _ _ _ _ _ => pg_name (i := 1) sd6.nd rfl (Or.inl rfl)) (fun _ _ _ _ _ => pts_one (pt_cmpR (r := rIn K false) op_in_seq (pe_ix (r := rIxL K) ix_list (pv 0) (pv 1) (fun _ _ => rfl)) (pe_slice (r := rSlL K) sl_list (pv 0) po_none (po_some (pv 1))) (by rfl))) (fun _ _ _ _ _ => pv 1)) (pe_lst pa_nil) (nomark _))), ?_⟩
    refine ⟨_, rfl, a, _, rfl, .inl hz, _, rfl, by omega, by rw [List.length_map]; omega, fun D hD => ?_⟩
    refine lc_range (lo := 0) (n := ((((zs.map V.str).length : Nat) : Int)).toNat) (fun i H' => Same H H' ∧ H' D = some (.lst (((List.range i).filter (twice zs)).map fun k : Nat => V.int (k : Int)))) ⟨same_upd hD, upd_same⟩ ?_ ?_
    · rintro i H' hi ⟨s', e'⟩
      have hi' : i < zs.length := by rw [List.length_map] at hi; omega
      have hzi := List.getElem?_eq_getElem hi'
      have hv : (zs.map V.str)[i]? = some (.str zs[i]) := by rw [List.getElem?_map, hzi]; rfl
      simp only [Int.zero_add]
      refine ⟨rfl, ⟨_, rfl, _, rfl, a, _, (i : Int), _, rfl, rfl, hz.same s', atI_nat hv, ?_⟩⟩
      refine ⟨_, rfl, _, rfl, _, rfl, a, _, rfl, hz.same s', fun p np => ?_⟩
      have w1 := same_upd (o := .lst (cutV (zs.map V.str) none (some (i : Int)))) np
      refine ⟨p, _, rfl, .inl (SqL.of upd_same), rfl, ?_, ?_⟩
      · rw [cut_to, ← List.map_take]
        exact flat_strs _
      have ei : inV (.str zs[i]) (cutV (zs.map V.str) none (some (i : Int))) = twice zs i := by
        rw [cut_to, ← List.map_take, inV_strs]
        unfold twice
        rw [hzi]
        rfl
      refine ⟨_, rfl, ?_⟩
      have er : (List.range (i + 1)).filter (twice zs) = (List.range i).filter (twice zs) ++ (if twice zs i = true then [i] else []) := by
        rw [List.range_succ, List.filter_append]
        cases h : twice zs i <;> simp [h]
      show (if inV (.str zs[i]) (cutV (zs.map V.str) none (some (i : Int))) = true then _ else _)
      rw [ei]
      cases ht : twice zs i with
      | false =>
        refine ⟨s'.trans w1, ?_⟩
        rw [w1 _ _ e', er, ht]
        simp
      | true =>
        refine ⟨_, rfl, _, w1 _ _ e', ?_, fun c o e => ?_, ?_⟩
        · rw [List.length_map]
          have := List.length_filter_le (twice zs) (List.range i)
          rw [List.length_range] at this
          exact small60 (by omega)
        · rw [upd_ne (ne_of_none e hD)]
          exact w1 _ _ (s' c o e)
        · rw [upd_same, er, ht]
          simp
    · rintro H1 ⟨s1, e1⟩
      refine ⟨Nat.zero_le _, fun p np => ?_⟩
      have w1 := same_upd (o := .lst []) np
      refine ⟨D, p, _, rfl, rfl, SqL.of (w1 _ _ e1), SqL.of upd_same, ?_⟩
      have en : ((((zs.map V.str).length : Nat) : Int)).toNat = zs.length := by rw [List.length_map]; omega
      rw [map_empty, en, twice_none]
      exact q _ (s1.trans w1)
end
end Fv


set_option Elab.async false
set_option linter.all false
set_option maxRecDepth 100000
set_option maxHeartbeats 4000000
namespace Fv
open PySem PySem.Spec PyProof.Rows L2
def threeD : PyData → Bool
  | .tuple [_, _, _] => true
  | _ => false
def firstD : PyData → PyData
  | .tuple (x :: _) => x
  | _ => .none
def restT : PyData → PyData
  | .tuple (_ :: r) => .tuple r
  | _ => .none
theorem three_len {ds : List PyData} : threeD (.tuple ds) = decide (ds.length = 3) := by
  match ds with
  | [] => rfl
  | [_] => rfl
  | [_, _] => rfl
  | [_, _, _] => rfl
  | _ :: _ :: _ :: _ :: r =>
    refine (decide_eq_false ?_).symm
    simp only [List.length_cons]
    omega
theorem three_not {d : PyData} (h : isTupD d = false) : threeD d = false := by cases d <;> first | rfl | cases h
theorem three_shape {d : PyData} (h : threeD d = true) : ∃ x y z, d = .tuple [x, y, z] := by
  unfold threeD at h
  split at h
  · exact ⟨_, _, _, rfl⟩
  · cases h
theorem trip_of {d : PyData} (h : threeD d = true) : tripD d = (nameD (firstD d) && pairD (restT d)) := by
  obtain ⟨x, y, z, rfl⟩ := three_shape h
  show (nameD x && sourceD y && intD z) = (nameD x && (sourceD y && intD z))
  rw [Bool.and_assoc]
theorem head_of {d : PyData} (h : threeD d = true) : headS d = strS (firstD d) := by
  obtain ⟨x, y, z, rfl⟩ := three_shape h
  cases x <;> rfl
theorem trip_three {d : PyData} (h : threeD d = false) : tripD d = false := by
  unfold tripD
  split
  · cases h
  · rfl
theorem all_trip : ∀ {ds : List PyData}, ds.all threeD = true → ds.all tripD = (ds.all (fun d => nameD (firstD d)) && ds.all (fun d => pairD (restT d)))
  | [], _ => rfl
  | d :: ds, h => by
    rw [List.all_cons, Bool.and_eq_true] at h
    rw [List.all_cons, List.all_cons, List.all_cons, trip_of h.1, all_trip h.2]
    cases nameD (firstD d) <;> cases pairD (restT d) <;> simp
theorem all_no_three : ∀ {ds : List PyData}, ds.all threeD = false → ds.all tripD = false
  | [], h => by cases h
  | d :: ds, h => by
    rw [List.all_cons] at h ⊢
    cases e : threeD d with
    | false => rw [trip_three e]; rfl
    | true =>
      rw [e, Bool.true_and] at h
      rw [all_no_three h, Bool.and_false]
theorem name_str {d : PyData} (h : nameD d = true) : ∃ z, d = .str z := by
  cases d <;> first | exact ⟨_, rfl⟩ | cases h
theorem heads_map {ds : List PyData} (h : ds.all threeD = true) : ds.map headS = (ds.map firstD).map strS := by
  rw [List.map_map]
  refine List.map_congr_left fun d hd => ?_
  exact head_of (List.all_eq_true.mp h d hd)
def rLenS (K : PySem.W.Frag) : List V → Hp → VK → Prop := fun xs H Q => ∃ p ys, xs = [V.ref p] ∧ (SqL K H p ys ∨ SqT K H p ys) ∧ Q (.int ((ys.length : Nat) : Int)) H
theorem DxAll.snoc {C : Addr} {H : Hp} {b : Addr} {v : V} {d : PyData} (h : Dx C H b v d) : ∀ {vs : List V} {ds : List PyData}, DxAll C H b vs ds → DxAll C H b (vs ++ [v]) (ds ++ [d])
  | _, _, .nil => .cons h .nil
  | _, _, .cons g t => .cons g (DxAll.snoc h t)
theorem okAll.rest : ∀ {ds : List PyData}, okAll ds → okAll (ds.map restT)
  | [], _ => True.intro
  | d :: ds, h => by
    refine ⟨?_, okAll.rest h.2⟩
    have h1 := h.1
    unfold restT
    split
    · rename_i x r
      have h1' : (x :: r).length ≤ 60 ∧ okD x ∧ okAll r := h1
      exact ⟨by have := h1'.1; rw [List.length_cons] at this; omega, h1'.2.2⟩
    · exact True.intro
theorem none_back {H H' : Hp} {a : Addr} (s : Same H H') (n : H' a = none) : H a = none := by
  cases e : H a with
  | none => rfl
  | some o => exact absurd n (by rw [s _ _ e]; exact nofun)
theorem in_del {H H' : Hp} {D : Addr} (s : Same H H') (n : H D = none) : ∀ c o, H c = some o → del H' D c = some o := fun c o e => by
  rw [del_ne (ne_of_none e n)]
  exact s c o e
theorem del_upd {H : Hp} {D : Addr} {o : HO} : del (upd H D o) D = del H D := by
  funext c
  by_cases h : c = D
  · rw [h, del_same, del_same]
  · rw [del_ne h, del_ne h, upd_ne h]
theorem del_sub {H : Hp} {D : Addr} : ∀ c o, del H D c = some o → H c = some o := fun c o e => by
  by_cases h : c = D
  · rw [h, del_same] at e
    cases e
  · rw [del_ne h] at e
    exact e
section
variable {P : Program} {w : World} {K : PySem.W.Frag} {mg : Str → Option Value} {base : Heap} {C : Addr}
theorem sd7 : FnScope ["_law_thing", "_law_one"] ["_law_thing"] (defScope sLTriples) := ⟨rfl, rfl, rfl, by decide +kernel, rfl, by decide +kernel, by decide +kernel⟩
theorem ok_ltriples {f fR fN fU fP : Addr} {fd fdR fdN fdU fdP : FuncData} (T : KFn K C) (F : Fun K "_law_triples" "_law_triples" sLTriples f fd)
    (GR : FnOk P w K mg base CX0 1 fR fdR ["_law_thing"] (spX C rowD)) (bR : Binds K fdR ["_law_thing"] []) (mR : mg "_law_row" = some (.ref fR)) (kR : PySem.W.keepIn K (.ref fR) = true)
    (GN : FnOk P w K mg base CX0 1 fN fdN ["_law_thing"] (spX C nameD)) (bN : Binds K fdN ["_law_thing"] []) (mN : mg "_law_name" = some (.ref fN)) (kN : PySem.W.keepIn K (.ref fN) = true)
    (GU : FnOk P w K mg base CX0 1 fU fdU ["_law_thing"] (spUnlike K)) (bU : Binds K fdU ["_law_thing"] []) (mU : mg "_law_unlike" = some (.ref fU)) (kU : PySem.W.keepIn K (.ref fU) = true)
    (GP : FnOk P w K mg base CX0 3 fP fdP ["_law_thing"] (spX C partsD)) (bP : Binds K fdP ["_law_thing"] []) (mP : mg "_law_pairs" = some (.ref fP)) (kP : PySem.W.keepIn K (.ref fP) = true)
    (mq : mg "isinstance" = none) (mt : mg "tuple" = none) (ml : mg "len" = none) : FnOk P w K mg base CX0 4 f fd ["_law_thing"] (spX C setsD) := by
  refine F.ok sd7 (fun vs H Q E h => ?_) (fun cdv A outer s H vs Q E hr h => ?_)
  · obtain ⟨b, v, d, rfl, _⟩ := h
    rfl
  · obtain ⟨b, v, d, rfl, hd, hs, hb, q⟩ := h
    have hr1 : Room 1 _ := hr.mono (by decide)
    refine ⟨_, pss_cons (ps_if (PW.pt (pw_or (pt_not (pt_val (pe_call GR hr1 (by rfl) mR kR bR .nil pass0 (pa_cons (pv 0) pa_nil))))
        (pw_or1 (pt_cmpR (op_neNil hr.units)
          (pe_lc (own := [("_law_one", 1)]) (g := gName 1) rfl sd7.nd (pi_row (pv 0)) (blkOk_by (N := ["_law_thing", "_law_one"]) (sc := defScope sLTriples) (by decide +kernel))
            (fun _ _ _ _ _ => pg_name (i := 1) sd7.nd rfl (Or.inl rfl))
            (fun _ _ _ _ _ => pts_one (PW.pt (pw_or (pt_not (pt_val (pe_callB (id := "isinstance") (r := rIsi K) call_isi (by rfl) mq (by decide +kernel) (pa_cons (pv 1) (pa_cons (pe_bltn (v := .ty "tuple") (by rfl) mt boot_tuple rfl) pa_nil)))))
              (pw_or1 (pt_cmpR op_ne (pe_callB (id := "len") (r := rLenS K) call_len_seq (by rfl) ml PySem.boot_len (pa_cons (pv 1) pa_nil)) pe_int (nomark _))))))
            (fun _ _ _ _ _ => pv 1)) (pe_lst pa_nil) (nomark _)))))
        (pss_one (ps_ret pe_bl)) pss_nil)
      (pss_cons (ps_if (PW.pt (pw_or (pt_cmpR (op_neNil hr.units)
          (pe_lc (own := [("_law_one", 1)]) (g := gName 1) rfl sd7.nd (pi_row (pv 0)) (blkOk_by (N := ["_law_thing", "_law_one"]) (sc := defScope sLTriples) (by decide +kernel))
            (fun _ _ _ _ _ => pg_name (i := 1) sd7.nd rfl (Or.inl rfl))
            (fun _ _ _ _ _ => pts_one (pt_not (pt_val (pe_call GN hr1 (by rfl) mN kN bN .nil pass0 (pa_cons (pe_ix (r := rIxT K) ix_tup (pv 1) pe_int (fun _ _ => rfl)) pa_nil)))))
            (fun _ _ _ _ _ => pv 1)) (pe_lst pa_nil) (nomark _))
        (pw_or1 (pt_not (pt_val (pe_call GU hr1 (by rfl) mU kU bU .nil pass0 (pa_cons
          (pe_lc (own := [("_law_one", 1)]) (g := gName 1) (tt := tYes) rfl sd7.nd (pi_row (pv 0)) (blkOk_by (N := ["_law_thing", "_law_one"]) (sc := defScope sLTriples) (by decide +kernel))
            (fun _ _ _ _ _ => pg_name (i := 1) sd7.nd rfl (Or.inl rfl)) (fun _ _ _ _ _ => pts_nil) (fun _ _ _ _ _ => pe_ix (r := rIxT K) ix_tup (pv 1) pe_int (fun _ _ => rfl))) pa_nil)))))))
        (pss_one (ps_ret pe_bl)) pss_nil)
      (pss_one (ps_ret (pe_call GP hr (by rfl) mP kP bP .nil pass0 (pa_cons
          (pe_lc (own := [("_law_one", 1)]) (g := gName 1) (tt := tYes) rfl sd7.nd (pi_row (pv 0)) (blkOk_by (N := ["_law_thing", "_law_one"]) (sc := defScope sLTriples) (by decide +kernel))
            (fun _ _ _ _ _ => pg_name (i := 1) sd7.nd rfl (Or.inl rfl)) (fun _ _ _ _ _ => pts_nil) (fun _ _ _ _ _ => pe_slice (r := rSlT K) sl_tup (pv 1) (po_some pe_int) po_none)) pa_nil))))), ?_⟩
    refine ⟨_, rfl, b, v, d, rfl, hd, hs, hb, fun H1 s1 => ⟨_, rfl, ?_⟩⟩
    have e : setsD d = (rowD d && (itemsD d).all tripD && decide ((itemsD d).map headS).Nodup) := rfl
    rw [e] at q
    cases h0 : rowD d with
    | false =>
      rw [h0] at q
      exact q H1 s1
    | true =>
      rw [h0, Bool.true_and] at q
      obtain ⟨a, xs, ds, rfl, hdd, hrow, hx⟩ := (hd.mono fun a o _ e => s1 a o e).row_of (K := K) h0
      rw [rows_items hdd] at q
      obtain ⟨hl, hok⟩ := rows_ok hdd hs
      have hlen := hx.len
      refine iteF ⟨_, rfl, a, xs, rfl, hrow, fun J G wk hG D hD => ?_⟩
      refine lc_it wk (fun i H' => Same H1 H' ∧ ∃ ys : List V, H' D = some (.lst ys) ∧ ys.length ≤ i ∧ ys.isEmpty = (ds.take i).all threeD) ⟨same_upd hD, [], upd_same, Nat.le_refl _, by simp⟩ (fun i H' _ h => hG H' h.1) ?_ ?_
      · rintro i x H' H2 hi ⟨s', ys, e', yl, ye⟩ ⟨rfl, hxi⟩
        obtain ⟨dx, hdi, hdx0⟩ := hx.get hxi
        have hdx : Dx C H2 b x dx := hdx0.mono fun c o _ e => s' c o e
        obtain ⟨t, I⟩ := hdx.isa T
        have snoc := all_take_snoc (p := threeD) hdi
        have put : threeD dx = false → ∃ acc, H2 D = some (.lst acc) ∧ acc.length < sizeLine ∧ Same H1 (upd H2 D (.lst (acc ++ [x]))) ∧ ∃ ys : List V, (upd H2 D (.lst (acc ++ [x]))) D = some (.lst ys) ∧ ys.length ≤ i + 1 ∧ ys.isEmpty = (ds.take (i + 1)).all threeD := fun h => by
          refine ⟨ys, e', small60 (by omega), fun c o e => by rw [upd_ne (ne_of_none e hD)]; exact s' c o e, _, upd_same, by simp; omega, ?_⟩
          rw [snoc, h, Bool.and_false]
          cases ys <;> rfl
        refine ⟨rfl, _, rfl, _, _, _, _, _, rfl, .ty "tuple", I.ty, I.t, _, rfl, ?_⟩
        cases h1 : isTupD dx with
        | false => exact iteT ⟨_, rfl, put (three_not h1)⟩
        | true =>
          obtain ⟨a', xs', ds', rfl, rfl, e1, hx'⟩ := hdx.tup_of h1
          refine iteF ⟨_, rfl, a', xs', rfl, .inr (SqT.of e1), rfl, _, rfl, ?_⟩
          have ex : (!decide (V.int ((xs'.length : Nat) : Int) = V.int 3)) = !threeD (.tuple ds') := by
            rw [show decide (V.int ((xs'.length : Nat) : Int) = V.int 3) = decide (xs'.length = 3) from int_len (m := 3), three_len, hx'.len]
          rw [ex]
          cases h3 : threeD (.tuple ds') with
          | false => exact iteT ⟨_, rfl, put h3⟩
          | true =>
            refine iteF ⟨s', ys, e', by omega, ?_⟩
            rw [snoc, h3, Bool.and_true]
            exact ye
      · rintro H2 ⟨s2, ys, e2, _, ye⟩
        rw [hlen, List.take_length] at ye
        refine ⟨Nat.zero_le _, fun p np => ?_⟩
        have w1 := same_upd (o := .lst []) np
        refine ⟨D, p, _, rfl, rfl, SqL.of (w1 _ _ e2), SqL.of upd_same, _, rfl, ?_⟩
        rw [ye]
        have t2 := (s1.trans s2).trans w1
        cases h3 : ds.all threeD with
        | false =>
          rw [all_no_three h3] at q
          exact q _ t2
        | true =>
          rw [all_trip h3] at q
          have s12 := s2.trans w1
          generalize upd H2 p (.lst []) = H3 at s12 t2 ⊢
          have tri : ∀ {x : V} {dx : PyData}, dx ∈ ds → Dx C H1 b x dx → ∃ a' x1 x2 x3 d1 d2 d3, x = .ref a' ∧ dx = .tuple [d1, d2, d3] ∧ H1 a' = some (.tup [x1, x2, x3]) ∧ Dx C H1 b x1 d1 ∧ Dx C H1 b x2 d2 ∧ Dx C H1 b x3 d3 ∧ okD d1 ∧ okD d2 ∧ okD d3 := fun {x dx} hm hdx => by
            obtain ⟨d1, d2, d3, rfl⟩ := three_shape (List.all_eq_true.mp h3 dx hm)
            obtain ⟨a', xs', ds', rfl, ed, e1, hx'⟩ := hdx.tup_of rfl
            cases ed
            obtain ⟨x1, x2, x3, rfl⟩ := three_of hx'.len
            obtain ⟨_, _, _, ee, g1, g2, g3⟩ := hx'.three
            cases ee
            have ok3 : okD d1 ∧ okD d2 ∧ okD d3 ∧ True := (hok.mem _ hm).2
            exact ⟨a', x1, x2, x3, d1, d2, d3, rfl, rfl, e1, g1, g2, g3, ok3.1, ok3.2.1, ok3.2.2.1⟩
          refine iteF ⟨_, rfl, a, xs, rfl, hrow.imp (fun h => h.same s12) (fun h => h.same s12), fun J G wk hG D hD => ?_⟩
          refine lc_it wk (fun i H' => Same H3 H' ∧ ∃ ys : List V, H' D = some (.lst ys) ∧ ys.length ≤ i ∧ ys.isEmpty = (ds.take i).all fun d => nameD (firstD d)) ⟨same_upd hD, [], upd_same, Nat.le_refl _, by simp⟩ (fun i H' _ h => hG H' h.1) ?_ ?_
          · rintro i x H' H2 hi ⟨s', ys, e', yl, ye⟩ ⟨rfl, hxi⟩
            obtain ⟨dx, hdi, hdx0⟩ := hx.get hxi
            obtain ⟨a', x1, x2, x3, d1, d2, d3, rfl, rfl, e1, g1, _, _, k1, _, _⟩ := tri (List.mem_of_getElem? hdi) hdx0
            have sN := s12.trans s'
            have snoc := all_take_snoc (p := fun d => nameD (firstD d)) hdi
            refine ⟨rfl, _, rfl, a', _, _, _, rfl, rfl, SqT.of (sN _ _ e1), atI_nat (j := 0) rfl, b, x1, d1, rfl, g1.mono fun c o _ e => sN c o e, k1, there (s1.trans sN) hb, fun H4 s4 => ⟨_, rfl, ?_⟩⟩
            cases hn : nameD d1 with
            | true =>
              refine iteF ⟨s'.trans s4, ys, s4 _ _ e', by omega, ?_⟩
              rw [snoc]
              show _ = (_ && nameD d1)
              rw [hn, Bool.and_true]
              exact ye
            | false =>
              refine iteT ⟨_, rfl, ys, s4 _ _ e', small60 (by omega), fun c o e => by rw [upd_ne (ne_of_none e hD)]; exact s4 _ _ (s' c o e), _, upd_same, by simp; omega, ?_⟩
              rw [snoc]
              show _ = (_ && nameD d1)
              rw [hn, Bool.and_false]
              cases ys <;> rfl
          · rintro H2 ⟨s2', ys, e2', _, ye⟩
            rw [hlen, List.take_length] at ye
            refine ⟨Nat.zero_le _, fun p np => ?_⟩
            have w1' := same_upd (o := .lst []) np
            refine ⟨D, p, _, rfl, rfl, SqL.of (w1' _ _ e2'), SqL.of upd_same, _, rfl, ?_⟩
            rw [ye]
            have s13 := (s12.trans s2').trans w1'
            generalize upd H2 p (.lst []) = H5 at s13 ⊢
            cases hn : ds.all fun d => nameD (firstD d) with
            | false =>
              rw [hn] at q
              exact q _ (s1.trans s13)
            | true =>
              rw [hn, Bool.true_and] at q
              refine iteF ⟨_, rfl, a, xs, rfl, hrow.imp (fun h => h.same s13) (fun h => h.same s13), fun J G wk hG D hD => ?_⟩
              refine lc_it wk (fun i H' => Same H5 H' ∧ H' D = some (.lst ((ds.take i).map fun d => V.str (headS d)))) ⟨same_upd hD, upd_same⟩ (fun i H' _ h => hG H' h.1) ?_ ?_
              · rintro i x H' H2 hi ⟨s', e'⟩ ⟨rfl, hxi⟩
                obtain ⟨dx, hdi, hdx0⟩ := hx.get hxi
                have hm := List.mem_of_getElem? hdi
                obtain ⟨a', x1, x2, x3, d1, d2, d3, rfl, rfl, e1, g1, _, _, k1, _, _⟩ := tri hm hdx0
                obtain ⟨z, rfl⟩ := name_str (d := d1) (List.all_eq_true.mp hn _ hm)
                cases g1
                refine ⟨rfl, _, rfl, a', _, _, _, rfl, rfl, SqT.of (s' _ _ (s13 _ _ e1)), atI_nat (j := 0) rfl, _, e', ?_, fun c o e => ?_, ?_⟩
                · rw [List.length_map, List.length_take]
                  exact small60 (by omega)
                · rw [upd_ne (ne_of_none e hD)]
                  exact s' c o e
                · rw [upd_same, take_map_snoc hdi]
                  rfl
              · rintro H2 ⟨s2', e2'⟩
                rw [hlen, List.take_length] at e2'
                refine ⟨D, ds.map headS, rfl, SqL.of (by rw [List.map_map]; exact e2'), by rw [List.length_map]; exact hl, fun H6 s6 => ⟨_, rfl, ?_⟩⟩
                have s14 := (s13.trans s2').trans s6
                cases hu : decide (ds.map headS).Nodup with
                | false =>
                  rw [hu, Bool.and_false] at q
                  exact q _ (s1.trans s14)
                | true =>
                  rw [hu, Bool.and_true] at q
                  refine iteF ⟨_, rfl, a, xs, rfl, hrow.imp (fun h => h.same s14) (fun h => h.same s14), fun J G wk hG D hD => ?_⟩
                  refine lc_it wk (fun i H' => Same H6 H' ∧ ∃ ys : List V, H' D = some (.lst ys) ∧ DxAll C (del H' D) b ys ((ds.take i).map restT)) ⟨same_upd hD, [], upd_same, .nil⟩ (fun i H' _ h => hG H' h.1) ?_ ?_
                  · rintro i x H' H2 hi ⟨s', ys, e', ya⟩ ⟨rfl, hxi⟩
                    obtain ⟨dx, hdi, hdx0⟩ := hx.get hxi
                    have hm := List.mem_of_getElem? hdi
                    obtain ⟨a', x1, x2, x3, d1, d2, d3, rfl, rfl, e1, g1, g2, g3, _, _, _⟩ := tri hm hdx0
                    have sN := s14.trans s'
                    refine ⟨rfl, _, rfl, 1, rfl, a', _, rfl, SqT.of (sN _ _ e1), fun h => absurd h.1 (show HT.sIx 3 0 (some 1) ≠ 0 by decide), fun p np => ?_⟩
                    have w2 := same_upd (o := .tup [x2, x3]) np
                    obtain ⟨ob, hob⟩ := there (s1.trans sN) hb
                    have pb : p ≠ b := (ne_of_none hob np).symm
                    have Db : D ≠ b := (ne_of_none (s14 _ _ (there s1 hb).choose_spec) hD).symm
                    have dp : D ≠ p := ne_of_none e' np
                    have ylen : ys.length ≤ i := by rw [ya.len, List.length_map, List.length_take]; omega
                    refine ⟨ys, ?_, small60 (by omega), fun c o e => ?_, _, upd_same, ?_⟩
                    · exact w2 _ _ e'
                    · rw [upd_ne (ne_of_none e hD)]
                      exact w2 _ _ (s' c o e)
                    · rw [take_map_snoc hdi, del_upd]
                      have nD1 : H1 D = none := none_back s14 hD
                      have sub : ∀ c o, H1 c = some o → del (upd H2 p (.tup [x2, x3])) D c = some o := in_del (sN.trans w2) nD1
                      refine DxAll.snoc (.tup (xs := [x2, x3]) ?_ pb (.cons (g2.mono fun c o _ e => sub c o e) (.cons (g3.mono fun c o _ e => sub c o e) .nil))) (ya.mono fun c o _ e => ?_)
                      · rw [del_ne dp.symm]
                        exact upd_same
                      · have e2 := del_sub c o e
                        have nc : c ≠ D := fun z => by
                          rw [z, del_same] at e
                          cases e
                        rw [del_ne nc]
                        exact w2 _ _ e2
                  · rintro H2 ⟨s2'', ys, e2'', ya⟩
                    rw [hlen, List.take_length] at ya
                    have Db : D ≠ b := (ne_of_none (s14 _ _ (there s1 hb).choose_spec) hD).symm
                    refine ⟨b, .ref D, .list (ds.map restT), rfl, .lst e2'' Db (ya.mono fun c o _ e => del_sub c o e), ⟨by rw [List.length_map]; exact hl, hok.rest⟩, there ((s1.trans s14).trans s2'') hb, fun H7 s7 => ?_⟩
                    · have er : partsD (.list (ds.map restT)) = ds.all fun d => pairD (restT d) := by
                        show (true && (ds.map restT).all pairD) = _
                        rw [Bool.true_and, List.all_map]
                        rfl
                      rw [er]
                      exact q H7 (((s1.trans s14).trans s2'').trans s7)
end
end Fv


set_option Elab.async false
set_option linter.all false
set_option maxRecDepth 100000
set_option maxHeartbeats 4000000
namespace L2
open PySem PySem.Spec PyProof.Rows
variable {X : Cx} {tg : Expr}
/-- an item of a tuple that a name holds, a list or a tuple itself -/
theorem pi_rowIx {l : Expr} {i : Nat} {k : Int} (hl : PE X l (tOp (rIxT X.K) (tVar i) (tC (.int k)))) : PI X tg l (iRow X.K (tOp (rIxT X.K) (tVar i) (tC (.int k)))) := by
  constructor
  intro pins s σ H R I h
  obtain ⟨v, e, p, ys, j, z, e1, e2, e3, e4, a, xs, ev, hq, q⟩ := h
  rcases hq with hq | hq
  · exact (pi_list hl).run pins s σ H R I ⟨v, e, p, ys, j, z, e1, e2, e3, e4, a, ev, ⟨xs, hq⟩, q _ _ walk_list fun H' s => hq.same s⟩
  · exact (pi_tup hl).run pins s σ H R I ⟨v, e, p, ys, j, z, e1, e2, e3, e4, a, ev, ⟨xs, hq⟩, q _ _ walk_tup fun H' s => hq.same s⟩
end L2
namespace Fv
open PySem PySem.Spec PyProof.Rows L2
abbrev sLIsSt : Stmt := top 58
theorem rest1 {w : Str} : restD w [] = decide (w = "skip") := by
  unfold restD
  by_cases h1 : w = "skip"
  · rw [if_pos h1, decide_eq_true h1]
    rfl
  · rw [if_neg h1, decide_eq_false h1]
    split
    · rfl
    · split
      · rfl
      · split <;> rfl
theorem rest2 {w : Str} {a : PyData} : restD w [a] = (decide (w = "set") && setsD a) := by
  unfold restD
  by_cases h1 : w = "skip"
  · rw [if_pos h1, h1, show decide (("skip" : Str) = "set") = false by decide +kernel]
    rfl
  · rw [if_neg h1]
    by_cases h2 : w = "set"
    · rw [if_pos h2, decide_eq_true h2]
      rfl
    · rw [if_neg h2, decide_eq_false h2]
      split
      · rfl
      · split <;> rfl
theorem rest3 {w : Str} {a c : PyData} : restD w [a, c] = (decide (w = "most" ∨ w = "least") && (nameD a && (partsD c && !(itemsD c).isEmpty))) := by
  unfold restD
  by_cases h1 : w = "skip"
  · rw [if_pos h1, h1, show decide (("skip" : Str) = "most" ∨ ("skip" : Str) = "least") = false by decide +kernel]
    rfl
  · rw [if_neg h1]
    by_cases h2 : w = "set"
    · rw [if_pos h2, h2, show decide (("set" : Str) = "most" ∨ ("set" : Str) = "least") = false by decide +kernel]
      rfl
    · rw [if_neg h2]
      by_cases h3 : w = "most" ∨ w = "least"
      · rw [if_pos h3, decide_eq_true h3]
        rfl
      · rw [if_neg h3, decide_eq_false h3]
        split <;> rfl
theorem rest4 {w : Str} {a c e : PyData} : restD w [a, c, e] = (decide (w = "call") && (nameD a && (partsD c && namesD e))) := by
  unfold restD
  by_cases h1 : w = "skip"
  · rw [if_pos h1, h1, show decide (("skip" : Str) = "call") = false by decide +kernel]
    rfl
  · rw [if_neg h1]
    by_cases h2 : w = "set"
    · rw [if_pos h2, h2, show decide (("set" : Str) = "call") = false by decide +kernel]
      rfl
    · rw [if_neg h2]
      by_cases h3 : w = "most" ∨ w = "least"
      · rw [if_pos h3]
        have : decide (w = "call") = false := by
          rcases h3 with rfl | rfl <;> decide +kernel
        rw [this]
        rfl
      · rw [if_neg h3]
        by_cases h4 : w = "call"
        · rw [if_pos h4, decide_eq_true h4]
          rfl
        · rw [if_neg h4, decide_eq_false h4]
          rfl
theorem rest5 {w : Str} {r : List PyData} (h : 4 ≤ r.length) : restD w r = false := by
  unfold restD
  split
  · cases r with
    | nil => exact absurd h (by decide)
    | cons x r => rfl
  · split
    · exact rest_set (by omega)
    · split
      · exact rest_most (by omega)
      · split
        · exact rest_call (by omega)
        · rfl
theorem DxAll.names {C : Addr} {H : Hp} {b : Addr} : ∀ {v : List V} {d : List PyData}, DxAll C H b v d → d.all nameD = true → v = (d.map strS).map V.str
  | _, _, .nil, _ => rfl
  | _, _, .cons (v := x) (d := dx) h t, e => by
    rw [List.all_cons, Bool.and_eq_true] at e
    obtain ⟨z, rfl⟩ := name_str e.1
    cases h
    rw [List.map_cons, List.map_cons, ← DxAll.names t e.2]
    rfl
section
variable {P : Program} {w : World} {K : PySem.W.Frag} {mg : Str → Option Value} {base : Heap} {C : Addr}
theorem sd8 : FnScope ["_law_thing", "_law_one"] ["_law_thing"] (defScope sLIsSt) := ⟨rfl, rfl, rfl, by decide +kernel, rfl, by decide +kernel, by decide +kernel⟩
theorem ok_lisst {f fR fN fU fP fT : Addr} {fd fdR fdN fdU fdP fdT : FuncData} (T : KFn K C) (F : Fun K "_law_is_statement" "_law_is_statement" sLIsSt f fd)
    (GR : FnOk P w K mg base CX0 1 fR fdR ["_law_thing"] (spX C rowD)) (bR : Binds K fdR ["_law_thing"] []) (mR : mg "_law_row" = some (.ref fR)) (kR : PySem.W.keepIn K (.ref fR) = true)
    (GN : FnOk P w K mg base CX0 1 fN fdN ["_law_thing"] (spX C nameD)) (bN : Binds K fdN ["_law_thing"] []) (mN : mg "_law_name" = some (.ref fN)) (kN : PySem.W.keepIn K (.ref fN) = true)
    (GU : FnOk P w K mg base CX0 1 fU fdU ["_law_thing"] (spUnlike K)) (bU : Binds K fdU ["_law_thing"] []) (mU : mg "_law_unlike" = some (.ref fU)) (kU : PySem.W.keepIn K (.ref fU) = true)
    (GP : FnOk P w K mg base CX0 3 fP fdP ["_law_thing"] (spX C partsD)) (bP : Binds K fdP ["_law_thing"] []) (mP : mg "_law_pairs" = some (.ref fP)) (kP : PySem.W.keepIn K (.ref fP) = true)
    (GT : FnOk P w K mg base CX0 4 fT fdT ["_law_thing"] (spX C setsD)) (bT : Binds K fdT ["_law_thing"] []) (mT : mg "_law_triples" = some (.ref fT)) (kT : PySem.W.keepIn K (.ref fT) = true)
    (mq : mg "isinstance" = none) (mt : mg "tuple" = none) (ms : mg "str" = none) (ml : mg "len" = none) (mL : mg "list" = none) : FnOk P w K mg base CX0 5 f fd ["_law_thing"] (spX C stD) := by
  refine F.ok sd8 (fun vs H Q E h => ?_) (fun cdv A outer s H vs Q E hr h => ?_)
  · obtain ⟨b, v, d, rfl, _⟩ := h
    rfl
  · obtain ⟨b, v, d, rfl, hd, hs, hb, q⟩ := h
    obtain ⟨t, I⟩ := hd.isa T
    have hr1 : Room 1 _ := hr.mono (by decide)
    have hr3 : Room 3 _ := hr.mono (by decide)
    refine ⟨_, pss_cons (ps_if (PW.pt (pw_or (pt_not (pt_val (pe_callB call_isi (by rfl) mq (by decide +kernel) (pa_cons (pv 0) (pa_cons (pe_bltn (v := .ty "tuple") (by rfl) mt boot_tuple rfl) pa_nil)))))
        (pw_or (pt_cmpR op_lt (pe_callB call_len_seq (by rfl) ml PySem.boot_len (pa_cons (pv 0) pa_nil)) pe_int (nomark _))
        (pw_or1 (pt_not (pt_val (pe_callB call_isi (by rfl) mq (by decide +kernel) (pa_cons (pe_ix ix_tup (pv 0) pe_int (fun _ _ => rfl)) (pa_cons (pe_bltn (v := .ty "str") (by rfl) ms boot_str rfl) pa_nil)))))))))
        (pss_one (ps_ret pe_bl)) pss_nil)
      (pss_cons (ps_if (pt_cmpR op_eq (pe_callB call_len_seq (by rfl) ml PySem.boot_len (pa_cons (pv 0) pa_nil)) pe_int (nomark _)) (pss_one (ps_ret (pe_cmpR op_eq (pe_ix ix_tup (pv 0) pe_int (fun _ _ => rfl)) pe_str (nomark _)))) pss_nil)
      (pss_cons (ps_if (pt_cmpR op_eq (pe_callB call_len_seq (by rfl) ml PySem.boot_len (pa_cons (pv 0) pa_nil)) pe_int (nomark _)) (pss_one (ps_ret (pe_and (pe_cmpR op_eq (pe_ix ix_tup (pv 0) pe_int (fun _ _ => rfl)) pe_str (nomark _))
          (pe_one (pe_call GT hr (by rfl) mT kT bT .nil pass0 (pa_cons (pe_ix ix_tup (pv 0) pe_int (fun _ _ => rfl)) pa_nil)))))) pss_nil)
      (pss_cons (ps_if (pt_cmpR op_eq (pe_callB call_len_seq (by rfl) ml PySem.boot_len (pa_cons (pv 0) pa_nil)) pe_int (nomark _))
          (pss_one (ps_ret (pe_and (pe_cmpR op_in_seq (pe_ix ix_tup (pv 0) pe_int (fun _ _ => rfl)) (pe_tup (pa_cons pe_str (pa_cons pe_str pa_nil))) (by rfl))
            (pe_and (pe_call GN hr1 (by rfl) mN kN bN .nil pass0 (pa_cons (pe_ix ix_tup (pv 0) pe_int (fun _ _ => rfl)) pa_nil))
            (pe_and (pe_call GP hr3 (by rfl) mP kP bP .nil pass0 (pa_cons (pe_ix ix_tup (pv 0) pe_int (fun _ _ => rfl)) pa_nil))
            (pe_one (pe_cmpR op_gt (pe_callB call_len_seq (by rfl) ml PySem.boot_len (pa_cons (pe_ix ix_tup (pv 0) pe_int (fun _ _ => rfl)) pa_nil)) pe_int (nomark _)))))))) pss_nil)
      (pss_cons (ps_if (PW.pt (pw_or (pt_cmpR op_ne (pe_callB call_len_seq (by rfl) ml PySem.boot_len (pa_cons (pv 0) pa_nil)) pe_int (nomark _))
          (pw_or (pt_cmpR op_ne (pe_ix ix_tup (pv 0) pe_int (fun _ _ => rfl)) pe_str (nomark _))
          (pw_or (pt_not (pt_val (pe_call GN hr1 (by rfl) mN kN bN .nil pass0 (pa_cons (pe_ix ix_tup (pv 0) pe_int (fun _ _ => rfl)) pa_nil))))
          (pw_or1 (pt_not (pt_val (pe_call GP hr3 (by rfl) mP kP bP .nil pass0 (pa_cons (pe_ix ix_tup (pv 0) pe_int (fun _ _ => rfl)) pa_nil)))))))))
          (pss_one (ps_ret pe_bl)) pss_nil)
      (pss_cons (ps_if (PW.pt (pw_or (pt_not (pt_val (pe_call GR hr1 (by rfl) mR kR bR .nil pass0 (pa_cons (pe_ix ix_tup (pv 0) pe_int (fun _ _ => rfl)) pa_nil))))
          (pw_or1 (pt_cmpR (op_neNil hr.units)
            (pe_lc (own := [("_law_one", 1)]) (g := gName 1) rfl sd8.nd (pi_rowIx (pe_ix ix_tup (pv 0) pe_int (fun _ _ => rfl))) (blkOk_by (N := ["_law_thing", "_law_one"]) (sc := defScope sLIsSt) (by decide +kernel))
              (fun _ _ _ _ _ => pg_name (i := 1) sd8.nd rfl (Or.inl rfl))
              (fun _ _ _ _ _ => pts_one (pt_not (pt_val (pe_call GN hr1 (by rfl) mN kN bN .nil pass0 (pa_cons (pv 1) pa_nil)))))
              (fun _ _ _ _ _ => pv 1)) (pe_lst pa_nil) (nomark _)))))
          (pss_one (ps_ret pe_bl)) pss_nil)
      (pss_one (ps_ret (pe_call GU hr1 (by rfl) mU kU bU .nil pass0 (pa_cons (pe_callTy call_list_of (by rfl) mL boot_list (pa_cons (pe_ix ix_tup (pv 0) pe_int (fun _ _ => rfl)) pa_nil)) pa_nil))))))))), ?_⟩
    refine ⟨_, rfl, _, _, _, _, _, rfl, .ty "tuple", I.ty, I.t, _, rfl, ?_⟩
    cases h1 : isTupD d with
    | false =>
      rw [st_not h1] at q
      exact q H fun _ _ e => e
    | true =>
      obtain ⟨a, xs, ds, rfl, rfl, e1, hx⟩ := hd.tup_of h1
      have hlen := hx.len
      cases hx with
      | nil =>
        refine ⟨_, rfl, a, _, rfl, .inr (SqT.of e1), _, _, rfl, rfl, _, rfl, ?_⟩
        exact q H fun _ _ e => e
      | @cons x0 xr d0 dr h0 hx =>
        have hlr := hx.len
        have hok : okD d0 ∧ okAll dr := hs.2
        have hl60 : dr.length + 1 ≤ 60 := hs.1
        refine ⟨_, rfl, a, _, rfl, .inr (SqT.of e1), _, _, rfl, rfl, _, rfl, ?_⟩
        have z0 : decide ((((x0 :: xr).length : Nat) : Int) < 1) = false := by
          rw [List.length_cons]
          exact decide_eq_false (by omega)
        rw [z0]
        obtain ⟨t0, I0⟩ := h0.isa T
        refine ⟨_, rfl, a, _, _, _, rfl, rfl, SqT.of e1, atI_nat (j := 0) rfl, _, _, _, _, _, rfl, .ty "str", I0.ty, I0.s, _, rfl, ?_⟩
        cases h2 : isStrD d0 with
        | false =>
          rw [st_word h2] at q
          exact q H fun _ _ e => e
        | true =>
          obtain ⟨z, rfl, rfl⟩ := h0.str_of h2
          have fin : stD (.tuple (.str z :: dr)) = restD z dr := rfl
          rw [fin] at q
          have len1 : ∀ m : Nat, decide (V.int (((V.str z :: xr).length : Nat) : Int) = V.int ((m + 1 : Nat) : Int)) = decide (dr.length = m) := fun m => by
            rw [int_len, List.length_cons, hlr, Bool.eq_iff_iff]
            simp
          refine ⟨_, rfl, a, _, rfl, .inr (SqT.of e1), rfl, _, rfl, ite2 (fun e => ?_) (fun e => ?_)⟩
          · have n : dr.length = 0 := of_decide_eq_true ((len1 0).symm.trans e)
            obtain rfl : dr = [] := List.eq_nil_of_length_eq_zero n
            refine ⟨_, rfl, a, _, _, _, rfl, rfl, SqT.of e1, atI_nat (j := 0) rfl, rfl, ?_⟩
            show Q (V.bl (decide (V.str z = V.str "skip"))) H
            rw [str_dec]
            rw [rest1] at q
            exact q H fun _ _ e => e
          have n0 : dr.length ≠ 0 := fun n => e ((len1 0).trans (decide_eq_true n))
          refine ⟨_, rfl, a, _, rfl, .inr (SqT.of e1), rfl, _, rfl, ite2 (fun e => ?_) (fun e => ?_)⟩
          · have n : dr.length = 1 := of_decide_eq_true ((len1 1).symm.trans e)
            obtain ⟨x1, rfl⟩ := one_of (hlr.trans n)
            obtain ⟨d1, rfl, g1⟩ := hx.one
            have k1 : okD d1 := hok.2.1
            rw [rest2] at q
            refine ⟨_, rfl, a, _, _, _, rfl, rfl, SqT.of e1, atI_nat (j := 0) rfl, rfl, _, rfl, ?_⟩
            rw [str_dec]
            cases hw : decide (z = "set") with
            | false =>
              rw [hw] at q
              exact q H fun _ _ e => e
            | true =>
              rw [hw, Bool.true_and] at q
              exact iteT ⟨_, rfl, a, _, _, _, rfl, rfl, SqT.of e1, atI_nat (j := 1) rfl, b, x1, d1, rfl, g1, k1, hb, fun H1 s1 => q H1 s1⟩
          have n1 : dr.length ≠ 1 := fun n => e ((len1 1).trans (decide_eq_true n))
          refine ⟨_, rfl, a, _, rfl, .inr (SqT.of e1), rfl, _, rfl, ite2 (fun e => ?_) (fun e => ?_)⟩
          · have n : dr.length = 2 := of_decide_eq_true ((len1 2).symm.trans e)
            obtain ⟨x1, x2, rfl⟩ := two_of (hlr.trans n)
            obtain ⟨d1, d2, rfl, g1, g2⟩ := hx.two
            obtain ⟨k1, k2, _⟩ := hok.2
            rw [rest3] at q
            refine ⟨_, rfl, a, _, _, _, rfl, rfl, SqT.of e1, atI_nat (j := 0) rfl, by show 2 ≤ sizeLine; decide, fun p np => ⟨p, _, rfl, .inr (SqT.of upd_same), rfl, rfl, _, rfl, ?_⟩⟩
            have w0 := same_upd (o := .tup [.str "most", .str "least"]) np
            have ew : inV (.str z) [.str "most", .str "least"] = decide (z = "most" ∨ z = "least") := by
              refine (inV_strs z ["most", "least"]).trans ?_
              rw [Bool.eq_iff_iff]
              simp
            show (if inV (.str z) [.str "most", .str "least"] = true then _ else _)
            rw [ew]
            cases hw : decide (z = "most" ∨ z = "least") with
            | false =>
              rw [hw] at q
              exact q _ w0
            | true =>
              rw [hw, Bool.true_and] at q
              refine iteT ⟨_, rfl, a, _, _, _, rfl, rfl, SqT.of (w0 _ _ e1), atI_nat (j := 1) rfl, b, x1, d1, rfl, g1.mono fun c o _ e => w0 c o e, k1, there w0 hb, fun H1 s1 => ⟨_, rfl, ?_⟩⟩
              cases nd : nameD d1 with
              | false =>
                rw [nd] at q
                exact q H1 (w0.trans s1)
              | true =>
                rw [nd, Bool.true_and] at q
                have t1 := w0.trans s1
                refine iteT ⟨_, rfl, a, _, _, _, rfl, rfl, SqT.of (t1 _ _ e1), atI_nat (j := 2) rfl, b, x2, d2, rfl, g2.mono fun c o _ e => t1 c o e, k2, there t1 hb, fun H2 s2 => ⟨_, rfl, ?_⟩⟩
                cases pd : partsD d2 with
                | false =>
                  rw [pd] at q
                  exact q H2 (t1.trans s2)
                | true =>
                  rw [pd, Bool.true_and] at q
                  have hr0 : rowD d2 = true := by
                    unfold partsD at pd
                    exact (Bool.and_eq_true_iff.mp pd).1
                  have t2 := t1.trans s2
                  obtain ⟨a', xs', ds', rfl, hdd, hrow, hx'⟩ := (g2.mono fun c o _ e => t2 c o e).row_of (K := K) hr0
                  refine iteT ⟨_, rfl, a, _, _, _, rfl, rfl, SqT.of (t2 _ _ e1), atI_nat (j := 2) rfl, a', xs', rfl, hrow, _, _, rfl, rfl, ?_⟩
                  have e4 : decide ((0 : Int) < ((xs'.length : Nat) : Int)) = !(itemsD d2).isEmpty := by
                    rw [rows_items hdd, hx'.len]
                    cases ds' with
                    | nil => rfl
                    | cons y ys =>
                      refine (decide_eq_true ?_).trans rfl
                      rw [List.length_cons]
                      omega
                  show Q (V.bl (decide ((0 : Int) < ((xs'.length : Nat) : Int)))) H2
                  rw [e4]
                  exact q H2 t2
          have n2 : dr.length ≠ 2 := fun n => e ((len1 2).trans (decide_eq_true n))
          refine ⟨_, rfl, a, _, rfl, .inr (SqT.of e1), rfl, _, rfl, ?_⟩
          rw [show decide (V.int (((V.str z :: xr).length : Nat) : Int) = V.int 4) = decide (dr.length = 3) from len1 3]
          by_cases n3 : dr.length = 3
          · rw [decide_eq_true n3]
            obtain ⟨x1, x2, x3, rfl⟩ := three_of (hlr.trans n3)
            obtain ⟨d1, d2, d3, rfl, g1, g2, g3⟩ := hx.three
            obtain ⟨k1, k2, k3, _⟩ := hok.2
            rw [rest4] at q
            refine iteF ⟨_, rfl, a, _, _, _, rfl, rfl, SqT.of e1, atI_nat (j := 0) rfl, rfl, _, rfl, ?_⟩
            rw [str_dec]
            cases hw : decide (z = "call") with
            | false =>
              rw [hw] at q
              exact q H fun _ _ e => e
            | true =>
              rw [hw, Bool.true_and] at q
              refine iteF ⟨_, rfl, a, _, _, _, rfl, rfl, SqT.of e1, atI_nat (j := 1) rfl, b, x1, d1, rfl, g1, k1, hb, fun H1 s1 => ⟨_, rfl, ?_⟩⟩
              cases nd : nameD d1 with
              | false =>
                rw [nd] at q
                exact q H1 s1
              | true =>
                rw [nd, Bool.true_and] at q
                refine iteF ⟨_, rfl, a, _, _, _, rfl, rfl, SqT.of (s1 _ _ e1), atI_nat (j := 2) rfl, b, x2, d2, rfl, g2.mono fun c o _ e => s1 c o e, k2, there s1 hb, fun H2 s2 => ⟨_, rfl, ?_⟩⟩
                have t2 := s1.trans s2
                cases pd : partsD d2 with
                | false =>
                  rw [pd] at q
                  exact q H2 t2
                | true =>
                  rw [pd, Bool.true_and] at q
                  refine iteF ⟨_, rfl, a, _, _, _, rfl, rfl, SqT.of (t2 _ _ e1), atI_nat (j := 3) rfl, b, x3, d3, rfl, g3.mono fun c o _ e => t2 c o e, k3, there t2 hb, fun H3 s3 => ⟨_, rfl, ?_⟩⟩
                  have t3 := t2.trans s3
                  have em : namesD d3 = (rowD d3 && (itemsD d3).all nameD && decide ((itemsD d3).map strS).Nodup) := rfl
                  rw [em] at q
                  cases h0 : rowD d3 with
                  | false =>
                    rw [h0] at q
                    exact q H3 t3
                  | true =>
                    rw [h0, Bool.true_and] at q
                    obtain ⟨a', xs', ds', rfl, hdd, hrow, hx'⟩ := (g3.mono fun c o _ e => t3 c o e).row_of (K := K) h0
                    rw [rows_items hdd] at q
                    obtain ⟨hl, hok'⟩ := rows_ok hdd k3
                    have hlen' := hx'.len
                    refine iteF ⟨_, rfl, a, _, _, _, rfl, rfl, SqT.of (t3 _ _ e1), atI_nat (j := 3) rfl, a', xs', rfl, hrow, fun J G wk hG D hD => ?_⟩
                    refine lc_it wk (fun i H' => Same H3 H' ∧ ∃ ys : List V, H' D = some (.lst ys) ∧ ys.length ≤ i ∧ ys.isEmpty = (ds'.take i).all nameD) ⟨same_upd hD, [], upd_same, Nat.le_refl _, by simp⟩ (fun i H' _ h => hG H' h.1) ?_ ?_
                    · rintro i x H' H2 hi ⟨s', ys, e', yl, ye⟩ ⟨rfl, hxi⟩
                      obtain ⟨dx, hdi, hdx0⟩ := hx'.get hxi
                      have snoc := all_take_snoc (p := nameD) hdi
                      refine ⟨rfl, _, rfl, b, x, dx, rfl, hdx0.mono fun c o _ e => s' c o e, hok'.mem dx (List.mem_of_getElem? hdi), there (t3.trans s') hb, fun H4 s4 => ⟨_, rfl, ?_⟩⟩
                      cases hn : nameD dx with
                      | true =>
                        refine iteF ⟨s'.trans s4, ys, s4 _ _ e', by omega, ?_⟩
                        rw [snoc, hn, Bool.and_true]
                        exact ye
                      | false =>
                        refine iteT ⟨_, rfl, ys, s4 _ _ e', small60 (by omega), fun c o e => by rw [upd_ne (ne_of_none e hD)]; exact s4 _ _ (s' c o e), _, upd_same, by simp; omega, ?_⟩
                        rw [snoc, hn, Bool.and_false]
                        cases ys <;> rfl
                    · rintro H4 ⟨s4, ys, e4', _, ye⟩
                      rw [hlen', List.take_length] at ye
                      refine ⟨Nat.zero_le _, fun p np => ?_⟩
                      have w1 := same_upd (o := .lst []) np
                      refine ⟨D, p, _, rfl, rfl, SqL.of (w1 _ _ e4'), SqL.of upd_same, _, rfl, ?_⟩
                      rw [ye]
                      have s5 := s4.trans w1
                      cases hn : ds'.all nameD with
                      | false =>
                        rw [hn] at q
                        exact q _ (t3.trans s5)
                      | true =>
                        rw [hn, Bool.true_and] at q
                        have ez : xs' = (ds'.map strS).map V.str := hx'.names hn
                        refine iteF ⟨_, rfl, a, _, _, _, rfl, rfl, SqT.of (s5 _ _ (t3 _ _ e1)), atI_nat (j := 3) rfl, a', xs', rfl, hrow.imp (fun h => h.same s5) (fun h => h.same s5), fun l nl => ?_⟩
                        have w2 := same_upd (o := .lst xs') nl
                        refine ⟨l, ds'.map strS, rfl, SqL.of (by rw [← ez]; exact upd_same), by rw [List.length_map]; exact hl, fun H6 s6 => ?_⟩
                        exact q H6 (((t3.trans s5).trans w2).trans s6)
          · rw [decide_eq_false n3]
            rw [rest5 (by omega)] at q
            exact q H fun _ _ e => e
end
end Fv


set_option Elab.async false
set_option linter.all false
set_option maxRecDepth 100000
set_option maxHeartbeats 4000000
namespace Fv
open PySem PySem.Spec PyProof.Rows L2
abbrev sParts : Stmt := top 27
abbrev sNumbers : Stmt := top 24
/-- the parts of a statement -/
def partsOf : PyData → List PyData
  | .tuple [.str _, p] => itemsD p
  | .tuple (_ :: _ :: p :: _) => itemsD p
  | _ => []
/-- a statement by its words -/
inductive StShape : PyData → Prop
  | skip : StShape (.tuple [.str "skip"])
  | set {p : PyData} : setsD p = true → StShape (.tuple [.str "set", p])
  | most {w x : Str} {p : PyData} : (w = "most" ∨ w = "least") → nameD (.str x) = true → partsD p = true → (itemsD p).isEmpty = false → StShape (.tuple [.str w, .str x, p])
  | call {x : Str} {p r : PyData} : nameD (.str x) = true → partsD p = true → namesD r = true → StShape (.tuple [.str "call", .str x, p, r])
theorem st_shape {d : PyData} (h : stD d = true) : StShape d := by
  unfold stD at h
  split at h
  · rename_i w r
    match r with
    | [] =>
      rw [rest1] at h
      rw [of_decide_eq_true h]
      exact .skip
    | [p] =>
      rw [rest2, Bool.and_eq_true] at h
      rw [of_decide_eq_true h.1]
      exact .set h.2
    | [x, p] =>
      rw [rest3, Bool.and_eq_true, Bool.and_eq_true, Bool.and_eq_true] at h
      obtain ⟨z, rfl⟩ := name_str h.2.1
      exact .most (of_decide_eq_true h.1) h.2.1 h.2.2.1 (by simpa using h.2.2.2)
    | [x, p, r] =>
      rw [rest4, Bool.and_eq_true, Bool.and_eq_true, Bool.and_eq_true] at h
      obtain ⟨z, rfl⟩ := name_str h.2.1
      rw [of_decide_eq_true h.1]
      exact .call h.2.1 h.2.2.1 h.2.2.2
    | _ :: _ :: _ :: _ :: r =>
      rw [rest5 (by simp)] at h
      cases h
  · cases h
def spParts (K : PySem.W.Frag) (C : Addr) : Sp := fun vs H Q _ => ∃ (b : Addr) (v : V) (d : PyData), vs = [v] ∧ Dx C H b v d ∧ okD d ∧ stD d = true ∧ (∃ o, H b = some o) ∧
  ∀ (H' : Hp) (p : Addr) (xs : List V), Same H H' → p ≠ b → SqT K H' p xs → DxAll C H' b xs (partsOf d) → Q (.ref p) H'
theorem row_sets {d : PyData} (h : setsD d = true) : rowD d = true := by
  unfold setsD at h
  rw [Bool.and_eq_true, Bool.and_eq_true] at h
  exact h.1.1
theorem row_parts {d : PyData} (h : partsD d = true) : rowD d = true := by
  unfold partsD at h
  rw [Bool.and_eq_true] at h
  exact h.1
section
variable {P : Program} {w : World} {K : PySem.W.Frag} {mg : Str → Option Value} {base : Heap} {C : Addr}
theorem sc10 : FnScope ["statement"] ["statement"] (defScope sParts) := ⟨rfl, rfl, rfl, by decide +kernel, rfl, by decide +kernel, by decide +kernel⟩
theorem ok_parts {f aP : Addr} {fd : FuncData} (F : Fun K "_parts" "_parts" sParts f fd) (mP : mg "PARTS" = some (.ref aP)) (p1 : KDct K w aP "set" (.int 1)) (p2 : ∀ z : Str, z = "most" ∨ z = "least" ∨ z = "call" → KDct K w aP z (.int 2)) (mt : mg "tuple" = none) :
    FnOk P w K mg base CX0 1 f fd ["statement"] (spParts K C) := by
  refine F.ok sc10 (fun vs H Q E h => ?_) (fun cdv A outer s H vs Q E hr h => ?_)
  · obtain ⟨b, v, d, rfl, _⟩ := h
    rfl
  · obtain ⟨b, v, d, rfl, hd, hs, hst, ⟨ob, hb⟩, q⟩ := h
    refine ⟨_, pss_cons (ps_if (pt_cmpR op_eq (pe_ix ix_tup (pv 0) pe_int (fun _ _ => rfl)) pe_str (nomark _)) (pss_one (ps_ret (pe_tup pa_nil))) pss_nil)
      (pss_one (ps_ret (pe_callTy call_tuple_of (by rfl) mt boot_tuple (pa_cons (pe_ix ix_tup (pv 0) (pe_ix ix_kdict (pe_glob (v := .ref aP) (by rfl) mP rfl) (pe_ix ix_tup (pv 0) pe_int (fun _ _ => rfl)) (fun _ _ => rfl)) (fun _ _ => rfl)) pa_nil)))), ?_⟩
    have go : ∀ {H0 : Hp} {x : V} {dp : PyData}, H0 = H → Dx C H b x dp → rowD dp = true → ∃ p ys, [x] = [V.ref p] ∧ ((SqL K H p ys ∧ ∀ l, H l = none → (∀ (H' : Hp) (p : Addr) (xs : List V), Same H H' → p ≠ b → SqT K H' p xs → DxAll C H' b xs (itemsD dp) → Q (.ref p) H') → Q (.ref l) (upd H l (.tup ys))) ∨
        (SqT K H p ys ∧ ((∀ (H' : Hp) (p : Addr) (xs : List V), Same H H' → p ≠ b → SqT K H' p xs → DxAll C H' b xs (itemsD dp) → Q (.ref p) H') → Q (.ref p) H))) := fun {H0 x dp} _ hx hrow => by
      cases hx with
      | lst e n h =>
        refine ⟨_, _, rfl, .inl ⟨SqL.of e, fun l nl k => ?_⟩⟩
        exact k _ l _ (same_upd nl) (ne_of_none hb nl).symm (SqT.of upd_same) (h.mono fun c o _ e => same_upd nl c o e)
      | tup e n h => exact ⟨_, _, rfl, .inr ⟨SqT.of e, fun k => k H _ _ (fun _ _ e => e) n (SqT.of e) h⟩⟩
      | _ => cases hrow
    obtain ⟨a, xs, ds, rfl, ed, e1, hx⟩ := hd.tup_of (by
      have := st_shape hst
      cases this <;> rfl)
    have sh := st_shape hst
    cases sh with
    | skip =>
      cases ed
      cases hx with
      | cons h0 hx =>
        cases h0
        refine ⟨_, rfl, a, _, _, _, rfl, rfl, SqT.of e1, atI_nat (j := 0) rfl, rfl, _, rfl, ?_⟩
        refine ⟨Nat.zero_le _, fun p np => ?_⟩
        exact q _ p [] (same_upd np) (ne_of_none hb np).symm (SqT.of upd_same) .nil
    | set h =>
      cases ed
      cases hx with
      | cons h0 hx =>
        cases h0
        obtain ⟨x1, rfl⟩ := one_of hx.len
        obtain ⟨d1, ed, g1⟩ := hx.one
        cases ed
        refine ⟨_, rfl, a, _, _, _, rfl, rfl, SqT.of e1, atI_nat (j := 0) rfl, rfl, _, rfl, ?_⟩
        refine ⟨_, rfl, _, rfl, a, _, _, _, rfl, rfl, SqT.of e1, atI_nat (j := 0) rfl, aP, _, _, rfl, rfl, p1, a, _, _, _, rfl, rfl, SqT.of e1, atI_nat (j := 1) rfl, ?_⟩
        obtain ⟨p, ys, ep, hh⟩ := go rfl g1 (row_sets h)
        refine ⟨p, ys, ep, hh.imp (fun ⟨u, v⟩ => ⟨u, fun l nl => v l nl q⟩) fun ⟨u, v⟩ => ⟨u, v q⟩⟩
    | @most zw zx zp hw h2 h3 h4 =>
      cases ed
      cases hx with
      | cons h0 hx =>
        cases h0
        obtain ⟨x1, x2, rfl⟩ := two_of hx.len
        obtain ⟨d1, d2, ed, g1, g2⟩ := hx.two
        cases ed
        have nw : decide (V.str zw = V.str "skip") = false := by
          rw [str_dec]
          rcases hw with rfl | rfl <;> decide +kernel
        refine ⟨_, rfl, a, _, _, _, rfl, rfl, SqT.of e1, atI_nat (j := 0) rfl, rfl, _, rfl, ?_⟩
        rw [nw]
        refine iteF ⟨_, rfl, _, rfl, a, _, _, _, rfl, rfl, SqT.of e1, atI_nat (j := 0) rfl, aP, _, _, rfl, rfl, p2 _ (hw.elim .inl fun z => .inr (.inl z)), a, _, _, _, rfl, rfl, SqT.of e1, atI_nat (j := 2) rfl, ?_⟩
        obtain ⟨p, ys, ep, hh⟩ := go rfl g2 (row_parts h3)
        refine ⟨p, ys, ep, hh.imp (fun ⟨u, v⟩ => ⟨u, fun l nl => v l nl q⟩) fun ⟨u, v⟩ => ⟨u, v q⟩⟩
    | call h2 h3 h4 =>
      cases ed
      cases hx with
      | cons h0 hx =>
        cases h0
        obtain ⟨x1, x2, x3, rfl⟩ := three_of hx.len
        obtain ⟨d1, d2, d3, ed, g1, g2, g3⟩ := hx.three
        cases ed
        have nw : decide (V.str "call" = V.str "skip") = false := by
          rw [str_dec]
          decide +kernel
        refine ⟨_, rfl, a, _, _, _, rfl, rfl, SqT.of e1, atI_nat (j := 0) rfl, rfl, _, rfl, ?_⟩
        rw [nw]
        refine iteF ⟨_, rfl, _, rfl, a, _, _, _, rfl, rfl, SqT.of e1, atI_nat (j := 0) rfl, aP, _, _, rfl, rfl, p2 _ (.inr (.inr rfl)), a, _, _, _, rfl, rfl, SqT.of e1, atI_nat (j := 2) rfl, ?_⟩
        obtain ⟨p, ys, ep, hh⟩ := go rfl g2 (row_parts h3)
        refine ⟨p, ys, ep, hh.imp (fun ⟨u, v⟩ => ⟨u, fun l nl => v l nl q⟩) fun ⟨u, v⟩ => ⟨u, v q⟩⟩
end
end Fv


set_option Elab.async false
set_option linter.all false
set_option maxRecDepth 100000
set_option maxHeartbeats 4000000
namespace Fv
open PySem PySem.Spec PyProof.Rows L2
/-- a part's last, its source -/
def lastI : PyData → Int
  | .tuple [_, .int c] => c
  | .tuple [_, _, .int c] => c
  | _ => 0
def srcS : PyData → Str
  | .tuple [.str y, _] => y
  | .tuple [_, .str y, _] => y
  | _ => ""
def numsOf (d : PyData) : List Int := (partsOf d).map lastI
theorem source_str {d : PyData} (h : sourceD d = true) : ∃ z, d = .str z := by
  cases d <;> first | exact ⟨_, rfl⟩ | cases h
theorem int_of {d : PyData} (h : intD d = true) : ∃ i, d = .int i := by
  cases d <;> first | exact ⟨_, rfl⟩ | cases h
theorem pair_shape {d : PyData} (h : pairD d = true) : ∃ y c, d = .tuple [.str y, .int c] := by
  unfold pairD at h
  split at h
  · rw [Bool.and_eq_true] at h
    obtain ⟨y, rfl⟩ := source_str h.1
    obtain ⟨c, rfl⟩ := int_of h.2
    exact ⟨y, c, rfl⟩
  · cases h
theorem trip_shape {d : PyData} (h : tripD d = true) : ∃ x y c, d = .tuple [.str x, .str y, .int c] := by
  unfold tripD at h
  split at h
  · rw [Bool.and_eq_true, Bool.and_eq_true] at h
    obtain ⟨x, rfl⟩ := name_str h.1.1
    obtain ⟨y, rfl⟩ := source_str h.1.2
    obtain ⟨c, rfl⟩ := int_of h.2
    exact ⟨x, y, c, rfl⟩
  · cases h
/-- each part ends with a source and an integer -/
theorem part_of {d e : PyData} (h : stD d = true) (he : e ∈ partsOf d) : (∃ y c, e = .tuple [.str y, .int c]) ∨ ∃ x y c, e = .tuple [.str x, .str y, .int c] := by
  have sh := st_shape h
  have pp : ∀ {p : PyData}, partsD p = true → e ∈ itemsD p → ∃ y c, e = .tuple [.str y, .int c] := fun {p} hp hm => by
    unfold partsD at hp
    rw [Bool.and_eq_true] at hp
    exact pair_shape (List.all_eq_true.mp hp.2 e hm)
  cases sh with
  | skip => cases he
  | set hp =>
    unfold setsD at hp
    rw [Bool.and_eq_true, Bool.and_eq_true] at hp
    exact .inr (trip_shape (List.all_eq_true.mp hp.1.2 e he))
  | most _ _ hp _ => exact .inl (pp hp he)
  | call _ hp _ => exact .inl (pp hp he)
theorem part_last {C : Addr} {H : Hp} {b : Addr} {x : V} {d e : PyData} (h : stD d = true) (he : e ∈ partsOf d) (g : Dx C H b x e) : ∃ a xs, x = .ref a ∧ H a = some (.tup xs) ∧ atI xs (-1) = some (.int (lastI e)) ∧ atI xs (-2) = some (.str (srcS e)) := by
  rcases part_of h he with ⟨y, c, rfl⟩ | ⟨x', y, c, rfl⟩
  · obtain ⟨a, xs, ds, rfl, ed, e1, hx⟩ := g.tup_of rfl
    cases ed
    obtain ⟨v1, v2, rfl⟩ := two_of hx.len
    obtain ⟨_, _, ee, g1, g2⟩ := hx.two
    cases ee
    cases g1
    cases g2
    exact ⟨a, _, rfl, e1, rfl, rfl⟩
  · obtain ⟨a, xs, ds, rfl, ed, e1, hx⟩ := g.tup_of rfl
    cases ed
    obtain ⟨v1, v2, v3, rfl⟩ := three_of hx.len
    obtain ⟨_, _, _, ee, g1, g2, g3⟩ := hx.three
    cases ee
    cases g1
    cases g2
    cases g3
    exact ⟨a, _, rfl, e1, rfl, rfl⟩
theorem parts_len {d : PyData} (h : okD d) (hs : stD d = true) : (partsOf d).length ≤ 60 := by
  have row : ∀ {p : PyData}, okD p → (itemsD p).length ≤ 60 := fun {p} hp => by
    cases p <;> first | exact Nat.zero_le _ | exact hp.1
  have sh := st_shape hs
  cases sh with
  | skip => exact Nat.zero_le _
  | set hp => exact row (show okD _ from h.2.2.1)
  | most _ _ _ _ => exact row (show okD _ from h.2.2.2.1)
  | call _ _ _ => exact row (show okD _ from h.2.2.2.1)
def spNums (C : Addr) : Sp := fun vs H Q _ => ∃ (b : Addr) (v : V) (d : PyData), vs = [v] ∧ Dx C H b v d ∧ okD d ∧ stD d = true ∧ (∃ o, H b = some o) ∧
  ∀ (H' : Hp) (p : Addr), Same H H' → H p = none → H' p = some (.lst ((numsOf d).map V.int)) → Q (.ref p) H'
section
variable {P : Program} {w : World} {K : PySem.W.Frag} {mg : Str → Option Value} {base : Heap} {C : Addr}
theorem sc11 : FnScope ["statement", "part"] ["statement"] (defScope sNumbers) := ⟨rfl, rfl, rfl, by decide +kernel, rfl, by decide +kernel, by decide +kernel⟩
theorem ok_numbers {f fP : Addr} {fd fdP : FuncData} (F : Fun K "numbers" "numbers" sNumbers f fd) (GP : FnOk P w K mg base CX0 1 fP fdP ["statement"] (spParts K C)) (bP : Binds K fdP ["statement"] []) (mP : mg "_parts" = some (.ref fP)) (kP : PySem.W.keepIn K (.ref fP) = true) :
    FnOk P w K mg base CX0 2 f fd ["statement"] (spNums C) := by
  refine F.ok sc11 (fun vs H Q E h => ?_) (fun cdv A outer s H vs Q E hr h => ?_)
  · obtain ⟨b, v, d, rfl, _⟩ := h
    rfl
  · obtain ⟨b, v, d, rfl, hd, hs, hst, hb, q⟩ := h
    refine ⟨_, pss_one (ps_ret (pe_lc (own := [("part", 1)]) (g := gName 1) (tt := tYes) rfl sc11.nd (pi_tup (pe_call GP hr (by rfl) mP kP bP .nil pass0 (pa_cons (pv 0) pa_nil))) (blkOk_by (N := ["statement", "part"]) (sc := defScope sNumbers) (by decide +kernel))
        (fun _ _ _ _ _ => pg_name (i := 1) sc11.nd rfl (Or.inl rfl)) (fun _ _ _ _ _ => pts_nil) (fun _ _ _ _ _ => pe_ix (r := rIxT K) ix_tup (pv 1) (pe_un un_neg pe_int) (fun _ _ => rfl)))), ?_⟩
    refine ⟨_, rfl, b, v, d, rfl, hd, hs, hst, hb, fun H1 p xs s1 pb hp hx => ⟨p, rfl, ⟨xs, hp⟩, fun D hD => ?_⟩⟩
    have hlen := hx.len
    have hl := parts_len hs hst
    refine lc_tup (K := K) (a := p) (xs := xs) (fun i H' => Same H1 H' ∧ H' D = some (.lst (((partsOf d).take i).map fun e => V.int (lastI e)))) ⟨same_upd hD, upd_same⟩ (fun i H' _ h => hp.same h.1) ?_ ?_
    · rintro i x H' hxi ⟨s', e'⟩
      obtain ⟨e, hdi, hdx⟩ := hx.get hxi
      obtain ⟨a, ys, rfl, e1, l1, _⟩ := part_last hst (List.mem_of_getElem? hdi) hdx
      refine ⟨rfl, _, rfl, 1, rfl, a, ys, -1, _, rfl, rfl, SqT.of (s' _ _ e1), l1, _, e', ?_, fun c o e => ?_, ?_⟩
      · rw [List.length_map, List.length_take]
        exact small60 (by omega)
      · rw [upd_ne (ne_of_none e hD)]
        exact s' c o e
      · rw [upd_same, take_map_snoc hdi]
    · rintro H2 ⟨s2, e2⟩
      rw [hlen, List.take_length] at e2
      refine q H2 D (s1.trans s2) (none_back s1 hD) ?_
      rw [e2]
      unfold numsOf
      rw [List.map_map]
      rfl
end
end Fv


set_option Elab.async false
set_option linter.all false
set_option maxRecDepth 100000
set_option maxHeartbeats 4000000
namespace Fv
open PySem PySem.Spec PyProof.Rows L2
abbrev sFrozen : Stmt := top 21
def fz : PyData → PyData
  | .list l => .tuple l
  | d => d
def frozenD : PyData → PyData
  | .tuple ds => .tuple (ds.map fz)
  | d => d
theorem fz_not {d : PyData} (h : rowD d = false) : fz d = d := by cases d <;> first | rfl | cases h
theorem DqAll.snoc {H : Hp} {b : Addr} {v : V} {d : PyData} (h : Dq H b v d) : ∀ {vs : List V} {ds : List PyData}, DqAll H b vs ds → DqAll H b (vs ++ [v]) (ds ++ [d])
  | _, _, .nil => .cons h .nil
  | _, _, .cons g t => .cons g (DqAll.snoc h t)
theorem DqAll.len {H : Hp} {b : Addr} : ∀ {v : List V} {d : List PyData}, DqAll H b v d → v.length = d.length
  | _, _, .nil => rfl
  | _, _, .cons _ t => by rw [List.length_cons, List.length_cons, DqAll.len t]
theorem DqAll.at_ {H : Hp} {b : Addr} : ∀ {v : List V} {d : List PyData} {i : Nat} {x : V}, DqAll H b v d → v[i]? = some x → ∃ e, d[i]? = some e ∧ Dq H b x e
  | _, _, 0, _, .cons h _, e => ⟨_, rfl, by cases e; exact h⟩
  | _, _, i + 1, _, .cons _ t, e => DqAll.at_ (i := i) t e
theorem Dq.tup_of {H : Hp} {b : Addr} {v : V} {d : PyData} (h : Dq H b v d) (e : isTupD d = true) : ∃ a xs ds, v = .ref a ∧ a ≠ b ∧ d = .tuple ds ∧ H a = some (.tup xs) ∧ DqAll H b xs ds := by
  cases h with
  | tup e1 n h => exact ⟨_, _, _, rfl, n, rfl, e1, h⟩
  | _ => cases e
theorem st_tup {d : PyData} (h : stD d = true) : isTupD d = true := by
  have := st_shape h
  cases this <;> rfl
/-- the same with tuples for lists -/
def spFrozen : Sp := fun vs H Q _ => ∃ (b : Addr) (v : V) (d : PyData), vs = [v] ∧ Dq H b v d ∧ okD d ∧ stD d = true ∧ (∃ o, H b = some o) ∧
  ∀ (H' : Hp) (p : Addr), Same H H' → Dq H' b (.ref p) (frozenD d) → Q (.ref p) H'
def rTupOf (K : PySem.W.Frag) : List V → Hp → VK → Prop := fun xs H Q => ∃ p ys, xs = [.ref p] ∧ ((SqL K H p ys ∧ ∀ l, H l = none → Q (.ref l) (upd H l (.tup ys))) ∨ (SqT K H p ys ∧ Q (.ref p) H))
section
variable {P : Program} {w : World} {K : PySem.W.Frag} {mg : Str → Option Value} {base : Heap} {C : Addr}
theorem sc12 : FnScope ["statement", "item"] ["statement"] (defScope sFrozen) := ⟨rfl, rfl, rfl, by decide +kernel, rfl, by decide +kernel, by decide +kernel⟩
theorem ok_frozen {f fR : Addr} {fd fdR : FuncData} (F : Fun K "frozen" "frozen" sFrozen f fd) (GR : FnOk P w K mg base CX0 1 fR fdR ["thing"] (spX C rowD)) (bR : Binds K fdR ["thing"] []) (mR : mg "is_row" = some (.ref fR)) (kR : PySem.W.keepIn K (.ref fR) = true)
    (mt : mg "tuple" = none) : FnOk P w K mg base CX0 2 f fd ["statement"] spFrozen := by
  refine F.ok sc12 (fun vs H Q E h => ?_) (fun cdv A outer s H vs Q E hr h => ?_)
  · obtain ⟨b, v, d, rfl, _⟩ := h
    rfl
  · obtain ⟨b, v, d, rfl, hd, hs, hst, hb, q⟩ := h
    refine ⟨_, pss_one (ps_ret (pe_callTy call_tuple_of (by rfl) mt boot_tuple (pa_cons
      (pe_lc (own := [("item", 1)]) (g := gName 1) (tt := tYes) rfl sc12.nd (pi_tup (pv 0)) (blkOk_by (N := ["statement", "item"]) (sc := defScope sFrozen) (by decide +kernel))
        (fun _ _ _ _ _ => pg_name (i := 1) sc12.nd rfl (Or.inl rfl)) (fun _ _ _ _ _ => pts_nil)
        (fun _ _ _ _ _ => pe_ifExp (pt_val (pe_call GR hr (by rfl) mR kR bR .nil pass0 (pa_cons (pv 1) pa_nil))) (pe_callTy (T := "tuple") (r := rTupOf K) call_tuple_of (by rfl) mt boot_tuple (pa_cons (pv 1) pa_nil)) (pv 1))) pa_nil))), ?_⟩
    obtain ⟨a, xs, ds, rfl, ab, rfl, e1, hx⟩ := hd.tup_of (st_tup hst)
    have hlen := hx.len
    have hok : ds.length ≤ 60 ∧ okAll ds := hs
    refine ⟨_, rfl, a, rfl, ⟨xs, SqT.of e1⟩, fun D hD => ?_⟩
    have sub : ∀ {H' H4 : Hp}, Same H' H4 → ∀ c o, del H' D c = some o → del H4 D c = some o := fun {H' H4} s c o e => by
      have nc : c ≠ D := fun z => by
        rw [z, del_same] at e
        cases e
      rw [del_ne nc]
      exact s c o (del_sub c o e)
    refine lc_tup (K := K) (a := a) (xs := xs) (fun i H' => Same H H' ∧ ∃ ys : List V, H' D = some (.lst ys) ∧ DqAll (del H' D) b ys ((ds.take i).map fz)) ⟨same_upd hD, [], upd_same, .nil⟩ (fun i H' _ h => SqT.of (h.1 _ _ e1)) ?_ ?_
    · rintro i x H' hxi ⟨s', ys, e', ya⟩
      obtain ⟨dx, hdi, hdx⟩ := hx.at_ hxi
      have yl : ys.length ≤ i := by rw [ya.len, List.length_map, List.length_take]; omega
      have hi : i < ds.length := (List.getElem?_eq_some_iff.mp hdi).1
      have put : ∀ (H4 : Hp) (y : V), Same H' H4 → Dq (del H4 D) b y (fz dx) → ∃ acc, H4 D = some (.lst acc) ∧ acc.length < sizeLine ∧ Same H (upd H4 D (.lst (acc ++ [y]))) ∧ ∃ ys : List V, (upd H4 D (.lst (acc ++ [y]))) D = some (.lst ys) ∧ DqAll (del (upd H4 D (.lst (acc ++ [y]))) D) b ys ((ds.take (i + 1)).map fz) := fun H4 y s4 hy => by
        refine ⟨ys, s4 _ _ e', small60 (by omega), fun c o e => ?_, _, upd_same, ?_⟩
        · rw [upd_ne (ne_of_none e hD)]
          exact s4 _ _ (s' c o e)
        · rw [del_upd, take_map_snoc hdi]
          exact DqAll.snoc hy (ya.mono fun c o _ e => sub s4 c o e)
      refine ⟨rfl, _, rfl, b, x, dx, rfl, (hdx.mono fun c o _ e => s' c o e).x, hok.2.mem dx (List.mem_of_getElem? hdi), there s' hb, fun H3 s3 => ?_⟩
      have s03 := s'.trans s3
      have inD : ∀ c o, H c = some o → del H3 D c = some o := in_del s03 hD
      cases hr0 : rowD dx with
      | false =>
        refine ⟨_, rfl, iteF ⟨_, rfl, put H3 x s3 ?_⟩⟩
        rw [fz_not hr0]
        exact hdx.mono fun c o _ e => inD c o e
      | true =>
        cases hdx with
        | @lst al xl dl el nl ml hl =>
          refine ⟨_, rfl, iteT ⟨_, rfl, al, xl, rfl, .inl ⟨SqL.of (s03 _ _ el), fun l fl => ?_⟩⟩⟩
          obtain ⟨ob, hob⟩ := there s03 hb
          refine put _ _ (s3.trans (same_upd fl)) (.tup (xs := xl) ?_ (ne_of_none hob fl).symm (hl.mono fun c o _ e => sub (same_upd fl) c o (inD c o e)))
          have lD : l ≠ D := (ne_of_none (s3 _ _ e') fl).symm
          rw [del_ne lD]
          exact upd_same
        | @tup al xl dl el nl hl =>
          exact ⟨_, rfl, iteT ⟨_, rfl, al, xl, rfl, .inr ⟨SqT.of (s03 _ _ el), put H3 _ s3 (.tup (inD _ _ el) nl (hl.mono fun c o _ e => inD c o e))⟩⟩⟩
        | _ => cases hr0
    · rintro H2 ⟨s2, ys, e2, ya⟩
      rw [hlen, List.take_length] at ya
      refine ⟨D, ys, rfl, .inl ⟨SqL.of e2, fun l fl => ?_⟩⟩
      obtain ⟨ob, hob⟩ := there s2 hb
      have w1 := same_upd (o := .tup ys) fl
      exact q _ l (s2.trans w1) (.tup upd_same (ne_of_none hob fl).symm (ya.mono fun c o _ e => w1 c o (del_sub c o e)))
end
end Fv


set_option Elab.async false
set_option linter.all false
set_option maxRecDepth 100000
set_option maxHeartbeats 2000000
namespace Fv
open PySem PySem.Spec PyProof.Rows L2
abbrev sAlike : Stmt := top 42
mutual
theorem Dq.dp {K : PySem.W.Frag} {H : Hp} {b : Addr} : ∀ {v : V} {d : PyData}, Dq H b v d → d.canLay0 = true → Dp K H v d
  | _, _, .non, _ => .non
  | _, _, .bl x, _ => .bl x
  | _, _, .int i, _ => .int i
  | _, _, .str x, _ => .str x
  | _, _, .lst e _ _ h, c => .lst (SqL.of e) (DqAll.dp h (by simpa only [PyData.canLay0] using c))
  | _, _, .tup e _ h, c => .tup (SqT.of e) (DqAll.dp h (by simpa only [PyData.canLay0] using c))
  | _, _, .dct _ _ _ _, c => by simp [PyData.canLay0] at c
theorem DqAll.dp {K : PySem.W.Frag} {H : Hp} {b : Addr} : ∀ {v : List V} {d : List PyData}, DqAll H b v d → PyData.canLayAll0 d = true → DpAll K H v d
  | _, _, .nil, _ => .nil
  | _, _, .cons h t, c => by
    simp only [PyData.canLayAll0, Bool.and_eq_true] at c
    exact .cons (Dq.dp h c.1) (DqAll.dp t c.2)
end
structure Flat (d : PyData) : Prop extends Fine d where
  shape : SeqAt.shaped d = true
def spAlike : Sp := fun vs H Q _ => ∃ (b : Addr) (x y : V) (d : PyData), vs = [x, y] ∧ Dq H b x d ∧ Dq H b y d ∧ Flat d ∧ Q (.bl true) H
section
variable {P : Program} {w : World} {K : PySem.W.Frag} {mg : Str → Option Value} {base : Heap}
theorem sd9 : FnScope ["_law_found", "_law_due"] ["_law_found", "_law_due"] (defScope sAlike) := ⟨rfl, rfl, rfl, by decide +kernel, rfl, by decide +kernel, by decide +kernel⟩
theorem ok_alike {f : Addr} {fd : FuncData} (F : Fun K "_law_alike" "_law_alike" sAlike f fd) (mr : mg "repr" = none) : FnG P w K mg base 1 f fd ["_law_found", "_law_due"] spAlike := by
  refine okG F sd9 (fun vs H Q E h => ?_) (fun cdv A outer s H vs Q E hg hr h => ?_)
  · obtain ⟨b, x, y, d, rfl, _⟩ := h
    rfl
  · obtain ⟨b, x, y, d, rfl, hx, hy, fl, q⟩ := h
    refine ⟨_, pss_one (ps_ret (pe_and (pe_cmpR (op_eqD hr.units) (pv 0) (pv 1) (nomark _))
      (pe_one (pe_cmpR op_eq (pe_callB (call_reprD hg hr.units) (by rfl) mr (by decide +kernel) (pa_cons (pv 0) pa_nil)) (pe_callB (call_reprD hg hr.units) (by rfl) mr (by decide +kernel) (pa_cons (pv 1) pa_nil)) (nomark _))))), ?_⟩
    have cl := SeqAt.canLay_of_shaped fl.shape
    refine ⟨_, rfl, _, rfl, d, d, hx.dp cl, hy.dp cl, fl.shape, fl.shape, _, rfl, ?_⟩
    rw [SeqAt.eqv_refl d cl]
    refine iteT ⟨_, rfl, b, _, d, rfl, hx, fl.show_, fl.line, fl.low, _, rfl, b, _, d, rfl, hy, fl.show_, fl.line, fl.low, rfl, ?_⟩
    show Q (V.bl (decide (V.str d.shown = V.str d.shown))) H
    rw [decide_eq_true rfl]
    exact q
end
end Fv


set_option Elab.async false
set_option linter.all false
set_option maxRecDepth 100000
set_option maxHeartbeats 4000000
namespace Fv
open PySem PySem.Spec PyProof.Rows L2
abbrev sNames : Stmt := top 44
/-- letters a to z alone -/
def asc (z : Str) : Prop := ∀ c ∈ z.cps.toList, c ∈ abc.cps.toList
theorem toList_add (x y : Str) : (x ++ y).cps.toList = x.cps.toList ++ y.cps.toList := by
  show (x.cps ++ y.cps).toList = _
  simp
theorem asc_add {x y : Str} (h : asc x) (k : asc y) : asc (x ++ y) := by
  intro c hc
  rw [toList_add] at hc
  exact (List.mem_append.mp hc).elim (h c) (k c)
theorem asc_cut {z : Str} (h : asc z) (lo hi : Option Int) : asc (cutS z lo hi) := by
  intro c hc
  unfold cutS at hc
  have h1 := List.mem_of_mem_take (show c ∈ _ from by simpa using hc)
  exact h c (List.mem_of_mem_drop h1)
theorem asc_one {z : Str} (h : asc z) {i : Nat} {c : Nat} (e : z.cps.toList[i]? = some c) : asc ⟨#[c]⟩ := by
  intro x hx
  have : x = c := by simpa using hx
  rw [this]
  exact h c (List.mem_of_getElem? e)
theorem len_list (z : Str) : z.cps.toList.length = z.length := by simp [Str.length]
theorem abc_len : abc.length = 26 := by decide +kernel
theorem abc_asc : asc abc := fun _ h => h
theorem line300 {n : Nat} (h : n ≤ 300) : n ≤ sizeLine := Nat.le_trans h (by decide)
theorem cut_parts (z : Str) (k : Nat) : (cutS z none (some (k : Int))).length + (cutS z (some (k : Int)) none).length = z.length := by
  unfold cutS Str.length
  simp only [HT.sIx_none, HT.sIx_nat]
  simp
  omega
def NmOk (z : Str) : Prop := 1 ≤ z.length ∧ z.length ≤ 8 ∧ asc z
theorem NmOk.name {z : Str} (h : NmOk z) : nameS z = true := by
  unfold nameS
  rw [decide_eq_true h.1, decide_eq_true h.2.1]
  simp only [Bool.true_and, List.all_eq_true, decide_eq_true_eq]
  exact h.2.2
theorem nm_of {z : Str} (h : nameS z = true) : NmOk z := by
  unfold nameS at h
  simp only [Bool.and_eq_true, decide_eq_true_eq, List.all_eq_true] at h
  exact ⟨h.1.1, h.1.2, h.2⟩
theorem nz26 : (26 : Int) ≠ 0 := by decide
def one (c : Nat) : Str := ⟨#[c]⟩
theorem join_ones : ∀ cs : List Nat, Str.join "" (cs.map one) = ⟨cs.toArray⟩
  | [] => by decide +kernel
  | [c] => rfl
  | c :: d :: r => by
    have ih := join_ones (d :: r)
    show one c ++ "" ++ Str.join "" ((d :: r).map one) = _
    rw [ih]
    have e : ∀ x y : Str, x.cps.toList = y.cps.toList → x = y := by
      rintro ⟨x⟩ ⟨y⟩ h
      have : x = y := by simpa using h
      rw [this]
    apply e
    rw [toList_add, toList_add]
    have e0 : ("" : Str).cps.toList = [] := by decide +kernel
    rw [e0]
    simp [one]
theorem sum_ones : ∀ cs : List Nat, ((cs.map one).map (·.length)).sum = cs.length
  | [] => rfl
  | c :: r => by
    rw [List.map_cons, List.map_cons, List.sum_cons, sum_ones r]
    show 1 + r.length = r.length + 1
    omega
theorem cut_map {α : Type} (f : α → V) (xs : List α) (lo hi : Option Int) : cutV (xs.map f) lo hi = ((xs.drop (HT.sIx xs.length 0 lo)).take (HT.sIx xs.length xs.length hi - HT.sIx xs.length 0 lo)).map f := by
  unfold cutV
  rw [List.length_map, ← List.map_drop, ← List.map_take]
theorem tops (WS : List Str) (t m : Nat) (hm : m ≤ WS.length) : ∃ zs : List Str, cutV (cutV (WS.map V.str) (some (t : Int)) none ++ cutV (WS.map V.str) none (some (t : Int))) none (some (m : Int)) = zs.map V.str ∧ zs.length = m ∧ ∀ z ∈ zs, z ∈ WS := by
  rw [cut_map, cut_map, ← List.map_append, cut_map]
  refine ⟨_, rfl, ?_, ?_⟩
  · simp only [HT.sIx_none, HT.sIx_nat, List.length_take, List.length_drop, List.length_append, List.drop_zero, Nat.sub_zero]
    omega
  · intro z hz
    have h1 := List.mem_of_mem_drop (List.mem_of_mem_take hz)
    rcases List.mem_append.mp h1 with q | q
    · exact List.mem_of_mem_drop (List.mem_of_mem_take q)
    · exact List.mem_of_mem_drop (List.mem_of_mem_take q)
def spNames : Sp := fun vs H Q _ => ∃ (b : Addr) (m : Nat), vs = [.ref b, .int m] ∧ Bag H b ∧ 1 ≤ m ∧ m ≤ 20 ∧ ∀ (p : Addr) (zs : List Str) (H' : Hp), H' p = some (.lst (zs.map V.str)) → zs.length = m → p ≠ b → (∀ z ∈ zs, NmOk z) → Bag H' b → Keep b H H' → Q (.ref p) H'
section
variable {P : Program} {w : World} {K : PySem.W.Frag} {mg : Str → Option Value} {base : Heap}
abbrev nN : List Str := ["_law_bag_here", "_law_many", "_law_letters", "_law_words", "_law_style", "_law_turn", "_law_base", "_law_at", "_law_k"]
theorem scN : FnScope nN ["_law_bag_here", "_law_many"] (defScope sNames) := ⟨rfl, rfl, rfl, by decide +kernel, rfl, by decide +kernel, by decide +kernel⟩
theorem ok_names {f fT : Addr} {fd fdT : FuncData} (F : Fun K "_law_names" "_law_names" sNames f fd) (GT : FnOk P w K mg base CX0 1 fT fdT ["_law_bag_here", "_law_many"] spTake) (bT : Binds K fdT ["_law_bag_here", "_law_many"] []) (mT : mg "_law_take" = some (.ref fT)) (kT : PySem.W.keepIn K (.ref fT) = true)
    (mr : mg "range" = none) (ml : mg "len" = none) (mi : mg "int" = none) : FnOk P w K mg base CX0 3 f fd ["_law_bag_here", "_law_many"] spNames := by
  refine F.ok scN (fun vs H Q E h => ?_) (fun cdv A outer s H vs Q E hr h => ?_)
  · obtain ⟨b, m, rfl, _⟩ := h
    rfl
  · obtain ⟨b, m, rfl, B, m1, m2, q⟩ := h
    have hr1 : Room 1 _ := hr.mono (by decide)
    refine ⟨_, pss_cons (ps_set (i := 2) scN.nd rfl (.inr rfl) pe_str)
      (pss_cons (ps_set (i := 3) scN.nd rfl (.inl rfl) pe_str)
      (pss_cons (ps_set (i := 3) scN.nd rfl (.inl rfl) (pe_split (pe_op op_add_str (pv 3) pe_str) pe_str))
      (pss_cons (ps_asg (pe_tup (pa_cons (pe_call GT hr1 (by rfl) mT kT bT .nil pass0 (pa_cons (pv 0) (pa_cons pe_int pa_nil))) (pa_cons (pe_call GT hr1 (by rfl) mT kT bT .nil pass0 (pa_cons (pv 0) (pa_cons pe_int pa_nil))) pa_nil)))
          (pg_tup (by rfl) (pgs_cons (pg_name (i := 4) scN.nd rfl (.inl rfl)) (pgs_cons (pg_name (i := 5) scN.nd rfl (.inr rfl)) pgs_nil))))
      (pss_cons (ps_set (i := 6) scN.nd rfl (.inr rfl) (pe_join pe_str
          (pe_lc (own := [("_law_k", 8)]) (g := gName 8) (tt := tYes) rfl scN.nd (pi_range1 (by rfl) mr (pa_cons (pe_op op_add pe_int (pe_call GT hr1 (by rfl) mT kT bT .nil pass0 (pa_cons (pv 0) (pa_cons pe_int pa_nil)))) pa_nil)) (blkOk_by (N := nN) (sc := defScope sNames) (by decide +kernel))
            (fun _ _ _ _ _ => pg_name (i := 8) scN.nd rfl (Or.inl rfl)) (fun _ _ _ _ _ => pts_nil) (fun _ _ _ _ _ => pe_ix ix_str (pv 2) (pe_call GT hr1 (by rfl) mT kT bT .nil pass0 (pa_cons (pv 0) (pa_cons pe_int pa_nil))) (fun _ _ => rfl)))))
      (pss_cons (ps_set (i := 7) scN.nd rfl (.inr rfl) (pe_call GT hr1 (by rfl) mT kT bT .nil pass0 (pa_cons (pv 0) (pa_cons (pe_op op_add (pe_callB call_len_str (by rfl) ml PySem.boot_len (pa_cons (pv 6) pa_nil)) pe_int) pa_nil))))
      (pss_cons (ps_if (pt_cmpR op_eq (pv 4) pe_int (nomark _))
        (pss_one (ps_ret (pe_slice sl_list (pe_op op_cat (pe_slice sl_list (pv 3) (po_some (pv 5)) po_none) (pe_slice sl_list (pv 3) po_none (po_some (pv 5)))) po_none (po_some (pv 1))))) pss_nil)
      (pss_cons (ps_if (pt_cmpR op_eq (pv 4) pe_int (nomark _))
        (pss_one (ps_ret (pe_lc (own := [("_law_k", 8)]) (g := gName 8) (tt := tYes) rfl scN.nd (pi_range1 (by rfl) mr (pa_cons (pv 1) pa_nil)) (blkOk_by (N := nN) (sc := defScope sNames) (by decide +kernel))
            (fun _ _ _ _ _ => pg_name (i := 8) scN.nd rfl (Or.inl rfl)) (fun _ _ _ _ _ => pts_nil) (fun _ _ _ _ _ => pe_ix ix_str (pv 2) (pe_op op_modN (pe_callTy call_int1 (by rfl) mi (by decide +kernel) (pa_cons (pe_op op_add (pv 5) (pe_op op_mul pe_int (pv 8))) pa_nil)) pe_int) (fun _ _ => rfl))))) pss_nil)
      (pss_one (ps_ret (pe_lc (own := [("_law_k", 8)]) (g := gName 8) (tt := tYes) rfl scN.nd (pi_range1 (by rfl) mr (pa_cons (pv 1) pa_nil)) (blkOk_by (N := nN) (sc := defScope sNames) (by decide +kernel))
            (fun _ _ _ _ _ => pg_name (i := 8) scN.nd rfl (Or.inl rfl)) (fun _ _ _ _ _ => pts_nil) (fun _ _ _ _ _ => pe_op op_add_str (pe_op op_add_str (pe_slice sl_str (pv 6) po_none (po_some (pv 7))) (pe_ix ix_str (pv 2) (pe_op op_modN (pe_callTy call_int1 (by rfl) mi (by decide +kernel) (pa_cons (pe_op op_add (pv 5) (pe_op op_mul pe_int (pv 8))) pa_nil)) pe_int) (fun _ _ => rfl)))
              (pe_slice sl_str (pv 6) (po_some (pv 7)) po_none)))))))))))), ?_⟩
    refine asgC (asgC ?_)
    refine ⟨_, rfl, _, _, rfl, rfl, by decide +kernel, ⟨_, rfl⟩, _, _, rfl, rfl, by decide +kernel, by decide +kernel, fun pw npw => ?_⟩
    dsimp only
    generalize eW : Txt.split _ _ = WS
    have lW : WS.length = 25 := by
      rw [← eW]
      decide +kernel
    have nW : ∀ z ∈ WS, NmOk z := by
      rw [← eW]
      exact fun z hz => nm_of (List.all_eq_true.mp (by decide +kernel) z hz)
    have B1 := B.new (o := .lst (WS.map V.str)) npw
    have pwb : pw ≠ b := by
      obtain ⟨o, e⟩ := B.at_b
      exact (ne_of_none e npw).symm
    refine ⟨_, rfl, b, 4, rfl, B1, by decide, by decide, fun st H2 h2 B2 k2 _ => ?_⟩
    refine ⟨_, rfl, b, 20, rfl, B2, by decide, by decide, fun tu H3 h3 B3 k3 _ => ?_⟩
    refine ⟨by show 2 ≤ sizeLine; decide, fun t nt => ⟨t, _, rfl, SqT.of upd_same, rfl, _, _, rfl, _, _, rfl, rfl, ?_⟩⟩
    have B4 := B3.new (o := .tup [.int st, .int tu]) nt
    have k04 : Keep b H (upd H3 t (.tup [.int st, .int tu])) := (((Keep.new npw).trans k2).trans k3).trans (Keep.new nt)
    have ew4 : (upd H3 t (.tup [.int st, .int tu])) pw = some (.lst (WS.map V.str)) := by
      have e := k3 _ _ pwb (k2 _ _ pwb upd_same)
      rw [upd_ne (ne_of_none e nt)]
      exact e
    refine ⟨⟨_, rfl⟩, _, rfl, b, 7, rfl, B4, by decide, by decide, fun n7 H5 h5 B5 k5 _ => ?_⟩
    have k05 := k04.trans k5
    have ew5 := k5 _ _ pwb ew4
    refine ⟨_, _, rfl, rfl, 1 + (n7 : Int), rfl, by omega, by omega, fun D hD => ?_⟩
    obtain ⟨c0, B5c⟩ := B5
    obtain ⟨B5n, Db, Dc⟩ := BagAt.new (o := .lst []) B5c hD
    have Dw : D ≠ pw := (ne_of_none ew5 hD).symm
    have free : ∀ a o, H a = some o → a ≠ b → a ≠ D := fun a o e n => ne_of_none (k05 a o n e) hD
    refine lc_range (lo := 0) (n := (1 + (n7 : Int)).toNat) (fun i H' => BagAt H' b c0 ∧ Keep b H H' ∧ H' pw = some (.lst (WS.map V.str)) ∧ ∃ cs : List Nat, cs.length = i ∧ (∀ c ∈ cs, c ∈ abc.cps.toList) ∧ H' D = some (.lst ((cs.map one).map V.str)))
      ⟨B5n, k05.trans (Keep.new hD), by rw [upd_ne Dw.symm]; exact ew5, [], rfl, fun _ h => absurd h List.not_mem_nil, upd_same⟩ ?_ ?_
    · rintro i H' hi ⟨B', k', ew', cs, cl, ca, eD⟩
      refine ⟨rfl, _, rfl, _, rfl, b, 26, rfl, B'.bag, by decide, by decide, fun r H6 h6 B6 k6 g6 => ?_⟩
      have hl : r < abc.cps.toList.length := by rw [len_list, abc_len]; omega
      have ec := List.getElem?_eq_getElem hl
      refine ⟨abc, r, _, rfl, rfl, line300 (by rw [abc_len]; decide), atI_nat ec, _, k6 _ _ Db eD, ?_, (g6 _ B').put Db Dc, fun a o n e => ?_, ?_, cs ++ [abc.cps.toList[r]], by simp [cl], ?_, ?_⟩
      · rw [List.length_map, List.length_map]
        exact small1000 (by omega)
      · rw [upd_ne (free a o e n)]
        exact k6 a o n (k' a o n e)
      · rw [upd_ne Dw.symm]
        exact k6 _ _ pwb ew'
      · intro c hc
        rcases List.mem_append.mp hc with z | z
        · exact ca c z
        · rw [List.mem_singleton.mp z]
          exact abc_asc _ (List.getElem_mem hl)
      · rw [upd_same, List.map_append, List.map_append]
        rfl
    · rintro H6 ⟨B6, k6, ew6, cs, cl, ca, eD⟩
      have cl8 : cs.length ≤ 7 := by omega
      refine ⟨_, D, cs.map one, rfl, rfl, .inl (SqL.of eD), ?_, ?_⟩
      · rw [sum_ones, List.length_map]
        have e0 : ("" : Str).length = 0 := by decide +kernel
        rw [e0]
        omega
      rw [TL.join_eq, join_ones]
      obtain ⟨bs, ebs⟩ : ∃ bs : Str, bs = ⟨cs.toArray⟩ := ⟨_, rfl⟩
      have bl : bs.length = cs.length := by rw [ebs]; simp [Str.length]
      have ba : asc bs := by
        rw [ebs]
        intro c hc
        exact ca c (by simpa using hc)
      rw [← ebs]
      refine ⟨_, rfl, _, rfl, bs, rfl, line300 (by omega), _, _, rfl, rfl, b, (bs.length : Int) + 1, rfl, B6.bag, by omega, by omega, fun at_ H7 h7 B7 k7 g7 => ?_⟩
      have k07 := k6.trans k7
      have ew7 := k7 _ _ pwb ew6
      have B7c := g7 _ B6
      refine ⟨_, rfl, rfl, _, rfl, ite2 (fun e => ?_) (fun e => ?_)⟩
      · refine ⟨_, rfl, _, rfl, _, rfl, pw, _, rfl, SqL.of ew7, fun x1 n1 => ?_⟩
        have x1w : pw ≠ x1 := ne_of_none ew7 n1
        refine ⟨_, rfl, _, rfl, _, rfl, pw, _, rfl, SqL.of (by rw [upd_ne x1w]; exact ew7), fun x2 n2 => ?_⟩
        have x12 : x1 ≠ x2 := ne_of_none upd_same n2
        refine ⟨x1, x2, _, _, rfl, rfl, by rw [upd_ne x12]; exact upd_same, upd_same, ?_, fun x3 n3 => ?_⟩
        · rw [cut_map, cut_map, List.length_map, List.length_map, List.length_take, List.length_take, List.length_drop, List.length_drop]
          simp only [HT.sIx_none, HT.sIx_nat]
          exact line300 (by omega)
        refine ⟨_, rfl, _, rfl, x3, _, rfl, SqL.of upd_same, fun x4 n4 => ?_⟩
        obtain ⟨zs, ez, zl, zm⟩ := tops WS tu m (by omega)
        rw [ez]
        have K3 := (((Keep.new (b := b) (o := .lst (cutV (WS.map V.str) (some (tu : Int)) none)) n1).trans (Keep.new n2)).trans (Keep.new n3)).trans (Keep.new (o := .lst (zs.map V.str)) n4)
        obtain ⟨C1, _⟩ := B7c.new n1
        obtain ⟨C2, _⟩ := C1.new n2
        obtain ⟨C3, _⟩ := C2.new n3
        obtain ⟨C4, y1, _⟩ := C3.new (o := .lst (zs.map V.str)) n4
        exact q x4 zs _ upd_same zl y1 (fun z h => nW z (zm z h)) C4.bag (k07.trans K3)
      · refine ⟨_, rfl, rfl, _, rfl, ite2 (fun e => ?_) (fun e => ?_)⟩
        · refine ⟨_, rfl, _, rfl, by omega, by omega, fun G hG => ?_⟩
          obtain ⟨C7, Gb, Gc⟩ := BagAt.new (o := .lst []) B7c hG
          have free2 : ∀ a o, H a = some o → a ≠ b → a ≠ G := fun a o e n => ne_of_none (k07 a o n e) hG
          refine lc_range (lo := 0) (n := ((m : Int)).toNat) (fun i H' => BagAt H' b c0 ∧ Keep b H H' ∧ ∃ zs : List Str, zs.length = i ∧ (∀ z ∈ zs, NmOk z) ∧ H' G = some (.lst (zs.map V.str)))
            ⟨C7, k07.trans (Keep.new hG), [], rfl, fun _ h => absurd h List.not_mem_nil, upd_same⟩ ?_ ?_
          · rintro i H' hi ⟨B', k', zs, zl, zo, eG⟩
            obtain ⟨r, er, r1⟩ := modN (a := (tu : Int) + 3 * (0 + (i : Int))) (m := 26) (by omega) (by decide)
            have hl : r < abc.cps.toList.length := by rw [len_list, abc_len]; omega
            have ec := List.getElem?_eq_getElem hl
            refine ⟨rfl, _, rfl, _, rfl, _, rfl, _, _, rfl, rfl, .inl ⟨by decide, by decide⟩, _, _, rfl, rfl, .inl ⟨_, rfl, _, _, rfl, rfl, nz26, abc, _, _, rfl, rfl, line300 (by rw [abc_len]; decide), by rw [er]; exact atI_nat ec, ?_⟩⟩
            refine ⟨_, eG, ?_, B'.put Gb Gc, fun a o n e => ?_, zs ++ [one (abc.cps.toList[r])], by simp [zl], ?_, ?_⟩
            · rw [List.length_map]
              exact small1000 (by omega)
            · rw [upd_ne (free2 a o e n)]
              exact k' a o n e
            · intro z hz
              rcases List.mem_append.mp hz with y | y
              · exact zo z y
              · rw [List.mem_singleton.mp y]
                exact ⟨by show 1 ≤ 1; decide, by show 1 ≤ 8; decide, asc_one abc_asc ec⟩
            · rw [upd_same, List.map_append]
              rfl
          · rintro H8 ⟨B8, k8, zs, zl, zo, eG⟩
            exact q G zs H8 eG (by omega) Gb zo B8.bag k8
        · refine ⟨_, rfl, _, rfl, by omega, by omega, fun G hG => ?_⟩
          obtain ⟨C7, Gb, Gc⟩ := BagAt.new (o := .lst []) B7c hG
          have free2 : ∀ a o, H a = some o → a ≠ b → a ≠ G := fun a o e n => ne_of_none (k07 a o n e) hG
          refine lc_range (lo := 0) (n := ((m : Int)).toNat) (fun i H' => BagAt H' b c0 ∧ Keep b H H' ∧ ∃ zs : List Str, zs.length = i ∧ (∀ z ∈ zs, NmOk z) ∧ H' G = some (.lst (zs.map V.str)))
            ⟨C7, k07.trans (Keep.new hG), [], rfl, fun _ h => absurd h List.not_mem_nil, upd_same⟩ ?_ ?_
          · rintro i H' hi ⟨B', k', zs, zl, zo, eG⟩
            obtain ⟨r, er, r1⟩ := modN (a := (tu : Int) + 3 * (0 + (i : Int))) (m := 26) (by omega) (by decide)
            have hl : r < abc.cps.toList.length := by rw [len_list, abc_len]; omega
            have ec := List.getElem?_eq_getElem hl
            have l1 : (⟨#[abc.cps.toList[r]]⟩ : Str).length = 1 := rfl
            have c1 := cutS_length bs none (some (at_ : Int))
            have c2 := cutS_length bs (some (at_ : Int)) none
            refine ⟨rfl, _, rfl, _, rfl, _, rfl, bs, rfl, line300 (by omega), ?_⟩
            refine ⟨_, rfl, _, rfl, _, rfl, _, _, rfl, rfl, .inl ⟨by decide, by decide⟩, _, _, rfl, rfl, .inl ⟨_, rfl, _, _, rfl, rfl, nz26, abc, _, _, rfl, rfl, line300 (by rw [abc_len]; decide), by rw [er]; exact atI_nat ec, ?_⟩⟩
            refine ⟨_, _, rfl, rfl, line300 (by rw [l1]; omega), _, rfl, _, rfl, _, rfl, bs, rfl, line300 (by omega), _, _, rfl, rfl, line300 (by rw [strLen_append, l1]; omega), ?_⟩
            refine ⟨_, eG, ?_, B'.put Gb Gc, fun a o n e => ?_, zs ++ [cutS bs none (some (at_ : Int)) ++ ⟨#[abc.cps.toList[r]]⟩ ++ cutS bs (some (at_ : Int)) none], by simp [zl], ?_, ?_⟩
            · rw [List.length_map]
              exact small1000 (by omega)
            · rw [upd_ne (free2 a o e n)]
              exact k' a o n e
            · intro z hz
              rcases List.mem_append.mp hz with y | y
              · exact zo z y
              · rw [List.mem_singleton.mp y]
                have cp := cut_parts bs at_
                exact ⟨by rw [strLen_append, strLen_append, l1]; omega, by rw [strLen_append, strLen_append, l1]; omega, asc_add (asc_add (asc_cut ba _ _) (asc_one abc_asc ec)) (asc_cut ba _ _)⟩
            · rw [upd_same, List.map_append]
              rfl
          · rintro H8 ⟨B8, k8, zs, zl, zo, eG⟩
            exact q G zs H8 eG (by omega) Gb zo B8.bag k8
end
end Fv


set_option Elab.async false
set_option linter.all false
set_option maxRecDepth 100000
set_option maxHeartbeats 4000000
namespace Fv
open PySem PySem.Spec PyProof.Rows L2
abbrev sKinds : Stmt := top 46
def kindS (k : Str) : Prop := k = "plain" ∨ k = "high" ∨ k = "low"
/-- the kinds of names, each name once -/
def kinV (ks : List (Str × Str)) : List (Key × V) := ks.map fun p => (Sum.inr p.1, .str p.2)
structure KindsOk (ks : List (Str × Str)) : Prop where
  nd : (ks.map (·.1)).Nodup
  nm : ∀ p ∈ ks, NmOk p.1
  kd : ∀ p ∈ ks, kindS p.2
theorem kinds_put {ks : List (Str × Str)} (h : KindsOk ks) {z k : Str} (hz : NmOk z) (hk : kindS k) : ∃ ks', putK (kinV ks) (Sum.inr z) (.str k) = kinV ks' ∧ KindsOk ks' ∧ ks'.length ≤ ks.length + 1 ∧ 0 < ks'.length := by
  unfold putK
  by_cases c : ((kinV ks).any fun kv => decide (kv.1 = Sum.inr z)) = true
  · rw [if_pos c]
    refine ⟨ks.map fun p => if p.1 = z then (p.1, k) else p, ?_, ⟨?_, ?_, ?_⟩, by rw [List.length_map]; omega, ?_⟩
    · unfold kinV
      rw [List.map_map, List.map_map]
      refine List.map_congr_left fun p _ => ?_
      by_cases e : p.1 = z
      · simp [e]
      · simp [e]
    · rw [List.map_map]
      have : ((fun x : Str × Str => x.1) ∘ fun p : Str × Str => if p.1 = z then (p.1, k) else p) = fun p => p.1 := by
        funext p
        by_cases e : p.1 = z
        · simp [e]
        · simp [e]
      rw [this]
      exact h.nd
    · intro p hp
      obtain ⟨p0, h0, rfl⟩ := List.mem_map.mp hp
      by_cases e : p0.1 = z
      · simp only [e, if_true]
        exact hz
      · simp only [e, if_false]
        exact h.nm p0 h0
    · intro p hp
      obtain ⟨p0, h0, rfl⟩ := List.mem_map.mp hp
      by_cases e : p0.1 = z
      · simp only [e, if_true]
        exact hk
      · simp only [e, if_false]
        exact h.kd p0 h0
    · rw [List.length_map]
      cases ks with
      | nil => simp [kinV] at c
      | cons x xs => simp
  · rw [if_neg c]
    refine ⟨ks ++ [(z, k)], by unfold kinV; rw [List.map_append]; rfl, ⟨?_, ?_, ?_⟩, by simp, by simp⟩
    · rw [List.map_append]
      refine List.nodup_append.mpr ⟨h.nd, by simp, fun x hx y hy e => ?_⟩
      have ey : y = z := by simpa using hy
      subst ey
      subst e
      obtain ⟨p, hp, ep⟩ := List.mem_map.mp hx
      apply c
      rw [List.any_eq_true]
      exact ⟨(Sum.inr p.1, .str p.2), List.mem_map.mpr ⟨p, hp, rfl⟩, by simpa using ep⟩
    · intro p hp
      rcases List.mem_append.mp hp with q | q
      · exact h.nm p q
      · rw [List.mem_singleton.mp q]
        exact hz
    · intro p hp
      rcases List.mem_append.mp hp with q | q
      · exact h.kd p q
      · rw [List.mem_singleton.mp q]
        exact hk
def spKinds : Sp := fun vs H Q _ => ∃ (b a : Addr) (zs : List Str), vs = [.ref b, .ref a] ∧ Bag H b ∧ a ≠ b ∧ H a = some (.lst (zs.map V.str)) ∧ zs.length ≤ 20 ∧ (∀ z ∈ zs, NmOk z) ∧
  ∀ (p : Addr) (ks : List (Str × Str)) (H' : Hp), H p = none → H' p = some (.dK (kinV ks)) → KindsOk ks → ks.length ≤ zs.length → (zs ≠ [] → 0 < ks.length) → Bag H' b → Keep b H H' → (∀ c, BagAt H b c → BagAt H' b c) → Q (.ref p) H'
section
variable {P : Program} {w : World} {K : PySem.W.Frag} {mg : Str → Option Value} {base : Heap}
theorem scKi : FnScope ["_law_bag_here", "_law_names_here", "_law_style", "_law_kinds_here", "_law_name_here"] ["_law_bag_here", "_law_names_here"] (defScope sKinds) := ⟨rfl, rfl, rfl, by decide +kernel, rfl, by decide +kernel, by decide +kernel⟩
theorem ok_kinds {f fT : Addr} {fd fdT : FuncData} (F : Fun K "_law_kinds" "_law_kinds" sKinds f fd) (GT : FnOk P w K mg base CX0 1 fT fdT ["_law_bag_here", "_law_many"] spTake) (bT : Binds K fdT ["_law_bag_here", "_law_many"] []) (mT : mg "_law_take" = some (.ref fT)) (kT : PySem.W.keepIn K (.ref fT) = true) :
    FnOk P w K mg base CX0 2 f fd ["_law_bag_here", "_law_names_here"] spKinds := by
  refine F.ok scKi (fun vs H Q E h => ?_) (fun cdv A outer s H vs Q E hr h => ?_)
  · obtain ⟨b, a, zs, rfl, _⟩ := h
    rfl
  · obtain ⟨b, a, zs, rfl, B, ab, ha, hl, hz, q⟩ := h
    refine ⟨_, pss_cons (ps_par (i := 2) (j := 3) (by rfl) scKi.nd rfl rfl (by decide) rfl rfl (pa_cons (pe_call GT hr (by rfl) mT kT bT .nil pass0 (pa_cons (pv 0) (pa_cons pe_int pa_nil))) (pa_cons pe_dnewK pa_nil)) (by rfl))
      (pss_cons (ps_for PassesOwn.never rfl (pi_list (pv 1)) (pg_name (i := 4) scKi.nd rfl (.inl rfl))
        (pss_one (ps_asg (pe_ifExp (pt_cmpR op_eq (pv 2) pe_int (nomark _)) pe_str
            (pe_ix ix_list (pe_lst (pa_cons pe_str (pa_cons pe_str (pa_cons pe_str (pa_cons pe_str pa_nil))))) (pe_call GT hr (by rfl) mT kT bT .nil pass0 (pa_cons (pv 0) (pa_cons pe_int pa_nil))) (fun _ _ => rfl)))
          (pg_sub (pv 3) (pv 4) (set_dict (Nat.lt_of_le_of_lt (Nat.le_refl _) (hu_of hr)))))))
      (pss_one (ps_ret (pv 3)))), ?_⟩
    obtain ⟨c0, B0⟩ := B
    refine ⟨_, rfl, b, 3, rfl, BagAt.bag B0, by decide, by decide, fun st H1 h1 B1 k1 g1 => fun p np => ⟨_, _, rfl, ?_⟩⟩
    have B1c := g1 _ B0
    obtain ⟨B2, pb, pc⟩ := BagAt.new (o := .dK []) B1c np
    have ea : (upd H1 p (.dK [])) a = some (.lst (zs.map V.str)) := by rw [upd_ne (ne_of_none (k1 _ _ ab ha) np)]; exact k1 _ _ ab ha
    have pa : a ≠ p := ne_of_none (k1 _ _ ab ha) np
    have np0 : H p = none := by
      cases e : H p with
      | none => rfl
      | some o =>
        have := k1 p o pb e
        rw [np] at this
        cases this
    refine ⟨_, rfl, a, rfl, ⟨_, SqL.of ea⟩, ?_⟩
    refine for_list (K := K) (a := a) (xs := zs.map V.str) (fun i σ H' => ∃ y : Option V, σ = [some (.ref b), some (.ref a), some (.int st), some (.ref p), y] ∧ BagAt H' b c0 ∧ Keep b H H' ∧ H' a = some (.lst (zs.map V.str)) ∧ ∃ ks, H' p = some (.dK (kinV ks)) ∧ KindsOk ks ∧ ks.length ≤ i ∧ (0 < i → 0 < ks.length))
      ⟨none, rfl, B2, k1.trans (Keep.new np), ea, [], upd_same, ⟨.nil, fun _ h => (by cases h), fun _ h => (by cases h)⟩, Nat.le_refl _, fun h => absurd h (Nat.lt_irrefl _)⟩ (fun i σ H' _ h => ?_) ?_ ?_
    · obtain ⟨y, _, _, _, e, _⟩ := h
      exact SqL.of e
    · rintro i x σ H2 hx ⟨y, rfl, B2, k2, e2, ks, ep, ok, kl, kp⟩
      obtain ⟨z, hzi, rfl⟩ : ∃ z, zs[i]? = some z ∧ x = V.str z := by
        rw [List.getElem?_map] at hx
        cases e : zs[i]? with
        | none => rw [e] at hx; cases hx
        | some z => rw [e] at hx; exact ⟨z, rfl, (Option.some.inj hx).symm⟩
      have hzn := hz z (List.mem_of_getElem? hzi)
      have hi : i < zs.length := (List.getElem?_eq_some_iff.mp hzi).1
      -- the store of a kind
      have put : ∀ {H3 : Hp} {k : Str}, kindS k → BagAt H3 b c0 → Keep b H H3 → H3 a = some (.lst (zs.map V.str)) → H3 p = some (.dK (kinV ks)) →
          ∃ a' H', V.ref p = .ref a' ∧ DPut H3 a' (.str z) (.str k) H' ∧ ∃ y : Option V, [some (.ref b), some (.ref a), some (.int st), some (.ref p), some (V.str z)] = [some (.ref b), some (.ref a), some (.int st), some (.ref p), y] ∧ BagAt H' b c0 ∧ Keep b H H' ∧ H' a = some (.lst (zs.map V.str)) ∧ ∃ ks, H' p = some (.dK (kinV ks)) ∧ KindsOk ks ∧ ks.length ≤ i + 1 ∧ (0 < i + 1 → 0 < ks.length) := fun {H3 k} hk B3 k3 e3 ep3 => by
        obtain ⟨ks', ek, ok', kl', kp'⟩ := kinds_put ok hzn hk
        refine ⟨p, _, rfl, DPut.k (k := Sum.inr z) ep3 (by unfold kinV; rw [List.length_map]; exact small1000 (by omega)), _, rfl, B3.put pb pc, fun c o n e => ?_, by rw [upd_ne pa]; exact e3, ks', by rw [upd_same, ek], ok', by omega, fun _ => kp'⟩
        rw [upd_ne (ne_of_none e np0)]
        exact k3 c o n e
      refine ⟨_, rfl, rfl, _, rfl, ite2 (fun e => ?_) (fun e => ?_)⟩
      · exact ⟨_, rfl, _, rfl, put (.inl rfl) B2 k2 e2 ep⟩
      · refine ⟨by show 4 ≤ sizeLine; decide, fun L nL => ?_⟩
        obtain ⟨B3, Lb, Lc⟩ := BagAt.new (o := .lst [.str "plain", .str "plain", .str "high", .str "low"]) B2 nL
        refine ⟨_, rfl, b, 4, rfl, BagAt.bag B3, by decide, by decide, fun r H3 h3 B4 k4 g4 => ?_⟩
        obtain ⟨k, ek, hk⟩ : ∃ k : Str, ([.str "plain", .str "plain", .str "high", .str "low"] : List V)[r]? = some (.str k) ∧ kindS k := by
          have h4 : r < 4 := by omega
          match r, h4 with
          | 0, _ => exact ⟨_, rfl, .inl rfl⟩
          | 1, _ => exact ⟨_, rfl, .inl rfl⟩
          | 2, _ => exact ⟨_, rfl, .inr (.inl rfl)⟩
          | 3, _ => exact ⟨_, rfl, .inr (.inr rfl)⟩
        have eL := k4 _ _ Lb upd_same
        refine ⟨L, _, r, _, rfl, rfl, SqL.of eL, atI_nat ek, _, rfl, _, rfl, put hk (g4 _ B3) (fun c o n e => ?_) ?_ ?_⟩
        · have e5 := k2 c o n e
          exact k4 _ _ n (by rw [upd_ne (ne_of_none e5 nL)]; exact e5)
        · exact k4 _ _ ab (by rw [upd_ne (ne_of_none e2 nL)]; exact e2)
        · exact k4 _ _ pb (by rw [upd_ne (ne_of_none ep nL)]; exact ep)
    · rintro σ H2 ⟨y, rfl, B2, k2, e2, ks, ep, ok, kl, kp⟩
      rw [List.length_map] at kl kp
      refine ⟨_, rfl, ?_⟩
      exact q p ks H2 np0 ep ok kl (fun h => kp (List.length_pos_iff.mpr h)) B2.bag k2 fun c hc => by rw [BagAt.uniq B0 hc]; exact B2
end
end Fv


set_option Elab.async false
set_option linter.all false
set_option maxRecDepth 100000
set_option maxHeartbeats 4000000
namespace Fv
open PySem PySem.Spec PyProof.Rows L2
abbrev sPart : Stmt := top 47
theorem kin_get : ∀ {ks : List (Str × Str)} {z : Str}, z ∈ ks.map (·.1) → (∀ p ∈ ks, kindS p.2) → ∃ k, valV (kinV ks) (Sum.inr z) = some (.str k) ∧ kindS k
  | [], z, h, _ => by cases h
  | p :: ks, z, h, hk => by
    by_cases e : p.1 = z
    · refine ⟨p.2, ?_, hk p List.mem_cons_self⟩
      unfold valV kinV
      rw [List.map_cons, List.find?_cons_of_pos (by simp [e])]
      rfl
    · have h' : z ∈ ks.map (·.1) := by
        rcases List.mem_cons.mp h with q | q
        · exact absurd q.symm e
        · exact q
      obtain ⟨k, e1, e2⟩ := kin_get h' fun q hq => hk q (List.mem_cons_of_mem _ hq)
      refine ⟨k, ?_, e2⟩
      unfold valV kinV at e1 ⊢
      rw [List.map_cons, List.find?_cons_of_neg (by simp [e])]
      exact e1
theorem kin_keys (ks : List (Str × Str)) : (kinV ks).map (·.1) = (ks.map (·.1)).map Sum.inr := by
  unfold kinV
  rw [List.map_map, List.map_map]
  rfl
/-- a source or a name, and a number -/
def spPart : Sp := fun vs H Q _ => ∃ (b a : Addr) (ks : List (Str × Str)) (k : Str), vs = [.ref b, .ref a, .str k] ∧ Bag H b ∧ a ≠ b ∧ H a = some (.dK (kinV ks)) ∧ KindsOk ks ∧ ks.length ≤ 20 ∧
  ∀ (p : Addr) (y : Str) (c : Int) (H' : Hp), p ≠ b → H' p = some (.tup [.str y, .int c]) → (y = "" ∨ NmOk y) → -(10 ^ 39) ≤ c → c ≤ 10 ^ 39 → Bag H' b → Keep b H H' → (∀ c, BagAt H b c → BagAt H' b c) → Q (.ref p) H'
section
variable {P : Program} {w : World} {K : PySem.W.Frag} {mg : Str → Option Value} {base : Heap}
abbrev nPt : List Str := ["_law_bag_here", "_law_kinds_here", "_law_kind", "_law_fit", "_law_name_here"]
theorem scPt : FnScope nPt ["_law_bag_here", "_law_kinds_here", "_law_kind"] (defScope sPart) := ⟨rfl, rfl, rfl, by decide +kernel, rfl, by decide +kernel, by decide +kernel⟩
theorem ok_part {f fT fN : Addr} {fd fdT fdN : FuncData} (F : Fun K "_law_part" "_law_part" sPart f fd) (GT : FnOk P w K mg base CX0 1 fT fdT ["_law_bag_here", "_law_many"] spTake) (bT : Binds K fdT ["_law_bag_here", "_law_many"] []) (mT : mg "_law_take" = some (.ref fT)) (kT : PySem.W.keepIn K (.ref fT) = true)
    (GN : FnOk P w K mg base CX0 2 fN fdN ["_law_bag_here"] spNumber) (bN : Binds K fdN ["_law_bag_here"] []) (mN : mg "_law_number" = some (.ref fN)) (kN : PySem.W.keepIn K (.ref fN) = true)
    (mo : mg "sorted" = none) (ml : mg "len" = none) : FnOk P w K mg base CX0 3 f fd ["_law_bag_here", "_law_kinds_here", "_law_kind"] spPart := by
  refine F.ok scPt (fun vs H Q E h => ?_) (fun cdv A outer s H vs Q E hr h => ?_)
  · obtain ⟨b, a, ks, k, rfl, _⟩ := h
    rfl
  · obtain ⟨b, a, ks, k, rfl, B, ab, ha, ok, hl, q⟩ := h
    have hr1 : Room 1 _ := hr.mono (by decide)
    have hu := hu_of hr
    refine ⟨_, pss_cons (ps_set (i := 3) scPt.nd rfl (.inl rfl) (pe_op op_cat (pe_lst (pa_cons pe_str pa_nil))
        (pe_lc (own := [("_law_name_here", 4)]) (g := gName 4) rfl scPt.nd (pi_list (pe_callB (call_sortedD rfl) (by rfl) mo (by decide +kernel) (pa_cons (pv 1) pa_nil))) (blkOk_by (N := nPt) (sc := defScope sPart) (by decide +kernel))
          (fun _ _ _ _ _ => pg_name (i := 4) scPt.nd rfl (Or.inl rfl))
          (fun _ _ _ _ _ => pts_one (pt_cmpR (r := rIn K false) op_in_seq (pe_dget hu (pv 1) (pv 4) (fun _ _ => rfl)) (pe_tup (pa_cons pe_str (pa_cons (pv 2) pa_nil))) (by rfl)))
          (fun _ _ _ _ _ => pv 4))))
      (pss_one (ps_ret (pe_tup (pa_cons (pe_ix ix_list (pv 3) (pe_call GT hr1 (by rfl) mT kT bT .nil pass0 (pa_cons (pv 0) (pa_cons (pe_callB call_len_seq (by rfl) ml PySem.boot_len (pa_cons (pv 3) pa_nil)) pa_nil))) (fun _ _ => rfl))
        (pa_cons (pe_call GN hr (by rfl) mN kN bN .nil pass0 (pa_cons (pv 0) pa_nil)) pa_nil))))), ?_⟩
    obtain ⟨c0, B0⟩ := B
    refine ⟨by show 1 ≤ sizeLine; decide, fun e0 ne0 => ?_⟩
    have s0 := same_upd (o := .lst [.str ""]) ne0
    refine ⟨_, rfl, a, kinV ks, ks.map (·.1), rfl, .inl (s0 _ _ ha), kin_keys ks, by rw [List.length_map]; omega, fun ys p hperm _ np => ⟨p, rfl, ⟨_, SqL.of upd_same⟩, fun D hD => ?_⟩⟩
    have s1 := s0.trans (same_upd (o := .lst (ys.map V.str)) np)
    have ep := (upd_same : (upd (upd H e0 (.lst [.str ""])) p (.lst (ys.map V.str))) p = some (.lst (ys.map V.str)))
    have e00 := (same_upd (o := .lst (ys.map V.str)) np) e0 _ upd_same
    generalize upd (upd H e0 (.lst [.str ""])) p (.lst (ys.map V.str)) = H2 at s1 ep e00 hD ⊢
    have yl : ys.length ≤ 20 := by rw [hperm.length_eq, List.length_map]; exact hl
    refine lc_list (K := K) (a := p) (xs := ys.map V.str) (fun i H' => Same H2 H' ∧ ∃ zs : List Str, H' D = some (.lst (zs.map V.str)) ∧ (∀ z ∈ zs, NmOk z) ∧ zs.length ≤ i) ⟨same_upd hD, [], upd_same, fun _ h => (by cases h), Nat.le_refl _⟩ (fun i H' _ h => SqL.of (h.1 _ _ ep)) ?_ ?_
    · rintro i x H' hx ⟨s', zs, e', zo, zl⟩
      obtain ⟨z, hzi, rfl⟩ : ∃ z, ys[i]? = some z ∧ x = V.str z := by
        rw [List.getElem?_map] at hx
        cases e : ys[i]? with
        | none => rw [e] at hx; cases hx
        | some z => rw [e] at hx; exact ⟨z, rfl, (Option.some.inj hx).symm⟩
      have hi : i < ys.length := (List.getElem?_eq_some_iff.mp hzi).1
      have hm : z ∈ ks.map (·.1) := hperm.mem_iff.mp (List.mem_of_getElem? hzi)
      have hn : NmOk z := by
        obtain ⟨pr, hp, rfl⟩ := List.mem_map.mp hm
        exact ok.nm pr hp
      obtain ⟨kk, ek, _⟩ := kin_get hm ok.kd
      have ea := s' _ _ (s1 _ _ ha)
      refine ⟨rfl, _, rfl, _, rfl, a, _, rfl, ek ▸ DGet.k (k := Sum.inr z) ea, _, rfl, by show 2 ≤ sizeLine; decide, fun t nt => ⟨t, _, rfl, .inr (SqT.of upd_same), rfl, rfl, _, rfl, ?_⟩⟩
      have w1 := same_upd (o := .tup [.str "plain", .str k]) nt
      refine ite2 (fun _ => ?_) (fun _ => ?_)
      · refine ⟨_, rfl, _, w1 _ _ e', by rw [List.length_map]; exact small60 (by omega), fun c o e => ?_, zs ++ [z], ?_, fun y hy => ?_, by simp; omega⟩
        · rw [upd_ne (ne_of_none e hD)]
          exact w1 _ _ (s' c o e)
        · rw [upd_same, List.map_append]
          rfl
        · rcases List.mem_append.mp hy with h | h
          · exact zo y h
          · rw [List.mem_singleton.mp h]
            exact hn
      · exact ⟨s'.trans w1, zs, w1 _ _ e', zo, by omega⟩
    · rintro H3 ⟨s3, zs, e3, zo, zl⟩
      rw [List.length_map] at zl
      refine ⟨e0, D, _, _, rfl, rfl, s3 _ _ e00, e3, by rw [List.length_map]; exact Nat.le_of_lt (small60 (by show 1 + zs.length ≤ 60; omega)), fun p2 np2 => ?_⟩
      have s4 := (s1.trans s3).trans (same_upd (o := .lst ([.str ""] ++ zs.map V.str)) np2)
      have e2 := (upd_same : (upd H3 p2 (.lst ([.str ""] ++ zs.map V.str))) p2 = some (.lst ([.str ""] ++ zs.map V.str)))
      obtain ⟨ob, hob⟩ := Bag.at_b (BagAt.bag B0)
      have p2b : p2 ≠ b := (ne_of_none (s3 _ _ (s1 _ _ hob)) np2).symm
      generalize upd H3 p2 (.lst ([.str ""] ++ zs.map V.str)) = H4 at s4 e2 ⊢
      have B4 : BagAt H4 b c0 := BagAt.same B0 s4
      have el : (([.str ""] ++ zs.map V.str : List V)).length = zs.length + 1 := by simp
      refine ⟨_, rfl, _, rfl, _, rfl, p2, _, rfl, .inl (SqL.of e2), b, _, rfl, BagAt.bag B4, by rw [el]; omega, by rw [el]; omega, fun r H5 h5 B5 k5 g5 => ?_⟩
      rw [el] at h5
      obtain ⟨y, ey, hy⟩ : ∃ y : Str, (([.str ""] ++ zs.map V.str : List V))[r]? = some (.str y) ∧ (y = "" ∨ NmOk y) := by
        cases r with
        | zero => exact ⟨_, rfl, .inl rfl⟩
        | succ r =>
          have hr2 : r < zs.length := by omega
          refine ⟨zs[r], ?_, .inr (zo _ (List.getElem_mem hr2))⟩
          show (zs.map V.str)[r]? = _
          rw [List.getElem?_map, List.getElem?_eq_getElem hr2]
          rfl
      refine ⟨p2, _, r, _, rfl, rfl, SqL.of (k5 _ _ p2b e2), atI_nat ey, _, rfl, b, rfl, B5, fun c H6 c1 c2 B6 k6 g6 => ⟨by show 2 ≤ sizeLine; decide, fun t nt => ?_⟩⟩
      have B6c := g6 _ (g5 _ B4)
      obtain ⟨B7, tb, _⟩ := BagAt.new (o := .tup [.str y, .int c]) B6c nt
      have k04 : Keep b H H4 := fun c o _ e => s4 c o e
      exact q t y c _ tb upd_same hy c1 c2 (BagAt.bag B7) (((k04.trans k5).trans k6).trans (Keep.new nt)) fun c hc => by rw [BagAt.uniq B0 hc]; exact B7
end
end Fv


set_option Elab.async false
set_option linter.all false
set_option maxRecDepth 100000
set_option maxHeartbeats 4000000
namespace Fv
open PySem PySem.Spec PyProof.Rows L2
abbrev sParted : Stmt := top 62
section
variable {P : Program} {w : World} {K : PySem.W.Frag} {mg : Str → Option Value} {base : Heap}
abbrev nPd : List Str := ["_law_statement_here", "_law_x", "_law_y", "_law_c"]
theorem scPd : FnScope nPd ["_law_statement_here"] (defScope sParted) := ⟨rfl, rfl, rfl, by decide +kernel, rfl, by decide +kernel, by decide +kernel⟩
theorem DqAll.one {H : Hp} {b : Addr} {x : V} {ds : List PyData} (h : DqAll H b [x] ds) : ∃ dx, ds = [dx] ∧ Dq H b x dx := by
  cases h with
  | cons h1 h =>
    cases h
    exact ⟨_, rfl, h1⟩
theorem DqAll.two {H : Hp} {b : Addr} {x y : V} {ds : List PyData} (h : DqAll H b [x, y] ds) : ∃ dx dy, ds = [dx, dy] ∧ Dq H b x dx ∧ Dq H b y dy := by
  cases h with
  | cons h1 h =>
    obtain ⟨dy, rfl, h2⟩ := h.one
    exact ⟨_, _, rfl, h1, h2⟩
theorem DqAll.three {H : Hp} {b : Addr} {x y z : V} {ds : List PyData} (h : DqAll H b [x, y, z] ds) : ∃ dx dy dz, ds = [dx, dy, dz] ∧ Dq H b x dx ∧ Dq H b y dy ∧ Dq H b z dz := by
  cases h with
  | cons h1 h =>
    obtain ⟨dy, dz, rfl, h2, h3⟩ := h.two
    exact ⟨_, _, _, rfl, h1, h2, h3⟩
/-- the parts' sources and integers -/
def twoD (e : PyData) : PyData := .tuple [.str (srcS e), .int (lastI e)]
def spParted : Sp := fun vs H Q _ => ∃ (b : Addr) (v : V) (d : PyData), vs = [v] ∧ Dq H b v d ∧ okD d ∧ stD d = true ∧ frozenD d = d ∧ (∃ o, H b = some o) ∧
  ∀ (H' : Hp) (p : Addr) (ys : List V), Same H H' → H p = none → H' p = some (.lst ys) → DqAll (del H' p) b ys ((partsOf d).map twoD) → Q (.ref p) H'
theorem ok_parted {f : Addr} {fd : FuncData} (F : Fun K "_law_parted" "_law_parted" sParted f fd) (mL : mg "list" = none) : FnOk P w K mg base CX0 1 f fd ["_law_statement_here"] spParted := by
  refine F.ok scPd (fun vs H Q E h => ?_) (fun cdv A outer s H vs Q E hr h => ?_)
  · obtain ⟨b, v, d, rfl, _⟩ := h
    rfl
  · obtain ⟨b, v, d, rfl, hd, hs, hst, hfz, hb, q⟩ := h
    refine ⟨_, pss_cons (ps_if (pt_cmpR op_eq (pe_ix ix_tup (pv 0) pe_int (fun _ _ => rfl)) pe_str (nomark _)) (pss_one (ps_ret (pe_lstB pa_nil))) pss_nil)
      (pss_cons (ps_if (pt_cmpR op_eq (pe_ix ix_tup (pv 0) pe_int (fun _ _ => rfl)) pe_str (nomark _)) (pss_one (ps_ret
        (pe_lc (own := [("_law_x", 1), ("_law_y", 2), ("_law_c", 3)]) (g := gTup K 3 (gCons (gName 1) (gCons (gName 2) (gCons (gName 3) gNil)))) (tt := tYes) rfl scPd.nd (pi_tup (pe_ix ix_tup (pv 0) pe_int (fun _ _ => rfl))) (blkOk_by (N := nPd) (sc := defScope sParted) (by decide +kernel))
          (fun _ _ _ _ _ => pg_tup (by rfl) (pgs_cons (pg_name (i := 1) scPd.nd rfl (.inl rfl)) (pgs_cons (pg_name (i := 2) scPd.nd rfl (.inl rfl)) (pgs_cons (pg_name (i := 3) scPd.nd rfl (.inl rfl)) pgs_nil)))) (fun _ _ _ _ _ => pts_nil)
          (fun _ _ _ _ _ => pe_tup (pa_cons (pv 2) (pa_cons (pv 3) pa_nil)))))) pss_nil)
      (pss_one (ps_ret (pe_callTy call_list_of (by rfl) mL boot_list (pa_cons (pe_ix ix_tup (pv 0) pe_int (fun _ _ => rfl)) pa_nil))))), ?_⟩
    have same : ∀ {H0 : Hp} {x : V} {dp : PyData}, H0 = H → Dq H b x dp → rowD dp = true → (∀ e ∈ itemsD dp, e = twoD e) → (itemsD dp = partsOf d) → ∃ p ys, [x] = [V.ref p] ∧ (SqL K H p ys ∨ SqT K H p ys) ∧ ∀ l, H l = none → Q (.ref l) (upd H l (.lst ys)) := fun {H0 x dp} _ hx hrow ht hp => by
      have fin : ∀ {ys : List V}, DqAll H b ys (itemsD dp) → ∀ l, H l = none → Q (.ref l) (upd H l (.lst ys)) := fun {ys} hy l nl => by
        refine q _ l ys (same_upd nl) nl upd_same ?_
        rw [← hp, show (itemsD dp).map twoD = itemsD dp from by
          conv => rhs; rw [← List.map_id (itemsD dp)]
          exact List.map_congr_left fun e he => (ht e he).symm]
        exact hy.mono fun c o _ e => in_del (same_upd nl) nl c o e
      cases hx with
      | lst e n m h => exact ⟨_, _, rfl, .inl (SqL.of e), fin h⟩
      | tup e n h => exact ⟨_, _, rfl, .inr (SqT.of e), fin h⟩
      | _ => cases hrow
    have pairs : ∀ {dp : PyData}, partsD dp = true → ∀ e ∈ itemsD dp, e = twoD e := fun {dp} h e he => by
      unfold partsD at h
      rw [Bool.and_eq_true] at h
      obtain ⟨y, c, rfl⟩ := pair_shape (List.all_eq_true.mp h.2 e he)
      rfl
    obtain ⟨a, xs, ds, rfl, ab, ed, e1, hx⟩ := hd.tup_of (st_tup hst)
    have sh := st_shape hst
    cases sh with
    | skip =>
      cases ed
      obtain ⟨x0, rfl⟩ := one_of hx.len
      obtain ⟨_, ee, h0⟩ := hx.one
      cases ee
      cases h0
      refine ⟨_, rfl, a, _, _, _, rfl, rfl, SqT.of e1, atI_nat (j := 0) rfl, rfl, _, rfl, ?_⟩
      exact ⟨Nat.zero_le _, fun p np _ => q _ p [] (same_upd np) np upd_same .nil⟩
    | @set zp hp =>
      cases ed
      obtain ⟨x0, x1, rfl⟩ := two_of hx.len
      obtain ⟨_, _, ee, h0, g1⟩ := hx.two
      cases ee
      cases h0
      have hrow := row_sets hp
      have hall : (itemsD zp).all tripD = true := by
        unfold setsD at hp
        rw [Bool.and_eq_true, Bool.and_eq_true] at hp
        exact hp.1.2
      obtain ⟨ap, ys0, items, rfl, rfl, ep, hy⟩ : ∃ ap ys0 items, x1 = .ref ap ∧ zp = .tuple items ∧ H ap = some (.tup ys0) ∧ DqAll H b ys0 items := by
        cases g1 with
        | lst e n m h =>
          simp [frozenD, fz] at hfz
        | tup e n h => exact ⟨_, _, _, rfl, rfl, e, h⟩
        | _ => cases hrow
      have hl : items.length ≤ 60 := (show okD (.tuple items) from hs.2.2.1).1
      refine ⟨_, rfl, a, _, _, _, rfl, rfl, SqT.of e1, atI_nat (j := 0) rfl, rfl, _, rfl, ?_⟩
      refine ⟨_, rfl, a, _, _, _, rfl, rfl, SqT.of e1, atI_nat (j := 0) rfl, rfl, _, rfl, ?_⟩
      refine ⟨_, rfl, a, _, _, _, rfl, rfl, SqT.of e1, atI_nat (j := 1) rfl, ap, rfl, ⟨_, SqT.of ep⟩, fun D hD => ?_⟩
      have sub : ∀ {H' H4 : Hp}, Same H' H4 → ∀ c o, del H' D c = some o → del H4 D c = some o := fun {H' H4} s c o e => by
        have nc : c ≠ D := fun z => by
          rw [z, del_same] at e
          cases e
        rw [del_ne nc]
        exact s c o (del_sub c o e)
      have hlen := hy.len
      refine lc_tup (K := K) (a := ap) (xs := ys0) (fun i H' => Same H H' ∧ ∃ ys : List V, H' D = some (.lst ys) ∧ DqAll (del H' D) b ys ((items.take i).map twoD)) ⟨same_upd hD, [], upd_same, .nil⟩ (fun i H' _ h => SqT.of (h.1 _ _ ep)) ?_ ?_
      · rintro i x H' hxi ⟨s', ys, e', ya⟩
        obtain ⟨dx, hdi, hdx⟩ := hy.at_ hxi
        obtain ⟨zx, zy, zc, rfl⟩ := trip_shape (List.all_eq_true.mp hall dx (List.mem_of_getElem? hdi))
        obtain ⟨ae, ws, es, rfl, _, ee, e3, hw⟩ := hdx.tup_of rfl
        cases ee
        obtain ⟨v1, v2, v3, rfl⟩ := three_of hw.len
        obtain ⟨_, _, _, ee, g4, g5, g6⟩ := hw.three
        cases ee
        cases g4
        cases g5
        cases g6
        have yl : ys.length ≤ i := by rw [ya.len, List.length_map, List.length_take]; omega
        have hi : i < items.length := (List.getElem?_eq_some_iff.mp hdi).1
        refine ⟨ae, _, rfl, SqT.of (s' _ _ e3), rfl, _, _, rfl, _, _, rfl, _, _, rfl, rfl, rfl, _, rfl, _, rfl, by show 2 ≤ sizeLine; decide, fun t nt => ?_⟩
        have w1 := same_upd (o := .tup [.str zy, .int zc]) nt
        obtain ⟨ob, hob⟩ := there s' hb
        refine ⟨ys, w1 _ _ e', small60 (by omega), fun c o e => ?_, _, upd_same, ?_⟩
        · rw [upd_ne (ne_of_none e hD)]
          exact w1 _ _ (s' c o e)
        · rw [del_upd, take_map_snoc hdi]
          refine DqAll.snoc (.tup (xs := [.str zy, .int zc]) ?_ (ne_of_none hob nt).symm (.cons (.str _) (.cons (.int _) .nil))) (ya.mono fun c o _ e => sub w1 c o e)
          rw [del_ne (ne_of_none e' nt).symm]
          exact upd_same
      · rintro H2 ⟨s2, ys, e2, ya⟩
        rw [hlen, List.take_length] at ya
        exact q H2 D ys s2 hD e2 ya
    | @most zw zx zp hw h2 h3 h4 =>
      cases ed
      obtain ⟨x0, x1, x2, rfl⟩ := three_of hx.len
      obtain ⟨_, _, _, ee, h0, g1, g2⟩ := hx.three
      cases ee
      cases h0
      have n1 : decide (V.str zw = V.str "skip") = false := by
        rw [str_dec]
        rcases hw with rfl | rfl <;> decide +kernel
      have n2 : decide (V.str zw = V.str "set") = false := by
        rw [str_dec]
        rcases hw with rfl | rfl <;> decide +kernel
      refine ⟨_, rfl, a, _, _, _, rfl, rfl, SqT.of e1, atI_nat (j := 0) rfl, rfl, _, rfl, ?_⟩
      rw [n1]
      refine iteF ⟨_, rfl, a, _, _, _, rfl, rfl, SqT.of e1, atI_nat (j := 0) rfl, rfl, _, rfl, ?_⟩
      rw [n2]
      refine iteF ⟨_, rfl, a, _, _, _, rfl, rfl, SqT.of e1, atI_nat (j := 2) rfl, ?_⟩
      exact same rfl g2 (row_parts h3) (pairs h3) rfl
    | @call zx zp zr h2 h3 h4 =>
      cases ed
      obtain ⟨x0, xr, rfl⟩ : ∃ x0 xr, xs = x0 :: xr := by
        cases xs with
        | nil => cases hx
        | cons x xs => exact ⟨_, _, rfl⟩
      cases hx with
      | cons h0 hx =>
        cases h0
        obtain ⟨x1, x2, x3, rfl⟩ := three_of hx.len
        obtain ⟨_, _, _, ee, g1, g2, g3⟩ := hx.three
        cases ee
        refine ⟨_, rfl, a, _, _, _, rfl, rfl, SqT.of e1, atI_nat (j := 0) rfl, rfl, _, rfl, ?_⟩
        refine ⟨_, rfl, a, _, _, _, rfl, rfl, SqT.of e1, atI_nat (j := 0) rfl, rfl, _, rfl, ?_⟩
        refine ⟨_, rfl, a, _, _, _, rfl, rfl, SqT.of e1, atI_nat (j := 2) rfl, ?_⟩
        exact same rfl g2 (row_parts h3) (pairs h3) rfl
end
end Fv


set_option Elab.async false
set_option linter.all false
set_option maxRecDepth 100000
set_option maxHeartbeats 4000000
namespace Fv
open PySem PySem.Spec PyProof.Rows L2
abbrev sLoose : Stmt := top 61
/-- list(x) of a tuple: a new list at none of the first places -/
def rListT (K : PySem.W.Frag) : List V → Hp → VK → Prop := fun xs H Q => ∃ p ys, xs = [.ref p] ∧ SqT K H p ys ∧ ∀ l, H l = none → l ≠ sysModules → Q (.ref l) (upd H l (.lst ys))
theorem call_listB {X : Cx} : CallR X (.type "list") (rListT X.K) := by
  intro pins s σ H xs us Q I r h
  obtain ⟨p, ys, ex, hT, q⟩ := h
  subst ex
  obtain ⟨v, ev, rv⟩ := vals1 r
  subst ev
  obtain rfl : v = Value.ref p := rv
  obtain ⟨items, ri, ⟨ob, hob, hcl, cap, hda⟩, room⟩ := I.tuple hT
  have hn := ri.length
  refine call_list_seq p (.inr rfl) hob hcl hda (fun hp cp keep new => ?_) (by simp only [List.size_toArray] <;> omega)
  have J : Inv X pins σ (upd H s.heap.objs.size (.lst ys)) { s with heap := hp } := I.laid (t' := s.toks) keep (Nat.le_refl _) ⟨room, items, cp, ri, new⟩
  exact ⟨.ref _, _, J, rfl, q _ (I.hok.fresh (Nat.le_refl _)) (Nat.ne_of_gt I.big)⟩
theorem fz_row (d : PyData) : rowD (fz d) = rowD d := by cases d <;> rfl
theorem fz_items (d : PyData) : itemsD (fz d) = itemsD d := by cases d <;> rfl
theorem fz_name (d : PyData) : nameD (fz d) = nameD d := by cases d <;> rfl
theorem fz_sets (d : PyData) : setsD (fz d) = setsD d := by
  unfold setsD
  rw [fz_row, fz_items]
theorem fz_parts (d : PyData) : partsD (fz d) = partsD d := by
  unfold partsD
  rw [fz_row, fz_items]
theorem fz_names (d : PyData) : namesD (fz d) = namesD d := by
  unfold namesD
  rw [fz_row, fz_items]
theorem rest_fz (w : Str) (r : List PyData) : restD w (r.map fz) = restD w r := by
  match r with
  | [] => rfl
  | [a] => rw [List.map_cons, List.map_nil, rest2, rest2, fz_sets]
  | [a, c] => rw [List.map_cons, List.map_cons, List.map_nil, rest3, rest3, fz_name, fz_parts, fz_items]
  | [a, c, e] => rw [List.map_cons, List.map_cons, List.map_cons, List.map_nil, rest4, rest4, fz_name, fz_parts, fz_names]
  | _ :: _ :: _ :: _ :: r => rw [rest5 (by simp), rest5 (by simp)]
theorem st_fz (es : List PyData) : stD (.tuple (es.map fz)) = stD (.tuple es) := by
  cases es with
  | nil => rfl
  | cons e es =>
    cases e with
    | str w => exact rest_fz w es
    | _ => rfl
theorem ok_fz {d : PyData} (h : okD (fz d)) : okD d := by cases d <;> exact h
theorem okAll_fz : ∀ {es : List PyData}, okAll (es.map fz) → okAll es
  | [], _ => True.intro
  | _ :: _, h => ⟨ok_fz h.1, okAll_fz h.2⟩
theorem fz_fz (d : PyData) : fz (fz d) = fz d := by cases d <;> rfl
theorem fz_fixed : ∀ {ds : List PyData}, ds.map fz = ds → ∀ e ∈ ds, fz e = e
  | [], _, e, h => by cases h
  | d :: ds, hd, e, h => by
    rw [List.map_cons] at hd
    injection hd with h1 h2
    rcases List.mem_cons.mp h with rfl | h
    · exact h1
    · exact fz_fixed h2 e h
/-- a frozen statement with lists for some of its tuples -/
def spLoose : Sp := fun vs H Q _ => ∃ (b : Addr) (v : V) (d : PyData), vs = [.ref b, v] ∧ Bag H b ∧ Dq H b v d ∧ okD d ∧ stD d = true ∧ frozenD d = d ∧
  ∀ (p : Addr) (d' : PyData) (H' : Hp), Dq H' b (.ref p) d' → okD d' → stD d' = true → frozenD d' = d → Bag H' b → Keep b H H' → (∀ c, BagAt H b c → BagAt H' b c) → Q (.ref p) H'
section
variable {P : Program} {w : World} {K : PySem.W.Frag} {mg : Str → Option Value} {base : Heap}
abbrev nLo : List Str := ["_law_bag_here", "_law_statement_here", "_law_one"]
theorem scLo : FnScope nLo ["_law_bag_here", "_law_statement_here"] (defScope sLoose) := ⟨rfl, rfl, rfl, by decide +kernel, rfl, by decide +kernel, by decide +kernel⟩
theorem ok_loose {f fT : Addr} {fd fdT : FuncData} (F : Fun K "_law_loose" "_law_loose" sLoose f fd) (GT : FnOk P w K mg base CX0 1 fT fdT ["_law_bag_here", "_law_many"] spTake) (bT : Binds K fdT ["_law_bag_here", "_law_many"] []) (mT : mg "_law_take" = some (.ref fT)) (kT : PySem.W.keepIn K (.ref fT) = true)
    (mq : mg "isinstance" = none) (mt : mg "tuple" = none) (mL : mg "list" = none) : FnOk P w K mg base CX0 2 f fd ["_law_bag_here", "_law_statement_here"] spLoose := by
  refine F.ok scLo (fun vs H Q E h => ?_) (fun cdv A outer s H vs Q E hr h => ?_)
  · obtain ⟨b, v, d, rfl, _⟩ := h
    rfl
  · obtain ⟨b, v, d, rfl, B, hd, hs, hst, hfz, q⟩ := h
    refine ⟨_, pss_one (ps_ret (pe_callTy call_tuple_of (by rfl) mt boot_tuple (pa_cons
      (pe_lc (own := [("_law_one", 2)]) (g := gName 2) (tt := tYes) rfl scLo.nd (pi_tup (pv 1)) (blkOk_by (N := nLo) (sc := defScope sLoose) (by decide +kernel))
        (fun _ _ _ _ _ => pg_name (i := 2) scLo.nd rfl (Or.inl rfl)) (fun _ _ _ _ _ => pts_nil)
        (fun _ _ _ _ _ => pe_ifExp (PW.pt (pw_and (pt_val (pe_callB (id := "isinstance") (r := rIsi K) call_isi (by rfl) mq (by decide +kernel) (pa_cons (pv 2) (pa_cons (pe_bltn (v := .ty "tuple") (by rfl) mt boot_tuple rfl) pa_nil))))
            (pw_and1 (pt_cmpR op_eq (pe_call GT hr (by rfl) mT kT bT .nil pass0 (pa_cons (pv 0) (pa_cons pe_int pa_nil))) pe_int (nomark _)))))
          (pe_callTy (T := "list") (r := rListT K) call_listB (by rfl) mL boot_list (pa_cons (pv 2) pa_nil)) (pv 2))) pa_nil))), ?_⟩
    obtain ⟨c0, B0⟩ := B
    obtain ⟨a, xs, ds, rfl, ab, rfl, e1, hx⟩ := hd.tup_of (st_tup hst)
    have hfm : ds.map fz = ds := by
      have : PyData.tuple (ds.map fz) = .tuple ds := hfz
      injection this
    have hlen := hx.len
    have hok : ds.length ≤ 60 ∧ okAll ds := hs
    refine ⟨_, rfl, a, rfl, ⟨xs, SqT.of e1⟩, fun D hD => ?_⟩
    obtain ⟨B1, Db, Dc⟩ := BagAt.new (o := .lst []) B0 hD
    have sub : ∀ {H' H4 : Hp}, Keep b H' H4 → ∀ c o, c ≠ b → del H' D c = some o → del H4 D c = some o := fun {H' H4} s c o n e => by
      have nc : c ≠ D := fun z => by
        rw [z, del_same] at e
        cases e
      rw [del_ne nc]
      exact s c o n (del_sub c o e)
    have inD : ∀ {H4 : Hp}, Keep b H H4 → ∀ c o, c ≠ b → H c = some o → del H4 D c = some o := fun {H4} s c o n e => by
      rw [del_ne (ne_of_none e hD)]
      exact s c o n e
    refine lc_tup (K := K) (a := a) (xs := xs) (fun i H' => BagAt H' b c0 ∧ Keep b H H' ∧ ∃ (ys : List V) (es : List PyData), H' D = some (.lst ys) ∧ DqAll (del H' D) b ys es ∧ es.map fz = ds.take i) ⟨B1, Keep.new hD, [], [], upd_same, .nil, rfl⟩ (fun i H' _ h => SqT.of (h.2.1 _ _ ab e1)) ?_ ?_
    · rintro i x H' hxi ⟨B', k', ys, es, e', ya, em⟩
      obtain ⟨dx, hdi, hdx⟩ := hx.at_ hxi
      have hi : i < ds.length := (List.getElem?_eq_some_iff.mp hdi).1
      have el : es.length = i := by
        have := congrArg List.length em
        rw [List.length_map, List.length_take] at this
        omega
      have yl : ys.length = i := by rw [ya.len, el]
      have hfx : fz dx = dx := fz_fixed hfm dx (List.mem_of_getElem? hdi)
      have put : ∀ (H4 : Hp) (y : V) (e : PyData), Keep b H' H4 → BagAt H4 b c0 → fz e = dx → Dq (del H4 D) b y e → ∃ acc, H4 D = some (.lst acc) ∧ acc.length < sizeLine ∧ BagAt (upd H4 D (.lst (acc ++ [y]))) b c0 ∧ Keep b H (upd H4 D (.lst (acc ++ [y]))) ∧ ∃ (ys : List V) (es : List PyData), (upd H4 D (.lst (acc ++ [y]))) D = some (.lst ys) ∧ DqAll (del (upd H4 D (.lst (acc ++ [y]))) D) b ys es ∧ es.map fz = ds.take (i + 1) := fun H4 y e k4 B4 ee hy => by
        refine ⟨ys, k4 _ _ Db e', small60 (by omega), B4.put Db Dc, fun c o n e => ?_, ys ++ [y], es ++ [e], upd_same, ?_, ?_⟩
        · rw [upd_ne (ne_of_none e hD)]
          exact k4 _ _ n (k' c o n e)
        · rw [del_upd]
          exact DqAll.snoc hy (ya.mono fun c o n e => sub k4 c o n e)
        · rw [List.map_append, em, List.take_add_one, hdi]
          show _ ++ [fz e] = _
          rw [ee]
          rfl
      have hdx' := hdx.mono k'
      refine ⟨rfl, _, rfl, _, _, _, _, _, rfl, .ty "tuple", hdx'.ty, kit_tup dx, _, rfl, ?_⟩
      cases ht : isTupD dx with
      | false => exact iteF ⟨_, rfl, put H' x dx (fun _ _ _ e => e) B' hfx (hdx.mono fun c o n e => inD k' c o n e)⟩
      | true =>
        obtain ⟨al, xl, dl, rfl, nl, rfl, el1, hl1⟩ := hdx.tup_of ht
        refine iteT ⟨_, rfl, b, 2, rfl, BagAt.bag B', by decide, by decide, fun r H3 h3 B3 k3 g3 => ?_⟩
        have B3c := g3 _ B'
        have k03 := k'.trans k3
        refine ⟨rfl, _, rfl, ite2 (fun _ => ?_) (fun _ => ?_)⟩
        · refine ⟨_, rfl, al, xl, rfl, SqT.of (k03 _ _ nl el1), fun l fl ml => ?_⟩
          obtain ⟨B4, lb, _⟩ := BagAt.new (o := .lst xl) B3c fl
          have k4 : Keep b H3 (upd H3 l (.lst xl)) := Keep.new fl
          refine put _ _ (.list dl) (k3.trans k4) B4 rfl (.lst (xs := xl) ?_ lb ml (hl1.mono fun c o n e => inD (k03.trans k4) c o n e))
          have lD : l ≠ D := (ne_of_none (k3 _ _ Db e') fl).symm
          rw [del_ne lD]
          exact upd_same
        · exact ⟨_, rfl, put H3 _ _ k3 B3c hfx (.tup (inD k03 _ _ nl el1) nl (hl1.mono fun c o n e => inD k03 c o n e))⟩
    · rintro H2 ⟨B2, k2, ys, es, e2, ya, em⟩
      rw [hlen, List.take_length] at em
      refine ⟨D, ys, rfl, .inl ⟨SqL.of e2, fun l fl => ?_⟩⟩
      obtain ⟨B3, lb, _⟩ := BagAt.new (o := .tup ys) B2 fl
      have k3 : Keep b H2 (upd H2 l (.tup ys)) := Keep.new fl
      have hst' : stD (.tuple es) = true := by rw [← st_fz, em]; exact hst
      have hes : es.length ≤ 60 := by
        have := congrArg List.length em
        rw [List.length_map] at this
        omega
      refine q l (.tuple es) _ (.tup upd_same lb (ya.mono fun c o n e => k3 c o n (del_sub c o e))) ⟨hes, okAll_fz (by rw [em]; exact hok.2)⟩ hst' ?_ (BagAt.bag B3) (k2.trans k3) fun c hc => by rw [BagAt.uniq B0 hc]; exact B3
      show PyData.tuple (es.map fz) = _
      rw [em]
end
end Fv


set_option Elab.async false
set_option linter.all false
set_option maxRecDepth 100000
set_option maxHeartbeats 4000000
namespace Fv
open PySem PySem.Spec PyProof.Rows L2
abbrev sSt : Stmt := top 48
/-- numbers that are drawn, few parts -/
def smallSt (d : PyData) : Prop := (partsOf d).length ≤ 20 ∧ (∀ e ∈ partsOf d, -(10 ^ 39) ≤ lastI e ∧ lastI e ≤ 10 ^ 39) ∧ ∀ e ∈ itemsD d, (itemsD e).length ≤ 20
theorem few_skip : ∀ e ∈ itemsD (.tuple [.str "skip"]), (itemsD e).length ≤ 20 := fun e he => by
  rw [List.mem_singleton.mp (show e ∈ [PyData.str "skip"] from he)]
  exact Nat.zero_le _
theorem few2 {w : Str} {es : List PyData} (h : es.length ≤ 20) : ∀ e ∈ itemsD (.tuple [.str w, .tuple es]), (itemsD e).length ≤ 20 := fun e he => by
  rcases List.mem_cons.mp (show e ∈ [PyData.str w, .tuple es] from he) with rfl | he
  · exact Nat.zero_le _
  · rw [List.mem_singleton.mp he]
    exact h
theorem few3 {w x : Str} {es : List PyData} (h : es.length ≤ 20) : ∀ e ∈ itemsD (.tuple [.str w, .str x, .tuple es]), (itemsD e).length ≤ 20 := fun e he => by
  rcases List.mem_cons.mp (show e ∈ [PyData.str w, .str x, .tuple es] from he) with rfl | he
  · exact Nat.zero_le _
  · exact few2 (w := x) h e he
theorem few4 {w x : Str} {es rs : List PyData} (h : es.length ≤ 20) (k : rs.length ≤ 20) : ∀ e ∈ itemsD (.tuple [.str w, .str x, .tuple es, .tuple rs]), (itemsD e).length ≤ 20 := fun e he => by
  rcases List.mem_cons.mp (show e ∈ [PyData.str w, .str x, .tuple es, .tuple rs] from he) with rfl | he
  · exact Nat.zero_le _
  · rcases List.mem_cons.mp he with rfl | he
    · exact Nat.zero_le _
    · rcases List.mem_cons.mp he with rfl | he
      · exact h
      · rw [List.mem_singleton.mp he]
        exact k
def spSt : Sp := fun vs H Q _ => ∃ (b a : Addr) (ks : List (Str × Str)), vs = [.ref b, .ref a] ∧ Bag H b ∧ a ≠ b ∧ H a = some (.dK (kinV ks)) ∧ KindsOk ks ∧ ks.length ≤ 20 ∧
  ∀ (p : Addr) (d : PyData) (H' : Hp), Dq H' b (.ref p) d → okD d → stD d = true → frozenD d = d → smallSt d → Bag H' b → Keep b H H' → (∀ c, BagAt H b c → BagAt H' b c) → Q (.ref p) H'
theorem okAll.snoc {d : PyData} (h : okD d) : ∀ {ds : List PyData}, okAll ds → okAll (ds ++ [d])
  | [], _ => ⟨h, True.intro⟩
  | _ :: _, g => ⟨g.1, okAll.snoc h g.2⟩
theorem abc_small : ∀ c ∈ abc.cps.toList, c < 128 := by decide +kernel
theorem NmOk.ok {z : Str} (h : NmOk z) : okD (.str z) := ⟨by have := h.2.1; omega, fun c hc => abc_small c (h.2.2 c hc)⟩
theorem src_ok {y : Str} (h : y = "" ∨ NmOk y) : okD (.str y) := by
  rcases h with rfl | h
  · exact ⟨by decide, by decide⟩
  · exact h.ok
theorem src_name {y : Str} (h : y = "" ∨ NmOk y) : sourceD (.str y) = true := by
  rcases h with rfl | hy
  · rfl
  · show (nameS y || _) = true
    rw [hy.name]
    rfl
theorem strs_perm {ms : List V} {ys : List Str} (h : ms.Perm (ys.map V.str)) : ∃ zs : List Str, ms = zs.map V.str ∧ zs.Perm ys := by
  let f : V → Str := fun v => match v with | .str z => z | _ => ""
  refine ⟨ms.map f, ?_, ?_⟩
  · rw [List.map_map]
    conv => lhs; rw [← List.map_id ms]
    refine List.map_congr_left fun v hv => ?_
    obtain ⟨z, _, rfl⟩ := List.mem_map.mp (h.mem_iff.mp hv)
    rfl
  · have := h.map f
    rw [List.map_map] at this
    have e : ys.map (f ∘ V.str) = ys := by
      conv => rhs; rw [← List.map_id ys]
      exact List.map_congr_left fun _ _ => rfl
    rwa [e] at this
section
variable {P : Program} {w : World} {K : PySem.W.Frag} {mg : Str → Option Value} {base : Heap}
abbrev nSt : List Str := ["_law_bag_here", "_law_kinds_here", "_law_names_here", "_law_x", "_law_word", "_law_parts", "_law_chosen", "_law_k", "_law_name_here"]
theorem scSt : FnScope nSt ["_law_bag_here", "_law_kinds_here"] (defScope sSt) := ⟨rfl, rfl, rfl, by decide +kernel, rfl, by decide +kernel, by decide +kernel⟩
theorem ok_st {f fT fP fM : Addr} {fd fdT fdP fdM : FuncData} (F : Fun K "_law_statement" "_law_statement" sSt f fd) (GT : FnOk P w K mg base CX0 1 fT fdT ["_law_bag_here", "_law_many"] spTake) (bT : Binds K fdT ["_law_bag_here", "_law_many"] []) (mT : mg "_law_take" = some (.ref fT)) (kT : PySem.W.keepIn K (.ref fT) = true)
    (GP : FnOk P w K mg base CX0 3 fP fdP ["_law_bag_here", "_law_kinds_here", "_law_kind"] spPart) (bP : Binds K fdP ["_law_bag_here", "_law_kinds_here", "_law_kind"] []) (mP : mg "_law_part" = some (.ref fP)) (kP : PySem.W.keepIn K (.ref fP) = true)
    (GM : FnOk P w K mg base CX0 2 fM fdM ["_law_bag_here", "_law_things"] (spMixed K)) (bM : Binds K fdM ["_law_bag_here", "_law_things"] []) (mM : mg "_law_mixed" = some (.ref fM)) (kM : PySem.W.keepIn K (.ref fM) = true)
    (mo : mg "sorted" = none) (ml : mg "len" = none) (mr : mg "range" = none) (mt : mg "tuple" = none) : FnOk P w K mg base CX0 4 f fd ["_law_bag_here", "_law_kinds_here"] spSt := by
  refine F.ok scSt (fun vs H Q E h => ?_) (fun cdv A outer s H vs Q E hr h => ?_)
  · obtain ⟨b, a, ks, rfl, _⟩ := h
    rfl
  · obtain ⟨b, a, ks, rfl, B, ab, ha, ok, hl, q⟩ := h
    have hr1 : Room 1 _ := hr.mono (by decide)
    have hr2 : Room 2 _ := hr.mono (by decide)
    have hu := hu_of hr
    refine ⟨_, pss_cons (ps_set (i := 2) scSt.nd rfl (.inl rfl) (pe_callB (call_sortedD rfl) (by rfl) mo (by decide +kernel) (pa_cons (pv 1) pa_nil)))
      (pss_cons (ps_if (PW.pt (pw_or (pt_cmpR (op_eqNil hr.units) (pv 2) (pe_lst pa_nil) (nomark _)) (pw_or1 (pt_cmpR op_eq (pe_call GT hr1 (by rfl) mT kT bT .nil pass0 (pa_cons (pv 0) (pa_cons pe_int pa_nil))) pe_int (nomark _)))))
        (pss_one (ps_ret (pe_tup (pa_cons pe_str pa_nil)))) pss_nil)
      (pss_cons (ps_set (i := 3) scSt.nd rfl (.inr rfl) (pe_ix ix_list (pv 2) (pe_call GT hr1 (by rfl) mT kT bT .nil pass0 (pa_cons (pv 0) (pa_cons (pe_callB call_len_seq (by rfl) ml PySem.boot_len (pa_cons (pv 2) pa_nil)) pa_nil))) (fun _ _ => rfl)))
      (pss_cons (ps_if (PW.pt (pw_and (pt_cmpR op_ne (pe_dget hu (pv 1) (pv 3) (fun _ _ => rfl)) pe_str (nomark _)) (pw_and1 (pt_cmpR op_gt (pe_call GT hr1 (by rfl) mT kT bT .nil pass0 (pa_cons (pv 0) (pa_cons pe_int pa_nil))) pe_int (nomark _)))))
        (pss_cons (ps_set (i := 4) scSt.nd rfl (.inl rfl) (pe_ifExp (pt_cmpR op_eq (pe_dget hu (pv 1) (pv 3) (fun _ _ => rfl)) pe_str (nomark _)) pe_str pe_str))
        (pss_cons (ps_setLc (i := 5) (own := [("_law_k", 7)]) (g := gName 7) (tt := tYes) (by rfl) scSt.nd rfl rfl (sw_true rfl rfl rfl (by decide +kernel)) (pi_range1 (by rfl) mr (pa_cons (pe_op op_add pe_int (pe_call GT hr1 (by rfl) mT kT bT .nil pass0 (pa_cons (pv 0) (pa_cons pe_int pa_nil)))) pa_nil)) (blkOk_by (N := nSt) (sc := defScope sSt) (by decide +kernel))
            (fun _ _ _ _ _ => pg_name (i := 7) scSt.nd rfl (Or.inl rfl)) (fun _ _ _ _ _ => pts_nil) (fun _ _ _ _ _ => pe_call GP hr (by rfl) mP kP bP .nil pass0 (pa_cons (pv 0) (pa_cons (pv 1) (pa_cons (pe_dget hu (pv 1) (pv 3) (fun _ _ => rfl)) pa_nil)))))
        (pss_one (ps_ret (pe_tup (pa_cons (pv 4) (pa_cons (pv 3) (pa_cons (pe_callTy call_tuple_of (by rfl) mt boot_tuple (pa_cons (pv 5) pa_nil)) pa_nil)))))))) pss_nil)
      (pss_cons (ps_set (i := 6) scSt.nd rfl (.inl rfl) (pe_lst (pa_cons (pv 3) pa_nil)))
      (pss_cons (ps_if (pt_cmpR op_eq (pe_call GT hr1 (by rfl) mT kT bT .nil pass0 (pa_cons (pv 0) (pa_cons pe_int pa_nil))) pe_int (nomark _))
        (pss_one (ps_set (i := 6) scSt.nd rfl (.inl rfl) (pe_slice sl_list (pe_call GM hr2 (by rfl) mM kM bM .nil pass0 (pa_cons (pv 0) (pa_cons (pv 2) pa_nil))) po_none (po_some (pe_call GT hr1 (by rfl) mT kT bT .nil pass0 (pa_cons (pv 0) (pa_cons pe_int pa_nil))))))) pss_nil)
      (pss_one (ps_ret (pe_tup (pa_cons pe_str (pa_cons (pe_callTy call_tuple_of (by rfl) mt boot_tuple (pa_cons
          (pe_lc (own := [("_law_name_here", 8)]) (g := gName 8) (tt := tYes) rfl scSt.nd (pi_list (pv 6)) (blkOk_by (N := nSt) (sc := defScope sSt) (by decide +kernel))
            (fun _ _ _ _ _ => pg_name (i := 8) scSt.nd rfl (Or.inl rfl)) (fun _ _ _ _ _ => pts_nil)
            (fun _ _ _ _ _ => pe_op (r := rCatT K) op_catT (pe_tup (pa_cons (pv 8) pa_nil)) (pe_call GP hr (by rfl) mP kP bP .nil pass0 (pa_cons (pv 0) (pa_cons (pv 1) (pa_cons (pe_dget hu (pv 1) (pv 8) (fun _ _ => rfl)) pa_nil)))))) pa_nil)) pa_nil)))))))))), ?_⟩
    obtain ⟨c0, B0⟩ := B
    obtain ⟨ob, hob⟩ := Bag.at_b (BagAt.bag B0)
    refine ⟨_, rfl, a, kinV ks, ks.map (·.1), rfl, .inl ha, kin_keys ks, by rw [List.length_map]; omega, fun ys n hperm _ nn => ?_⟩
    have s1 := same_upd (o := .lst (ys.map V.str)) nn
    have en := (upd_same : (upd H n (.lst (ys.map V.str))) n = some (.lst (ys.map V.str)))
    have nb : n ≠ b := (ne_of_none hob nn).symm
    have B1 : BagAt (upd H n (.lst (ys.map V.str))) b c0 := BagAt.same B0 s1
    generalize upd H n (.lst (ys.map V.str)) = H1 at s1 en B1 ⊢
    have yl : ys.length ≤ 20 := by rw [hperm.length_eq, List.length_map]; exact hl
    have k01 : Keep b H H1 := fun c o _ e => s1 c o e
    have ynm : ∀ z ∈ ys, NmOk z := fun z hz => by
      obtain ⟨pr, hp, rfl⟩ := List.mem_map.mp (hperm.mem_iff.mp hz)
      exact ok.nm pr hp
    have ynd : ys.Nodup := hperm.nodup_iff.mpr ok.nd
    have ykin : ∀ z ∈ ys, ∃ k, valV (kinV ks) (Sum.inr z) = some (.str k) ∧ kindS k := fun z hz => kin_get (hperm.mem_iff.mp hz) ok.kd
    have skip : ∀ H', BagAt H' b c0 → Keep b H H' → (1 : Nat) ≤ sizeLine ∧ ∀ p, H' p = none → Q (.ref p) (upd H' p (.tup [.str "skip"])) := fun H' B' k' => by
      refine ⟨by decide, fun p np => ?_⟩
      obtain ⟨B2, pb, _⟩ := BagAt.new (o := .tup [.str "skip"]) B' np
      exact q p (.tuple [.str "skip"]) _ (.tup upd_same pb (.cons (.str _) .nil)) ⟨by decide, ⟨by decide, by decide⟩, True.intro⟩ (by decide +kernel) rfl ⟨Nat.zero_le _, (fun e he => by cases he), few_skip⟩ (BagAt.bag B2) (k'.trans (Keep.new np)) fun c hc => by rw [BagAt.uniq B0 hc]; exact B2
    refine ⟨_, rfl, Nat.zero_le _, fun e ne => ?_⟩
    have s2 := same_upd (o := .lst []) ne
    have B2 : BagAt (upd H1 e (.lst [])) b c0 := BagAt.same B1 s2
    have k02 : Keep b H (upd H1 e (.lst [])) := k01.trans fun c o _ e => s2 c o e
    refine ⟨n, e, _, rfl, rfl, SqL.of (s2 _ _ en), SqL.of upd_same, _, rfl, ?_⟩
    have en2 := s2 _ _ en
    generalize upd H1 e (.lst []) = H2 at s2 B2 k02 en2 ⊢
    rw [map_empty]
    cases hys : ys.isEmpty with
    | true => exact skip H2 B2 k02
    | false =>
      have ypos : 0 < ys.length := by
        cases ys with
        | nil => cases hys
        | cons y ys => simp
      refine iteF ⟨_, rfl, b, 8, rfl, BagAt.bag B2, by decide, by decide, fun r0 H3 h3 B3 k3 g3 => ⟨rfl, _, rfl, ite2 (fun _ => ?_) (fun _ => ?_)⟩⟩
      · exact skip H3 (g3 _ B2) (k02.trans k3)
      have B3c := g3 _ B2
      have k03 := k02.trans k3
      have en3 := k3 _ _ nb en2
      refine ⟨_, rfl, _, rfl, _, rfl, n, _, rfl, .inl (SqL.of en3), b, _, rfl, BagAt.bag B3c, by rw [List.length_map]; omega, by rw [List.length_map]; omega, fun r H4 h4 B4 k4 g4 => ?_⟩
      rw [List.length_map] at h4
      have hr4 : r < ys.length := by omega
      obtain ⟨x, hx⟩ : ∃ x, ys[r]? = some x := ⟨_, List.getElem?_eq_getElem hr4⟩
      have xm := List.mem_of_getElem? hx
      have B4c := g4 _ B3c
      have k04 := k03.trans k4
      have en4 := k4 _ _ nb en3
      refine ⟨n, _, r, .str x, rfl, rfl, SqL.of en4, atI_nat (by rw [List.getElem?_map, hx]; rfl), ?_⟩
      obtain ⟨kx, ekx, hkx⟩ := ykin x xm
      have dget : ∀ {H' : Hp}, Keep b H H' → DGet H' a (.str x) (some (.str kx)) := fun {H'} k' => ekx ▸ DGet.k (k := Sum.inr x) (k' _ _ ab ha)
      dsimp only [gName]
      refine cutK (fun σ' H' => ∃ y4 y5 y6 y7 y8 : Option V, σ' = [some (.ref b), some (.ref a), some (.ref n), some (.str x), y4, y5, y6, y7, y8] ∧ BagAt H' b c0 ∧ Keep b H H' ∧ H' n = some (.lst (ys.map V.str))) ?_ (fun kk => ?_)
      rotate_left
      · refine ⟨_, rfl, _, rfl, a, _, rfl, dget k04, rfl, _, rfl, ?_⟩
        by_cases hpl : kx = "plain"
        · rw [show (!decide (V.str kx = V.str "plain")) = false from by rw [str_dec, decide_eq_true hpl]; rfl]
          exact iteF (kk _ _ ⟨_, _, _, _, _, rfl, B4c, k04, en4⟩)
        · rw [show (!decide (V.str kx = V.str "plain")) = true from by rw [str_dec, decide_eq_false hpl]; rfl]
          refine iteT ⟨_, rfl, b, 3, rfl, BagAt.bag B4c, by decide, by decide, fun r5 H5 h5 B5 k5 g5 => ⟨_, _, rfl, rfl, _, rfl, ite2 (fun _ => ?_) (fun _ => ?_)⟩⟩
          · have B5c := g5 _ B4c
            have k05 := k04.trans k5
            dsimp only [gName]
            refine cutK (fun σ' H' => ∃ (w4 : Str) (y5 y6 y7 y8 : Option V), σ' = [some (.ref b), some (.ref a), some (.ref n), some (.str x), some (.str w4), y5, y6, y7, y8] ∧ (w4 = "most" ∨ w4 = "least") ∧ H' = H5) ?_ (fun kk2 => ?_)
            rotate_left
            · refine ⟨_, rfl, _, rfl, a, _, rfl, dget k05, rfl, _, rfl, ite2 (fun _ => ?_) (fun _ => ?_)⟩
              · exact kk2 _ _ ⟨_, _, _, _, _, rfl, .inl rfl, rfl⟩
              · exact kk2 _ _ ⟨_, _, _, _, _, rfl, .inr rfl, rfl⟩
            rintro σ' H' ⟨w4, y5, y6, y7, y8, rfl, hw4, rfl⟩
            refine ⟨_, rfl, b, 3, rfl, B5, by decide, by decide, fun r6 H6 h6 B6 k6 g6 => ⟨_, _, rfl, rfl, 1 + (r6 : Int), rfl, by omega, by omega, fun D hD => ?_⟩⟩
            have B6c := g6 _ B5c
            have k06 := k05.trans k6
            obtain ⟨B7, Db, Dc⟩ := BagAt.new (o := .lst []) B6c hD
            refine lc_range (lo := 0) (n := (1 + (r6 : Int)).toNat) (fun i H' => BagAt H' b c0 ∧ Keep b H6 H' ∧ ∃ (ts : List V) (es : List PyData), H' D = some (.lst ts) ∧ DqAll (del H' D) b ts es ∧ es.length = i ∧ es.all pairD = true ∧ okAll es ∧ ∀ e ∈ es, -(10 ^ 39) ≤ lastI e ∧ lastI e ≤ 10 ^ 39) ⟨B7, Keep.new hD, [], [], upd_same, .nil, rfl, rfl, True.intro, fun e he => by cases he⟩ ?_ ?_
            · rintro i H' hi ⟨B', k', ts, es, e', ta, el, et, eo, ec⟩
              have kA := k06.trans k'
              refine ⟨rfl, _, rfl, _, rfl, _, rfl, _, rfl, a, _, rfl, dget kA, b, a, ks, kx, rfl, BagAt.bag B', ab, kA _ _ ab ha, ok, hl, fun p y c H9 pb ep hy c1 c2 B9 k9 g9 => ?_⟩
              have tl : ts.length = i := by rw [ta.len, el]
              refine ⟨ts, k9 _ _ Db e', small60 (by omega), (g9 _ B').put Db Dc, fun c o n e => ?_, ts ++ [.ref p], es ++ [.tuple [.str y, .int c]], upd_same, ?_, ?_, ?_, ?_, ?_⟩
              · rw [upd_ne (ne_of_none e hD)]
                exact k9 _ _ n (k' c o n e)
              · rw [del_upd]
                have subk : ∀ c o, c ≠ b → del H' D c = some o → del H9 D c = some o := fun c o n e => by
                  have nc : c ≠ D := fun z => by
                    rw [z, del_same] at e
                    cases e
                  rw [del_ne nc]
                  exact k9 c o n (del_sub c o e)
                refine DqAll.snoc ?_ (ta.mono fun c o n e => subk c o n e)
                have pD : p ≠ D := fun z => by
                  rw [z, k9 _ _ Db e'] at ep
                  cases ep
                exact .tup (xs := [.str y, .int c]) (by rw [del_ne pD]; exact ep) pb (.cons (.str _) (.cons (.int _) .nil))
              · simp [el]
              · rw [List.all_append, et]
                show (true && ((sourceD (.str y) && true) && true)) = true
                rw [src_name hy]
                rfl
              · exact okAll.snoc (d := .tuple [.str y, .int c]) ⟨by show 2 ≤ 60; decide, src_ok hy, True.intro, True.intro⟩ eo
              · intro e he
                rcases List.mem_append.mp he with h | h
                · exact ec e h
                · rw [List.mem_singleton.mp h]
                  exact ⟨c1, c2⟩
            · rintro H9 ⟨B9, k9, ts, es, eD, ta, el, et, eo, ec⟩
              have elb : 1 ≤ es.length ∧ es.length ≤ 4 := by omega
              refine ⟨_, rfl, _, rfl, _, rfl, D, ts, rfl, .inl ⟨SqL.of eD, fun l2 fl => ⟨by show 3 ≤ sizeLine; decide, fun p np => ?_⟩⟩⟩
              obtain ⟨B10, lb2, _⟩ := BagAt.new (o := .tup ts) B9 fl
              obtain ⟨B11, pb2, _⟩ := BagAt.new (o := .tup [.str w4, .str x, .ref l2]) B10 np
              have kC : Keep b H9 (upd H9 l2 (.tup ts)) := Keep.new fl
              have kD : Keep b (upd H9 l2 (.tup ts)) (upd (upd H9 l2 (.tup ts)) p (.tup [.str w4, .str x, .ref l2])) := Keep.new np
              have okw : okD (.str w4) := by rcases hw4 with rfl | rfl <;> exact ⟨by decide, by decide⟩
              refine q p (.tuple [.str w4, .str x, .tuple es]) _ (.tup upd_same pb2 (.cons (.str _) (.cons (.str _) (.cons (.tup (kD _ _ lb2 upd_same) lb2 (ta.mono fun c o n e => (kC.trans kD) c o n (del_sub c o e))) .nil)))) ⟨by show 3 ≤ 60; decide, okw, (ynm x xm).ok, ⟨by omega, eo⟩, True.intro⟩ ?_ rfl ⟨by show es.length ≤ 20; omega, ec, few3 (by omega)⟩ (BagAt.bag B11) (((k06.trans k9).trans kC).trans kD) fun c hc => by rw [BagAt.uniq B0 hc]; exact B11
              refine rest3.trans ?_
              have hp : partsD (.tuple es) = true := by
                show (true && es.all pairD) = true
                rw [et]
                rfl
              have hne : (itemsD (.tuple es)).isEmpty = false := by
                show es.isEmpty = false
                cases es with
                | nil => exact absurd elb.1 (by decide)
                | cons e es => rfl
              rw [hp, hne, decide_eq_true hw4, show nameD (.str x) = true from (ynm x xm).name]
              rfl
          · exact kk _ _ ⟨_, _, _, _, _, rfl, g5 _ B4c, k04.trans k5, k5 _ _ nb en4⟩
      rintro σ' H5 ⟨y4, y5, y6, y7, y8, rfl, B5, k5, en5⟩
      refine ⟨_, rfl, by show 1 ≤ sizeLine; decide, fun l nl => ?_⟩
      obtain ⟨B6, lb, lc⟩ := BagAt.new (o := .lst [.str x]) B5 nl
      have k6 : Keep b H (upd H5 l (.lst [.str x])) := k5.trans (Keep.new nl)
      have en6 : (upd H5 l (.lst [.str x])) n = some (.lst (ys.map V.str)) := by rw [upd_ne (ne_of_none en5 nl)]; exact en5
      have el6 := (upd_same : (upd H5 l (.lst [.str x])) l = some (.lst [.str x]))
      generalize upd H5 l (.lst [.str x]) = H6 at B6 k6 en6 el6 ⊢
      dsimp only [gName]
      refine cutK (fun σ' H' => ∃ (y4 y5 y7 y8 : Option V) (g : Addr) (zs : List Str), σ' = [some (.ref b), some (.ref a), some (.ref n), some (.str x), y4, y5, some (.ref g), y7, y8] ∧ BagAt H' b c0 ∧ Keep b H H' ∧ g ≠ b ∧ H' g = some (.lst (zs.map V.str)) ∧ zs.Nodup ∧ zs.length ≤ 20 ∧ ∀ z ∈ zs, z ∈ ys) ?_ (fun kk => ?_)
      rotate_left
      · refine ⟨_, rfl, b, 3, rfl, BagAt.bag B6, by decide, by decide, fun r7 H7 h7 B7 k7 g7 => ⟨rfl, _, rfl, ite2 (fun _ => ?_) (fun _ => ?_)⟩⟩
        · refine ⟨_, rfl, _, rfl, b, n, ys.map V.str, rfl, B7, nb, k7 _ _ nb en6, by rw [List.length_map]; omega, fun p ms H8 np mp ep perm B8 k8 g8 => ?_⟩
          refine ⟨_, rfl, b, 4, rfl, B8, by decide, by decide, fun r9 H9 h9 B9 k9 g9 => ?_⟩
          have B9c := g9 _ (g8 _ (g7 _ B6))
          have pb : p ≠ b := fun z => by
            obtain ⟨o, ho⟩ := Bag.at_b B7
            rw [z, ho] at np
            cases np
          refine ⟨_, rfl, p, ms, rfl, SqL.of (k9 _ _ pb ep), fun g ng => ?_⟩
          obtain ⟨zs, rfl, pz⟩ : ∃ zs : List Str, ms = zs.map V.str ∧ zs.Perm ys := strs_perm perm
          obtain ⟨B10, gb, _⟩ := BagAt.new (o := .lst (cutV (zs.map V.str) none (some (r9 : Int)))) B9c ng
          refine kk _ _ ⟨_, _, _, _, g, zs.take r9, rfl, B10, ((((k6.trans k7).trans k8).trans k9).trans (Keep.new ng)), gb, ?_, ?_, ?_, ?_⟩
          · rw [upd_same, cut_to, List.map_take]
          · exact (pz.nodup_iff.mpr ynd).sublist (List.take_sublist _ _)
          · have := pz.length_eq
            rw [List.length_take]
            omega
          · exact fun z hz => pz.mem_iff.mp (List.mem_of_mem_take hz)
        · exact kk _ _ ⟨_, _, _, _, l, [x], rfl, g7 _ B6, k6.trans k7, lb, k7 _ _ lb el6, by simp, by show 1 ≤ 20; decide, fun z hz => by rw [List.mem_singleton.mp hz]; exact xm⟩
      rintro σ' H7 ⟨y4, y5, y7, y8, g, zs, rfl, B7, k7, gb, eg, znd, zl, zm⟩
      refine ⟨_, rfl, g, rfl, ⟨_, SqL.of eg⟩, fun D hD => ?_⟩
      obtain ⟨B8, Db, Dc⟩ := BagAt.new (o := .lst []) B7 hD
      have gD : g ≠ D := ne_of_none eg hD
      refine lc_list (K := K) (a := g) (xs := zs.map V.str) (fun i H' => BagAt H' b c0 ∧ Keep b H7 H' ∧ ∃ (ts : List V) (es : List PyData), H' D = some (.lst ts) ∧ DqAll (del H' D) b ts es ∧ es.length = i ∧ es.all tripD = true ∧ es.map headS = zs.take i ∧ okAll es ∧ ∀ e ∈ es, -(10 ^ 39) ≤ lastI e ∧ lastI e ≤ 10 ^ 39) ⟨B8, Keep.new hD, [], [], upd_same, .nil, rfl, rfl, rfl, True.intro, fun e he => by cases he⟩ (fun i H' _ h => SqL.of (h.2.1 _ _ gb eg)) ?_ ?_
      · rintro i xv H' hxi ⟨B', k', ts, es, e', ta, el, et, eh, eo, ec⟩
        obtain ⟨z, hzi, rfl⟩ : ∃ z, zs[i]? = some z ∧ xv = V.str z := by
          rw [List.getElem?_map] at hxi
          cases e : zs[i]? with
          | none => rw [e] at hxi; cases hxi
          | some z => rw [e] at hxi; exact ⟨z, rfl, (Option.some.inj hxi).symm⟩
        have hi : i < zs.length := (List.getElem?_eq_some_iff.mp hzi).1
        have hzm := zm z (List.mem_of_getElem? hzi)
        obtain ⟨kz, ekz, _⟩ := ykin z hzm
        refine ⟨rfl, _, rfl, by show 1 ≤ sizeLine; decide, fun t1 nt1 => ?_⟩
        obtain ⟨B1', t1b, _⟩ := BagAt.new (o := .tup [.str z]) B' nt1
        have k1' : Keep b H' (upd H' t1 (.tup [.str z])) := Keep.new nt1
        have kA := (k7.trans k').trans k1'
        refine ⟨_, rfl, _, rfl, _, rfl, _, rfl, a, _, rfl, ekz ▸ DGet.k (k := Sum.inr z) (kA _ _ ab ha), b, a, ks, kz, rfl, BagAt.bag B1', ab, kA _ _ ab ha, ok, hl, fun p y c H9 pb ep hy c1 c2 B9 k9 g9 => ?_⟩
        have B9c := g9 _ B1'
        refine ⟨t1, p, [.str z], [.str y, .int c], rfl, rfl, SqT.of (k9 _ _ t1b upd_same), SqT.of ep, nofun, by show 3 ≤ sizeLine; decide, nofun, fun _ t2 nt2 => ?_⟩
        obtain ⟨B10, t2b, _⟩ := BagAt.new (o := .tup ([.str z] ++ [.str y, .int c])) B9c nt2
        have k10 : Keep b H9 (upd H9 t2 (.tup ([.str z] ++ [.str y, .int c]))) := Keep.new nt2
        have kB := (k1'.trans k9).trans k10
        have tl : ts.length = i := by rw [ta.len, el]
        have ys1 : sourceD (.str y) = true := by
          rcases hy with rfl | hy
          · rfl
          · show (nameS y || _) = true
            rw [hy.name]
            rfl
        have hzn : nameD (.str z) = true := (ynm z hzm).name
        refine ⟨ts, kB _ _ Db e', small60 (by omega), B10.put Db Dc, fun c o n e => ?_, ts ++ [.ref t2], es ++ [.tuple [.str z, .str y, .int c]], upd_same, ?_, ?_, ?_, ?_, ?_, ?_⟩
        · rw [upd_ne (ne_of_none e hD)]
          exact kB _ _ n (k' c o n e)
        · rw [del_upd]
          refine DqAll.snoc (.tup (xs := [.str z, .str y, .int c]) ?_ t2b (.cons (.str _) (.cons (.str _) (.cons (.int _) .nil)))) (ta.mono fun c o n e => ?_)
          · have t2D : t2 ≠ D := (ne_of_none ((k1'.trans k9) _ _ Db e') nt2).symm
            rw [del_ne t2D]
            exact upd_same
          · have nc : c ≠ D := fun z => by
              rw [z, del_same] at e
              cases e
            rw [del_ne nc]
            exact kB c o n (del_sub c o e)
        · simp [el]
        · rw [List.all_append, et]
          show (true && ((nameD (.str z) && sourceD (.str y) && true) && true)) = true
          rw [hzn, ys1]
          rfl
        · rw [List.map_append, eh, List.take_add_one, hzi]
          rfl
        · exact okAll.snoc (d := .tuple [.str z, .str y, .int c]) ⟨by show 3 ≤ 60; decide, (ynm z hzm).ok, src_ok hy, True.intro, True.intro⟩ eo
        · intro e he
          rcases List.mem_append.mp he with h | h
          · exact ec e h
          · rw [List.mem_singleton.mp h]
            exact ⟨c1, c2⟩
      · rintro H9 ⟨B9, k9, ts, es, eD, ta, el, et, eh, eo, ec⟩
        rw [List.length_map] at el eh
        rw [List.take_length] at eh
        refine ⟨D, ts, rfl, .inl ⟨SqL.of eD, fun l2 fl => ⟨by show 2 ≤ sizeLine; decide, fun p np => ?_⟩⟩⟩
        obtain ⟨B10, lb2, _⟩ := BagAt.new (o := .tup ts) B9 fl
        obtain ⟨B11, pb2, _⟩ := BagAt.new (o := .tup [.str "set", .ref l2]) B10 np
        have kC : Keep b H9 (upd H9 l2 (.tup ts)) := Keep.new fl
        have kD : Keep b (upd H9 l2 (.tup ts)) (upd (upd H9 l2 (.tup ts)) p (.tup [.str "set", .ref l2])) := Keep.new np
        have hset : setsD (.tuple es) = true := by
          show (true && es.all tripD && decide (es.map headS).Nodup) = true
          rw [et, eh, decide_eq_true znd]
          rfl
        refine q p (.tuple [.str "set", .tuple es]) _ (.tup upd_same pb2 (.cons (.str _) (.cons (.tup (kD _ _ lb2 upd_same) lb2 (ta.mono fun c o n e => (kC.trans kD) c o n (del_sub c o e))) .nil))) ⟨by show 2 ≤ 60; decide, ⟨by decide, by decide⟩, ⟨by omega, eo⟩, True.intro⟩ ?_ rfl ⟨by show es.length ≤ 20; omega, ec, few2 (by omega)⟩ (BagAt.bag B11) (((k7.trans k9).trans kC).trans kD) fun c hc => by rw [BagAt.uniq B0 hc]; exact B11
        exact rest2.trans (by rw [hset]; decide +kernel)
end
end Fv


set_option Elab.async false
set_option linter.all false
set_option maxRecDepth 100000
set_option maxHeartbeats 4000000
namespace Fv
open PySem PySem.Spec PyProof.Rows L2
abbrev sAreNames : Stmt := top 17
abbrev sAreSettings : Stmt := top 28
def dedup (l : List Str) : List Str := l.foldl insL []
theorem dedup_snoc (l : List Str) (x : Str) : dedup (l ++ [x]) = insL (dedup l) x := by
  unfold dedup
  rw [List.foldl_append]
  rfl
theorem insL_len (L : List Str) (k : Str) : (insL L k).length ≤ L.length + 1 := by
  unfold insL
  split
  · omega
  · rw [List.length_append]
    exact Nat.le_refl _
theorem fold_le : ∀ (l acc : List Str), (l.foldl insL acc).length ≤ acc.length + l.length
  | [], acc => by simp
  | x :: l, acc => by
    have h1 := fold_le l (insL acc x)
    have h2 := insL_len acc x
    rw [List.foldl_cons, List.length_cons]
    omega
theorem dedup_le (l : List Str) : (dedup l).length ≤ l.length := by
  have := fold_le l []
  rwa [List.length_nil, Nat.zero_add] at this
theorem fold_len : ∀ (l acc : List Str), acc.Nodup → ((l.foldl insL acc).length = acc.length + l.length ↔ (acc ++ l).Nodup)
  | [], acc, h => by simpa using h
  | x :: l, acc, h => by
    rw [List.foldl_cons]
    by_cases hx : x ∈ acc
    · have e : insL acc x = acc := by unfold insL; rw [if_pos hx]
      rw [e]
      have h1 := fold_le l acc
      constructor
      · intro z
        rw [z, List.length_cons] at h1
        omega
      · intro z
        rw [List.nodup_append] at z
        exact absurd rfl (z.2.2 x hx x List.mem_cons_self)
    · have e : insL acc x = acc ++ [x] := by unfold insL; rw [if_neg hx]
      have nd : (acc ++ [x]).Nodup := by
        rw [List.nodup_append]
        refine ⟨h, by simp, fun y hy z hz e => hx ?_⟩
        rw [List.mem_singleton.mp hz] at e
        exact e ▸ hy
      rw [e]
      have ih := fold_len l (acc ++ [x]) nd
      rw [List.length_append, List.append_assoc] at ih
      rw [List.length_cons]
      refine Iff.trans ?_ ih
      rw [show ([x] : List Str).length = 1 from rfl]
      constructor <;> intro z <;> omega
theorem dedup_len (l : List Str) : (dedup l).length = l.length ↔ l.Nodup := by
  have := fold_len l [] List.nodup_nil
  rwa [List.length_nil, Nat.zero_add, List.nil_append] at this
theorem dedup_dec {l : List Str} {n : Nat} (h : n = l.length) : decide (V.int ((dedup l).length : Int) = V.int (n : Int)) = decide l.Nodup := by
  rw [int_len, Bool.eq_iff_iff, decide_eq_true_eq, decide_eq_true_eq, h]
  exact dedup_len l
theorem scan4096 {n : Nat} (h : n ≤ 60) : n + 1 < scanBound := by
  have : scanBound = 4096 := rfl
  omega
section
variable {P : Program} {w : World} {K : PySem.W.Frag} {mg : Str → Option Value} {base : Heap} {C : Addr}
theorem scAn : FnScope ["thing", "item"] ["thing"] (defScope sAreNames) := ⟨rfl, rfl, rfl, by decide +kernel, rfl, by decide +kernel, by decide +kernel⟩
theorem ok_arenames {f fR fN : Addr} {fd fdR fdN : FuncData} (F : Fun K "are_names" "are_names" sAreNames f fd)
    (GR : FnOk P w K mg base CX0 1 fR fdR ["thing"] (spX C rowD)) (bR : Binds K fdR ["thing"] []) (mR : mg "is_row" = some (.ref fR)) (kR : PySem.W.keepIn K (.ref fR) = true)
    (GN : FnOk P w K mg base CX0 1 fN fdN ["thing"] (spX C nameD)) (bN : Binds K fdN ["thing"] []) (mN : mg "is_name" = some (.ref fN)) (kN : PySem.W.keepIn K (.ref fN) = true)
    (ma : mg "all" = none) (ml : mg "len" = none) : FnOk P w K mg base CX0 2 f fd ["thing"] (spX C namesD) := by
  refine F.ok scAn (fun vs H Q E h => ?_) (fun cdv A outer s H vs Q E hr h => ?_)
  · obtain ⟨b, v, d, rfl, _⟩ := h
    rfl
  · obtain ⟨b, v, d, rfl, hd, hs, hb, q⟩ := h
    refine ⟨_, pss_cons (ps_if (PW.pt (pw_or (pt_not (pt_val (pe_call GR hr (by rfl) mR kR bR .nil pass0 (pa_cons (pv 0) pa_nil)))) (pw_or1 (pt_not (pt_val (pe_callB (cr_all rfl) (by rfl) ma (by decide +kernel) (pa_cons
        (pe_lc (own := [("item", 1)]) (g := gName 1) (tt := tYes) rfl scAn.nd (pi_row (pv 0)) (blkOk_by (N := ["thing", "item"]) (sc := defScope sAreNames) (by decide +kernel))
        (fun _ _ _ _ _ => pg_name (i := 1) scAn.nd rfl (Or.inl rfl)) (fun _ _ _ _ _ => pts_nil) (fun _ _ _ _ _ => pe_call GN hr (by rfl) mN kN bN .nil pass0 (pa_cons (pv 1) pa_nil))) pa_nil)))))))
        (pss_one (ps_ret pe_bl)) pss_nil)
      (pss_one (ps_ret (pe_cmpR op_eq (pe_callB (r := rLenX P w) call_lenX (by rfl) ml PySem.boot_len (pa_cons
        (pe_scX (own := [("item", 1)]) (g := gName 1) (tt := tYes) rfl scAn.nd (pi_row (pv 0)) (blkOk_by (N := ["thing", "item"]) (sc := defScope sAreNames) (by decide +kernel))
        (fun _ _ _ _ _ => pg_name (i := 1) scAn.nd rfl (Or.inl rfl)) (fun _ _ _ _ _ => pts_nil) (fun _ _ _ _ _ => pv 1)) pa_nil)) (pe_callB call_len_seq (by rfl) ml PySem.boot_len (pa_cons (pv 0) pa_nil)) (nomark _)))), ?_⟩
    have e : namesD d = (rowD d && (itemsD d).all nameD && decide ((itemsD d).map strS).Nodup) := rfl
    rw [e] at q
    refine ⟨_, rfl, b, v, d, rfl, hd, hs, hb, fun H1 s1 => ⟨_, rfl, ?_⟩⟩
    cases h0 : rowD d with
    | false =>
      rw [h0] at q
      exact q H1 s1
    | true =>
      rw [h0, Bool.true_and] at q
      have hd1 : Dx C H1 b v d := hd.mono fun a o _ e => s1 a o e
      obtain ⟨a, xs, ds, rfl, hdd, hrow, hx⟩ := hd1.row_of (K := K) h0
      rw [rows_items hdd] at q
      obtain ⟨hl, hok⟩ := rows_ok hdd hs
      have hlen := hx.len
      refine iteF ⟨_, rfl, a, xs, rfl, hrow, fun J G wk hG D hD => ?_⟩
      refine lc_it wk (fun i H' => Same H1 H' ∧ H' D = some (.lst ((ds.take i).map fun d => V.bl (nameD d)))) ⟨same_upd hD, upd_same⟩ (fun i H' _ h => hG H' h.1) ?_ ?_
      · rintro i x H' H2 hi ⟨s', e'⟩ ⟨rfl, hxi⟩
        obtain ⟨dx, hdi, hdx⟩ := hx.get hxi
        refine ⟨rfl, _, rfl, b, x, dx, rfl, hdx.mono fun c o _ e => s' c o e, hok.mem dx (List.mem_of_getElem? hdi), there (s1.trans s') hb, fun H3 s3 => ⟨_, s3 _ _ e', ?_, fun c o e => ?_, ?_⟩⟩
        · rw [List.length_map, List.length_take]
          exact small60 (by omega)
        · rw [upd_ne (ne_of_none e hD)]
          exact s3 _ _ (s' c o e)
        · rw [upd_same, take_map_snoc hdi]
      · rintro H2 ⟨s2, e2⟩
        rw [hlen, List.take_length] at e2
        refine ⟨D, ds.map nameD, rfl, SqL.of (by rw [List.map_map]; exact e2), ?_⟩
        rw [List.all_map]
        refine ⟨ds.all nameD, rfl, ?_⟩
        cases h2 : ds.all nameD with
        | false =>
          rw [h2] at q
          exact iteT (q H2 (s1.trans s2))
        | true =>
          rw [h2, Bool.true_and] at q
          refine iteF ⟨_, rfl, a, xs, rfl, hrow.imp (fun h => h.same s2) (fun h => h.same s2), fun J2 G2 wk2 hG2 D2 hD2 => ?_⟩
          refine sc_it wk2 (fun i H' => Same H2 H' ∧ H' D2 = some (TxtO P w D2 (dedup ((ds.take i).map strS)))) ⟨same_upd hD2, upd_same⟩ (fun i H' _ h => hG2 H' h.1) ?_ ?_
          · rintro i x H' H3 hi ⟨s', e'⟩ ⟨rfl, hxi⟩
            obtain ⟨dx, hdi, hdx⟩ := hx.get hxi
            obtain ⟨z, rfl⟩ := name_str (List.all_eq_true.mp h2 dx (List.mem_of_getElem? hdi))
            cases hdx
            refine ⟨rfl, _, rfl, z, _, rfl, e', ?_, fun c o e => ?_, ?_⟩
            · refine scan4096 (Nat.le_trans (dedup_le _) ?_)
              rw [List.length_map, List.length_take]
              omega
            · rw [upd_ne (ne_of_none e hD2)]
              exact s' c o e
            · rw [upd_same, take_map_snoc hdi, dedup_snoc]
              rfl
          · rintro H3 ⟨s3, e3⟩
            rw [hlen, List.take_length] at e3
            refine ⟨D2, _, rfl, e3, _, rfl, a, xs, rfl, ?_, rfl, ?_⟩
            · exact hrow.imp (fun h => (h.same s2).same s3) (fun h => (h.same s2).same s3)
            · rw [dedup_dec (by rw [hlen, List.length_map])]
              exact q H3 ((s1.trans s2).trans s3)
theorem scAs : FnScope ["thing", "part"] ["thing"] (defScope sAreSettings) := ⟨rfl, rfl, rfl, by decide +kernel, rfl, by decide +kernel, by decide +kernel⟩
theorem ok_aresettings {f fR fN : Addr} {fd fdR fdN : FuncData} (F : Fun K "_are_settings" "_are_settings" sAreSettings f fd)
    (GR : FnOk P w K mg base CX0 1 fR fdR ["thing"] (spX C rowD)) (bR : Binds K fdR ["thing"] []) (mR : mg "is_row" = some (.ref fR)) (kR : PySem.W.keepIn K (.ref fR) = true)
    (GN : FnOk P w K mg base CX0 3 fN fdN ["thing"] (spX C tripD)) (bN : Binds K fdN ["thing"] []) (mN : mg "_is_setting" = some (.ref fN)) (kN : PySem.W.keepIn K (.ref fN) = true)
    (ma : mg "all" = none) (ml : mg "len" = none) : FnOk P w K mg base CX0 4 f fd ["thing"] (spX C setsD) := by
  refine F.ok scAs (fun vs H Q E h => ?_) (fun cdv A outer s H vs Q E hr h => ?_)
  · obtain ⟨b, v, d, rfl, _⟩ := h
    rfl
  · obtain ⟨b, v, d, rfl, hd, hs, hb, q⟩ := h
    have hr1 : Room 1 _ := hr.mono (by decide)
    refine ⟨_, pss_cons (ps_if (PW.pt (pw_or (pt_not (pt_val (pe_call GR hr1 (by rfl) mR kR bR .nil pass0 (pa_cons (pv 0) pa_nil)))) (pw_or1 (pt_not (pt_val (pe_callB (cr_all rfl) (by rfl) ma (by decide +kernel) (pa_cons
        (pe_lc (own := [("part", 1)]) (g := gName 1) (tt := tYes) rfl scAs.nd (pi_row (pv 0)) (blkOk_by (N := ["thing", "part"]) (sc := defScope sAreSettings) (by decide +kernel))
        (fun _ _ _ _ _ => pg_name (i := 1) scAs.nd rfl (Or.inl rfl)) (fun _ _ _ _ _ => pts_nil) (fun _ _ _ _ _ => pe_call GN hr (by rfl) mN kN bN .nil pass0 (pa_cons (pv 1) pa_nil))) pa_nil)))))))
        (pss_one (ps_ret pe_bl)) pss_nil)
      (pss_one (ps_ret (pe_cmpR op_eq (pe_callB (r := rLenX P w) call_lenX (by rfl) ml PySem.boot_len (pa_cons
        (pe_scX (own := [("part", 1)]) (g := gName 1) (tt := tYes) rfl scAs.nd (pi_row (pv 0)) (blkOk_by (N := ["thing", "part"]) (sc := defScope sAreSettings) (by decide +kernel))
        (fun _ _ _ _ _ => pg_name (i := 1) scAs.nd rfl (Or.inl rfl)) (fun _ _ _ _ _ => pts_nil) (fun _ _ _ _ _ => pe_ix (r := rIxT K) ix_tup (pv 1) pe_int (fun _ _ => rfl))) pa_nil)) (pe_callB call_len_seq (by rfl) ml PySem.boot_len (pa_cons (pv 0) pa_nil)) (nomark _)))), ?_⟩
    have e : setsD d = (rowD d && (itemsD d).all tripD && decide ((itemsD d).map headS).Nodup) := rfl
    rw [e] at q
    refine ⟨_, rfl, b, v, d, rfl, hd, hs, hb, fun H1 s1 => ⟨_, rfl, ?_⟩⟩
    cases h0 : rowD d with
    | false =>
      rw [h0] at q
      exact q H1 s1
    | true =>
      rw [h0, Bool.true_and] at q
      have hd1 : Dx C H1 b v d := hd.mono fun a o _ e => s1 a o e
      obtain ⟨a, xs, ds, rfl, hdd, hrow, hx⟩ := hd1.row_of (K := K) h0
      rw [rows_items hdd] at q
      obtain ⟨hl, hok⟩ := rows_ok hdd hs
      have hlen := hx.len
      refine iteF ⟨_, rfl, a, xs, rfl, hrow, fun J G wk hG D hD => ?_⟩
      refine lc_it wk (fun i H' => Same H1 H' ∧ H' D = some (.lst ((ds.take i).map fun d => V.bl (tripD d)))) ⟨same_upd hD, upd_same⟩ (fun i H' _ h => hG H' h.1) ?_ ?_
      · rintro i x H' H2 hi ⟨s', e'⟩ ⟨rfl, hxi⟩
        obtain ⟨dx, hdi, hdx⟩ := hx.get hxi
        refine ⟨rfl, _, rfl, b, x, dx, rfl, hdx.mono fun c o _ e => s' c o e, hok.mem dx (List.mem_of_getElem? hdi), there (s1.trans s') hb, fun H3 s3 => ⟨_, s3 _ _ e', ?_, fun c o e => ?_, ?_⟩⟩
        · rw [List.length_map, List.length_take]
          exact small60 (by omega)
        · rw [upd_ne (ne_of_none e hD)]
          exact s3 _ _ (s' c o e)
        · rw [upd_same, take_map_snoc hdi]
      · rintro H2 ⟨s2, e2⟩
        rw [hlen, List.take_length] at e2
        refine ⟨D, ds.map tripD, rfl, SqL.of (by rw [List.map_map]; exact e2), ?_⟩
        rw [List.all_map]
        refine ⟨ds.all tripD, rfl, ?_⟩
        cases h2 : ds.all tripD with
        | false =>
          rw [h2] at q
          exact iteT (q H2 (s1.trans s2))
        | true =>
          rw [h2, Bool.true_and] at q
          refine iteF ⟨_, rfl, a, xs, rfl, hrow.imp (fun h => h.same s2) (fun h => h.same s2), fun J2 G2 wk2 hG2 D2 hD2 => ?_⟩
          refine sc_it wk2 (fun i H' => Same H2 H' ∧ H' D2 = some (TxtO P w D2 (dedup ((ds.take i).map headS)))) ⟨same_upd hD2, upd_same⟩ (fun i H' _ h => hG2 H' h.1) ?_ ?_
          · rintro i x H' H3 hi ⟨s', e'⟩ ⟨rfl, hxi⟩
            obtain ⟨dx, hdi, hdx⟩ := hx.get hxi
            obtain ⟨zx, zy, zc, rfl⟩ := trip_shape (List.all_eq_true.mp h2 dx (List.mem_of_getElem? hdi))
            obtain ⟨at_, ws, es, rfl, ee, e4, hw⟩ := hdx.tup_of rfl
            cases ee
            obtain ⟨v1, v2, v3, rfl⟩ := three_of hw.len
            obtain ⟨_, _, _, ee, g4, g5, g6⟩ := hw.three
            cases ee
            cases g4
            refine ⟨rfl, _, rfl, at_, _, _, _, rfl, rfl, SqT.of (s' _ _ (s2 _ _ e4)), atI_nat (j := 0) rfl, zx, _, rfl, e', ?_, fun c o e => ?_, ?_⟩
            · refine scan4096 (Nat.le_trans (dedup_le _) ?_)
              rw [List.length_map, List.length_take]
              omega
            · rw [upd_ne (ne_of_none e hD2)]
              exact s' c o e
            · rw [upd_same, take_map_snoc hdi, dedup_snoc]
              rfl
          · rintro H3 ⟨s3, e3⟩
            rw [hlen, List.take_length] at e3
            refine ⟨D2, _, rfl, e3, _, rfl, a, xs, rfl, ?_, rfl, ?_⟩
            · exact hrow.imp (fun h => (h.same s2).same s3) (fun h => (h.same s2).same s3)
            · rw [dedup_dec (by rw [hlen, List.length_map])]
              exact q H3 ((s1.trans s2).trans s3)
end
end Fv


set_option Elab.async false
set_option linter.all false
set_option maxRecDepth 100000
set_option maxHeartbeats 1000000
namespace Fv
open PySem PySem.Spec PyProof.Rows L2
/-! ### what an own error's __init__ leaves -/
def spI1 (C : Addr) (f : Str) : Sp := fun vs H Q _ => ∃ (a : Addr) (y : V), vs = [.ref a, y] ∧ H a = some (exo a C none) ∧ ∀ dx, H dx = none → dx ≠ a → Q .non (upd (upd H dx (exd dx [(f, y)])) a (exo a C (some dx)))
def spI2 (C : Addr) (f g : Str) : Sp := fun vs H Q _ => ∃ (a : Addr) (y z : V), vs = [.ref a, y, z] ∧ H a = some (exo a C none) ∧ ∀ dx, H dx = none → dx ≠ a → Q .non (upd (upd (upd H dx (exd dx [(f, y)])) a (exo a C (some dx))) dx (exd dx [(g, z), (f, y)]))
theorem let_go {H : Hp} {a dx C : Addr} {fs : List (Str × V)} {o o1 o2 : HO} (na : H a = none) (ne : dx ≠ a) : upd (del (upd (upd (upd H a o) dx o1) a o2) a) dx (.xd fs) = upd H dx (.xd fs) := by
  funext b
  by_cases hb : b = dx
  · rw [hb, upd_same, upd_same]
  · rw [upd_ne hb, upd_ne hb]
    by_cases h2 : b = a
    · rw [h2, del_same, na]
    · rw [del_ne h2, upd_ne h2, upd_ne hb, upd_ne h2]
theorem let_go2 {H : Hp} {a dx C : Addr} {fs : List (Str × V)} {o o1 o2 o3 : HO} (na : H a = none) (ne : dx ≠ a) : upd (del (upd (upd (upd (upd H a o) dx o1) a o2) dx o3) a) dx (.xd fs) = upd H dx (.xd fs) := by
  funext b
  by_cases hb : b = dx
  · rw [hb, upd_same, upd_same]
  · rw [upd_ne hb, upd_ne hb]
    by_cases h2 : b = a
    · rw [h2, del_same, na]
    · rw [del_ne h2, upd_ne hb, upd_ne h2, upd_ne hb, upd_ne h2]
structure Own1 (P : Program) (w : World) (K : PySem.W.Frag) (mg : Str → Option Value) (base : Heap) (x f : Str) (C : Addr) : Prop where
  ox : OexC K C
  gC : mg x = some (.ref C)
  made : ∃ (fI : Addr) (fd : FuncData) (ps : List Str), PySem.W.findIn K (.ref C) "__init__" = some (some (.ref fI)) ∧ PySem.W.typeIn K (.ref fI) = some (.type "function") ∧ FnOk P w K mg base CX0 1 fI fd ps (spI1 C f) ∧ Binds K fd ps []
structure Own2 (P : Program) (w : World) (K : PySem.W.Frag) (mg : Str → Option Value) (base : Heap) (x f g : Str) (C : Addr) : Prop where
  ox : OexC K C
  gC : mg x = some (.ref C)
  made : ∃ (fI : Addr) (fd : FuncData) (ps : List Str), PySem.W.findIn K (.ref C) "__init__" = some (some (.ref fI)) ∧ PySem.W.typeIn K (.ref fI) = some (.type "function") ∧ FnOk P w K mg base CX0 1 fI fd ps (spI2 C f g) ∧ Binds K fd ps []
structure Own0 (K : PySem.W.Frag) (mg : Str → Option Value) (x : Str) (C : Addr) : Prop where
  ex : PySem.W.excIn K C [.type "ValueError", .type "Exception", .type "BaseException", .type "object"] "ValueError.__new__" = true
  gC : mg x = some (.ref C)
  kC : PySem.W.keepIn K (.ref C) = true
  bC : PySem.W.subIn K (.ref C) (.type "BaseException") = some true
  tC : PySem.W.typeIn K (.ref C) = some (.type "type")
def tR1 (C : Addr) (f : Str) (te : TE) : L2.St → Hp → XK → Prop := fun σ H Q => te σ H fun y H1 => ∀ d, H1 d = none → Q (.ref C) (some d) (upd H1 d (.xd [(f, y)]))
def tR2 (C : Addr) (f g : Str) (te tu : TE) : L2.St → Hp → XK → Prop := fun σ H Q => te σ H fun y H1 => tu σ H1 fun z H2 => ∀ d, H2 d = none → Q (.ref C) (some d) (upd H2 d (.xd [(g, z), (f, y)]))
section
variable {X : Cx} {x f g : Str} {C : Addr} {e e2 : Expr} {i j : Nat} {q0 pos : Pos}
theorem PMk.imp {e : Expr} {t t' : L2.St → Hp → XK → Prop} (h : PMk X e t) (k : ∀ σ H Q, t' σ H Q → t σ H Q) : PMk X e t' := fun pins s σ H Q I q => h pins s σ H Q I (k σ H Q q)
theorem pmk1 (O : Own1 X.prog X.w X.K X.mg X.base x f C) (hr : Room 2 X.A) (hg : Gl X x) (ha : PA X [e] (tCons (tVar i) tNil)) (hdb : (x == ("__debug__" : Str)) = false := by decide) (he : starEach [e] X.env = (false, eval e X.env) :: starEach [] X.env := by rfl) (hpl : (backTo pos (starEach [] X.env)).any (·.1) = false := by rfl) :
    PMk X (.Call (.Name x q0) [e] [] pos) (tR1 C f (tVar i)) := by
  obtain ⟨fI, fd, ps, iC, tI, F, b⟩ := O.made
  refine PMk.imp (pmk_oex O.ox iC tI F hr b .nil pass0 hg O.gC ha hdb he hpl) fun σ H Q h => ?_
  obtain ⟨y, ey, h⟩ := h
  refine ⟨y, ey, by show 1 ≤ 1000; decide, fun a na => ⟨a, y, rfl, upd_same, fun dx nd ne => ⟨rfl, dx, [(f, y)], upd_same, ?_, ?_, ?_⟩⟩⟩
  · rw [upd_ne ne, upd_same]
  · rw [upd_ne ne] at nd
    exact nd
  · rw [let_go (C := C) na ne]
    rw [upd_ne ne] at nd
    exact h dx nd
theorem pmk2 (O : Own2 X.prog X.w X.K X.mg X.base x f g C) (hr : Room 2 X.A) (hg : Gl X x) (ha : PA X [e, e2] (tCons (tVar i) (tCons (tVar j) tNil))) (hdb : (x == ("__debug__" : Str)) = false := by decide) (he : starEach [e, e2] X.env = (false, eval e X.env) :: starEach [e2] X.env := by rfl) (hpl : (backTo pos (starEach [e2] X.env)).any (·.1) = false := by rfl) :
    PMk X (.Call (.Name x q0) [e, e2] [] pos) (tR2 C f g (tVar i) (tVar j)) := by
  obtain ⟨fI, fd, ps, iC, tI, F, b⟩ := O.made
  refine PMk.imp (pmk_oex O.ox iC tI F hr b .nil pass0 hg O.gC ha hdb he hpl) fun σ H Q h => ?_
  obtain ⟨y, ey, z, ez, h⟩ := h
  refine ⟨y, ey, z, ez, by show 2 ≤ 1000; decide, fun a na => ⟨a, y, z, rfl, upd_same, fun dx nd ne => ⟨rfl, dx, [(g, z), (f, y)], ?_, upd_same, ?_, ?_⟩⟩⟩
  · rw [upd_ne ne.symm, upd_same]
  · rw [upd_ne ne] at nd
    exact nd
  · rw [let_go2 (C := C) na ne]
    rw [upd_ne ne] at nd
    exact h dx nd
theorem pmk0 (O : Own0 X.K X.mg x C) (hg : Gl X x) (hdb : (x == ("__debug__" : Str)) = false := by decide) : PMk X (.Call (.Name x q0) [] [] pos) (fun _ H Q => Q (.ref C) none H) :=
  pmk_bare PySem.F.excBase_ValueError O.ex O.gC O.kC (raises_own O.bC O.tC) hg hdb
end
section
variable {P : Program} {w : World} {K : PySem.W.Frag} {mg : Str → Option Value} {base : Heap}
theorem scNe : FnScope ["self", "many"] ["self", "many"] (defScope (inClass (top 7) 0)) := ⟨rfl, rfl, rfl, by decide +kernel, rfl, by decide +kernel, by decide +kernel⟩
theorem own_noentry {f C : Addr} {fd : FuncData} (F : Fun K "__init__" "NoEntry.__init__" (inClass (top 7) 0) f fd) (O : OexC K C) (no : PySem.W.findIn K (.ref C) "many" = some none) (gC : mg "NoEntry" = some (.ref C)) (iC : PySem.W.findIn K (.ref C) "__init__" = some (some (.ref f))) (tI : PySem.W.typeIn K (.ref f) = some (.type "function")) : Own1 P w K mg base "NoEntry" "many" C := by
  refine ⟨O, gC, f, fd, ["self", "many"], iC, tI, F.ok scNe (fun vs H Q E h => ?_) (fun cdv A outer s H vs Q E hr h => ?_), F.binds fun _ _ _ _ _ _ us hl => match us, hl with | [_, _], _ => rfl⟩
  · obtain ⟨a, y, rfl, _⟩ := h
    rfl
  · obtain ⟨a, y, rfl, ha, q⟩ := h
    exact ⟨_, pss_one (ps_ost (pv 0) (pv 1)), _, rfl, _, rfl, a, C, rfl, O, no, .inl ⟨ha, q⟩⟩
end
end Fv


set_option Elab.async false
set_option linter.all false
set_option maxRecDepth 100000
set_option maxHeartbeats 4000000
namespace Fv
open PySem PySem.Spec PyProof.Rows L2
abbrev sSets : Stmt := top 22
abbrev sReads : Stmt := top 23
def setsOf : PyData → List Str
  | .tuple [.str _, p] => (itemsD p).map headS
  | .tuple [.str _, x, _] => [strS x]
  | .tuple [.str _, _, _, r] => (itemsD r).map strS
  | _ => []
def neE (y : Str) : Bool := decide (y ≠ "")
def readsOf (d : PyData) : List Str := dedup (((partsOf d).map srcS).filter neE)
theorem Dq.row_of {K : PySem.W.Frag} {H : Hp} {b : Addr} {v : V} {d : PyData} (h : Dq H b v d) (e : rowD d = true) : ∃ a xs ds, v = .ref a ∧ (d = .tuple ds ∨ d = .list ds) ∧ (SqL K H a xs ∨ SqT K H a xs) ∧ DqAll H b xs ds := by
  cases h with
  | tup e1 n h => exact ⟨_, _, _, rfl, .inl rfl, .inr (SqT.of e1), h⟩
  | lst e1 n m h => exact ⟨_, _, _, rfl, .inr rfl, .inl (SqL.of e1), h⟩
  | _ => cases e
theorem DqAll.names {H : Hp} {b : Addr} : ∀ {xs : List V} {ds : List PyData}, DqAll H b xs ds → ds.all nameD = true → xs = (ds.map strS).map V.str
  | _, _, .nil, _ => rfl
  | _, _, .cons h t, e => by
    rw [List.all_cons, Bool.and_eq_true] at e
    obtain ⟨z, rfl⟩ := name_str e.1
    cases h
    rw [t.names e.2]
    rfl
theorem Dq.pair {H : Hp} {b : Addr} {x : V} {y : Str} {c : Int} (g : Dq H b x (.tuple [.str y, .int c])) : ∃ a, x = .ref a ∧ a ≠ b ∧ H a = some (.tup [.str y, .int c]) := by
  obtain ⟨a, xs, ds, rfl, n, ee, e1, hx⟩ := g.tup_of rfl
  cases ee
  obtain ⟨v1, v2, rfl⟩ := two_of hx.len
  obtain ⟨_, _, ee, g1, g2⟩ := hx.two
  cases ee
  cases g1
  cases g2
  exact ⟨a, rfl, n, e1⟩
theorem Dq.trip {H : Hp} {b : Addr} {x : V} {z y : Str} {c : Int} (g : Dq H b x (.tuple [.str z, .str y, .int c])) : ∃ a, x = .ref a ∧ a ≠ b ∧ H a = some (.tup [.str z, .str y, .int c]) := by
  obtain ⟨a, xs, ds, rfl, n, ee, e1, hx⟩ := g.tup_of rfl
  cases ee
  obtain ⟨v1, v2, v3, rfl⟩ := three_of hx.len
  obtain ⟨_, _, _, ee, g1, g2, g3⟩ := hx.three
  cases ee
  cases g1
  cases g2
  cases g3
  exact ⟨a, rfl, n, e1⟩
theorem sets_all {d : PyData} (h : setsD d = true) : (itemsD d).all tripD = true := by
  unfold setsD at h
  rw [Bool.and_eq_true, Bool.and_eq_true] at h
  exact h.1.2
theorem row_names {d : PyData} (h : namesD d = true) : rowD d = true ∧ (itemsD d).all nameD = true := by
  unfold namesD at h
  rw [Bool.and_eq_true, Bool.and_eq_true] at h
  exact h.1
theorem items_len {d : PyData} (h : okD d) : (itemsD d).length ≤ 60 := by
  cases d <;> first | exact Nat.zero_le _ | exact h.1
def spSetsOf : Sp := fun vs H Q _ => ∃ (b : Addr) (v : V) (d : PyData), vs = [v] ∧ Dq H b v d ∧ okD d ∧ stD d = true ∧
  ∀ (H' : Hp) (p : Addr) (ys : List Str), Same H H' → H p = none → p ≠ sysModules → ys.Perm (setsOf d) → sortedS ys = true → H' p = some (.lst (ys.map V.str)) → Q (.ref p) H'
section
variable {P : Program} {w : World} {K : PySem.W.Frag} {mg : Str → Option Value} {base : Heap} {C : Addr}
theorem scSe : FnScope ["statement", "word", "part"] ["statement"] (defScope sSets) := ⟨rfl, rfl, rfl, by decide +kernel, rfl, by decide +kernel, by decide +kernel⟩
theorem ok_sets {f : Addr} {fd : FuncData} (F : Fun K "sets" "sets" sSets f fd) (mo : mg "sorted" = none) : FnOk P w K mg base CX0 1 f fd ["statement"] spSetsOf := by
  refine F.ok scSe (fun vs H Q E h => ?_) (fun cdv A outer s H vs Q E hr h => ?_)
  · obtain ⟨b, v, d, rfl, _⟩ := h
    rfl
  · obtain ⟨b, v, d, rfl, hd, hs, hst, q⟩ := h
    refine ⟨_, pss_cons (ps_set (i := 1) scSe.nd rfl (.inl rfl) (pe_ix ix_tup (pv 0) pe_int (fun _ _ => rfl)))
      (pss_cons (ps_if (pt_cmpR op_eq (pv 1) pe_str (nomark _)) (pss_one (ps_ret (pe_lstB pa_nil))) pss_nil)
      (pss_cons (ps_if (pt_cmpR op_eq (pv 1) pe_str (nomark _)) (pss_one (ps_ret (pe_callB (r := rSortB K) call_sortB (by rfl) mo (by decide +kernel) (pa_cons
          (pe_lc (own := [("part", 2)]) (g := gName 2) (tt := tYes) rfl scSe.nd (pi_rowIx (pe_ix ix_tup (pv 0) pe_int (fun _ _ => rfl))) (blkOk_by (N := ["statement", "word", "part"]) (sc := defScope sSets) (by decide +kernel))
            (fun _ _ _ _ _ => pg_name (i := 2) scSe.nd rfl (Or.inl rfl)) (fun _ _ _ _ _ => pts_nil) (fun _ _ _ _ _ => pe_ix (r := rIxT K) ix_tup (pv 2) pe_int (fun _ _ => rfl))) pa_nil)))) pss_nil)
      (pss_cons (ps_if (pt_cmpR op_eq (pv 1) pe_str (nomark _)) (pss_one (ps_ret (pe_callB (r := rSortB K) call_sortB (by rfl) mo (by decide +kernel) (pa_cons (pe_ix ix_tup (pv 0) pe_int (fun _ _ => rfl)) pa_nil)))) pss_nil)
      (pss_one (ps_ret (pe_lstB (pa_cons (pe_ix ix_tup (pv 0) pe_int (fun _ _ => rfl)) pa_nil))))))), ?_⟩
    obtain ⟨a, xs, ds, rfl, ab, ed, e1, hx⟩ := hd.tup_of (st_tup hst)
    have sh := st_shape hst
    cases sh with
    | skip =>
      cases ed
      obtain ⟨x0, rfl⟩ := one_of hx.len
      obtain ⟨_, ee, h0⟩ := hx.one
      cases ee
      cases h0
      refine ⟨_, rfl, a, _, _, _, rfl, rfl, SqT.of e1, atI_nat (j := 0) rfl, ?_⟩
      refine ⟨_, rfl, rfl, _, rfl, ?_⟩
      exact ⟨Nat.zero_le _, fun p np wp => q _ p [] (same_upd np) np wp (List.Perm.refl _) rfl upd_same⟩
    | @set zp hp =>
      cases ed
      obtain ⟨x0, x1, rfl⟩ := two_of hx.len
      obtain ⟨_, _, ee, h0, g1⟩ := hx.two
      cases ee
      cases h0
      have hk : okD zp := hs.2.2.1
      obtain ⟨ap, ys, items, rfl, hdd, hrow, hy⟩ := g1.row_of (K := K) (row_sets hp)
      have ei := rows_items hdd
      have hall := sets_all hp
      rw [ei] at hall
      have hl := (rows_ok hdd hk).1
      have hlen := hy.len
      refine ⟨_, rfl, a, _, _, _, rfl, rfl, SqT.of e1, atI_nat (j := 0) rfl, ?_⟩
      refine ⟨_, rfl, rfl, _, rfl, ?_⟩
      refine ⟨_, rfl, rfl, _, rfl, ?_⟩
      refine ⟨_, rfl, a, _, _, _, rfl, rfl, SqT.of e1, atI_nat (j := 1) rfl, ap, ys, rfl, hrow, fun J G wk hG D hD => ?_⟩
      refine lc_it wk (fun i H' => Same H H' ∧ H' D = some (.lst (((items.take i).map headS).map V.str))) ⟨same_upd hD, upd_same⟩ (fun i H' _ h => hG H' h.1) ?_ ?_
      · rintro i x H' H2 hi ⟨s', e'⟩ ⟨rfl, hxi⟩
        obtain ⟨dx, hdi, hdx⟩ := hy.at_ hxi
        obtain ⟨zx, zy, zc, rfl⟩ := trip_shape (List.all_eq_true.mp hall dx (List.mem_of_getElem? hdi))
        obtain ⟨at_, rfl, _, e4⟩ := hdx.trip
        refine ⟨rfl, _, rfl, at_, _, _, _, rfl, rfl, SqT.of (s' _ _ e4), atI_nat (j := 0) rfl, _, e', ?_, fun c o e => ?_, ?_⟩
        · rw [List.length_map, List.length_map, List.length_take]
          exact small60 (by omega)
        · rw [upd_ne (ne_of_none e hD)]
          exact s' c o e
        · rw [upd_same, take_map_snoc hdi, List.map_append]
          rfl
      · rintro H2 ⟨s2, e2⟩
        rw [hlen, List.take_length] at e2
        refine ⟨D, items.map headS, rfl, .inl (SqL.of e2), by rw [List.length_map]; omega, fun zs p perm srt np wp => ?_⟩
        refine q _ p zs (s2.trans (same_upd np)) (none_back s2 np) wp ?_ srt upd_same
        show zs.Perm ((itemsD zp).map headS)
        rw [ei]
        exact perm
    | @most zw zx zp hw h2 h3 h4 =>
      cases ed
      obtain ⟨x0, x1, x2, rfl⟩ := three_of hx.len
      obtain ⟨_, _, _, ee, h0, g1, g2⟩ := hx.three
      cases ee
      cases h0
      cases g1
      have n1 : decide (V.str zw = V.str "skip") = false := by
        rw [str_dec]
        rcases hw with rfl | rfl <;> decide +kernel
      have n2 : decide (V.str zw = V.str "set") = false := by
        rw [str_dec]
        rcases hw with rfl | rfl <;> decide +kernel
      have n3 : decide (V.str zw = V.str "call") = false := by
        rw [str_dec]
        rcases hw with rfl | rfl <;> decide +kernel
      refine ⟨_, rfl, a, _, _, _, rfl, rfl, SqT.of e1, atI_nat (j := 0) rfl, ?_⟩
      refine ⟨_, rfl, rfl, _, rfl, ?_⟩
      rw [n1]
      refine iteF ⟨_, rfl, rfl, _, rfl, ?_⟩
      rw [n2]
      refine iteF ⟨_, rfl, rfl, _, rfl, ?_⟩
      rw [n3]
      refine iteF ⟨_, rfl, a, _, _, _, rfl, rfl, SqT.of e1, atI_nat (j := 1) rfl, by show 1 ≤ sizeLine; decide, fun p np wp => ?_⟩
      exact q _ p [zx] (same_upd np) np wp (List.Perm.refl _) rfl upd_same
    | @call zx zp zr h2 h3 h4 =>
      cases ed
      obtain ⟨x0, xr, rfl⟩ : ∃ x0 xr, xs = x0 :: xr := by
        cases xs with
        | nil => cases hx
        | cons x xs => exact ⟨_, _, rfl⟩
      cases hx with
      | cons h0 hx =>
        cases h0
        obtain ⟨x1, x2, x3, rfl⟩ := three_of hx.len
        obtain ⟨_, _, _, ee, g1, g2, g3⟩ := hx.three
        cases ee
        have hk : okD zr := hs.2.2.2.2.1
        obtain ⟨hrw, hall⟩ := row_names h4
        obtain ⟨ap, ys, items, rfl, hdd, hrow, hy⟩ := g3.row_of (K := K) hrw
        have ei := rows_items hdd
        rw [ei] at hall
        have hl := (rows_ok hdd hk).1
        obtain rfl := hy.names hall
        refine ⟨_, rfl, a, _, _, _, rfl, rfl, SqT.of e1, atI_nat (j := 0) rfl, ?_⟩
        refine ⟨_, rfl, rfl, _, rfl, ?_⟩
        refine ⟨_, rfl, rfl, _, rfl, ?_⟩
        refine ⟨_, rfl, rfl, _, rfl, ?_⟩
        refine ⟨_, rfl, a, _, _, _, rfl, rfl, SqT.of e1, atI_nat (j := 3) rfl, ap, items.map strS, rfl, hrow, by rw [List.length_map]; omega, fun zs p perm srt np wp => ?_⟩
        refine q _ p zs (same_upd np) np wp ?_ srt upd_same
        show zs.Perm ((itemsD zr).map strS)
        rw [ei]
        exact perm
/-! ### reads, numbers -/
def spReads : Sp := fun vs H Q _ => ∃ (b : Addr) (v : V) (d : PyData), vs = [v] ∧ Dq H b v d ∧ okD d ∧ stD d = true ∧ (∃ o, H b = some o) ∧
  ∀ (H' : Hp) (p : Addr) (ys : List Str), Same H H' → H p = none → p ≠ sysModules → ys.Perm (readsOf d) → sortedS ys = true → H' p = some (.lst (ys.map V.str)) → Q (.ref p) H'
theorem scRe : FnScope ["statement", "part"] ["statement"] (defScope sReads) := ⟨rfl, rfl, rfl, by decide +kernel, rfl, by decide +kernel, by decide +kernel⟩
theorem filter_snoc {α : Type} (p : α → Bool) (l : List α) (x : α) : (l ++ [x]).filter p = l.filter p ++ (if p x = true then [x] else []) := by
  rw [List.filter_append]
  cases e : p x <;> simp [e]
theorem ok_reads {f fP : Addr} {fd fdP : FuncData} (F : Fun K "reads" "reads" sReads f fd) (GP : FnOk P w K mg base CX0 1 fP fdP ["statement"] (spParts K C)) (bP : Binds K fdP ["statement"] []) (mP : mg "_parts" = some (.ref fP)) (kP : PySem.W.keepIn K (.ref fP) = true) (mo : mg "sorted" = none) :
    FnOk P w K mg base CX0 2 f fd ["statement"] spReads := by
  refine F.ok scRe (fun vs H Q E h => ?_) (fun cdv A outer s H vs Q E hr h => ?_)
  · obtain ⟨b, v, d, rfl, _⟩ := h
    rfl
  · obtain ⟨b, v, d, rfl, hd, hs, hst, hb, q⟩ := h
    refine ⟨_, pss_one (ps_ret (pe_callB (r := rSortX P w) (call_sortX rfl) (by rfl) mo (by decide +kernel) (pa_cons
      (pe_scX (own := [("part", 1)]) (g := gName 1) rfl scRe.nd (pi_tup (pe_call GP hr (by rfl) mP kP bP .nil pass0 (pa_cons (pv 0) pa_nil))) (blkOk_by (N := ["statement", "part"]) (sc := defScope sReads) (by decide +kernel))
        (fun _ _ _ _ _ => pg_name (i := 1) scRe.nd rfl (Or.inl rfl)) (fun _ _ _ _ _ => pts_one (pt_cmpR op_ne (pe_ix (r := rIxT K) ix_tup (pv 1) (pe_un un_neg pe_int) (fun _ _ => rfl)) pe_str (nomark _)))
        (fun _ _ _ _ _ => pe_ix (r := rIxT K) ix_tup (pv 1) (pe_un un_neg pe_int) (fun _ _ => rfl))) pa_nil))), ?_⟩
    refine ⟨_, rfl, b, v, d, rfl, hd.x, hs, hst, hb, fun H1 p xs s1 pb hp hx => ⟨p, rfl, ⟨xs, hp⟩, fun D hD => ?_⟩⟩
    have hlen := hx.len
    have hl := parts_len hs hst
    refine sc_it (walk_tup (K := K) (a := p) (xs := xs)) (fun i H' => Same H1 H' ∧ H' D = some (TxtO P w D (dedup ((((partsOf d).take i).map srcS).filter neE)))) ⟨same_upd hD, upd_same⟩ (fun i H' _ h => hp.same h.1) ?_ ?_
    · rintro i x H' H2 hi ⟨s', e'⟩ ⟨rfl, hxi⟩
      obtain ⟨e, hdi, hdx⟩ := hx.get hxi
      obtain ⟨a, ys, rfl, e1, l1, l2⟩ := part_last hst (List.mem_of_getElem? hdi) hdx
      have e1' := s' _ _ e1
      refine ⟨rfl, _, rfl, 2, rfl, a, ys, -2, _, rfl, rfl, SqT.of e1', l2, rfl, _, rfl, ?_⟩
      have tk : (((partsOf d).take (i + 1)).map srcS).filter neE = (((partsOf d).take i).map srcS).filter neE ++ (if neE (srcS e) = true then [srcS e] else []) := by
        rw [take_map_snoc hdi, filter_snoc]
      by_cases hz : srcS e = ""
      · rw [show (!decide (V.str (srcS e) = V.str "")) = false from by rw [str_dec, decide_eq_true hz]; rfl]
        refine iteF ⟨s', ?_⟩
        rw [tk, if_neg (by unfold neE; simpa using hz), List.append_nil]
        exact e'
      · rw [show (!decide (V.str (srcS e) = V.str "")) = true from by rw [str_dec, decide_eq_false hz]; rfl]
        refine iteT ⟨_, rfl, 2, rfl, a, ys, -2, _, rfl, rfl, SqT.of e1', l2, srcS e, _, rfl, e', ?_, fun c o e => ?_, ?_⟩
        · refine scan4096 (Nat.le_trans (dedup_le _) (Nat.le_trans (List.length_filter_le _ _) ?_))
          rw [List.length_map, List.length_take]
          omega
        · rw [upd_ne (ne_of_none e hD)]
          exact s' c o e
        · rw [upd_same, tk, if_pos (by unfold neE; simpa using hz), dedup_snoc]
          rfl
    · rintro H2 ⟨s2, e2⟩
      rw [hlen, List.take_length] at e2
      refine ⟨D, _, rfl, e2, ?_, fun zs r perm srt nr wr => ?_⟩
      · have := Nat.le_trans (dedup_le (((partsOf d).map srcS).filter neE)) (List.length_filter_le _ _)
        rw [List.length_map] at this
        omega
      · exact q _ r zs ((s1.trans s2).trans (same_upd nr)) (none_back (s1.trans s2) nr) wr perm srt upd_same
def spNumsB : Sp := fun vs H Q _ => ∃ (b : Addr) (v : V) (d : PyData), vs = [v] ∧ Dq H b v d ∧ okD d ∧ stD d = true ∧ (∃ o, H b = some o) ∧
  ∀ (H' : Hp) (p : Addr), Same H H' → H p = none → p ≠ sysModules → H' p = some (.lst ((numsOf d).map V.int)) → Q (.ref p) H'
theorem ok_numbersB {f fP : Addr} {fd fdP : FuncData} (F : Fun K "numbers" "numbers" sNumbers f fd) (GP : FnOk P w K mg base CX0 1 fP fdP ["statement"] (spParts K C)) (bP : Binds K fdP ["statement"] []) (mP : mg "_parts" = some (.ref fP)) (kP : PySem.W.keepIn K (.ref fP) = true) :
    FnOk P w K mg base CX0 2 f fd ["statement"] spNumsB := by
  refine F.ok sc11 (fun vs H Q E h => ?_) (fun cdv A outer s H vs Q E hr h => ?_)
  · obtain ⟨b, v, d, rfl, _⟩ := h
    rfl
  · obtain ⟨b, v, d, rfl, hd, hs, hst, hb, q⟩ := h
    refine ⟨_, pss_one (ps_ret (pe_lcB (own := [("part", 1)]) (g := gName 1) (tt := tYes) rfl sc11.nd (pi_tup (pe_call GP hr (by rfl) mP kP bP .nil pass0 (pa_cons (pv 0) pa_nil))) (blkOk_by (N := ["statement", "part"]) (sc := defScope sNumbers) (by decide +kernel))
        (fun _ _ _ _ _ => pg_name (i := 1) sc11.nd rfl (Or.inl rfl)) (fun _ _ _ _ _ => pts_nil) (fun _ _ _ _ _ => pe_ix (r := rIxT K) ix_tup (pv 1) (pe_un un_neg pe_int) (fun _ _ => rfl)))), ?_⟩
    refine ⟨_, rfl, b, v, d, rfl, hd.x, hs, hst, hb, fun H1 p xs s1 pb hp hx => ⟨p, rfl, ⟨xs, hp⟩, fun D hD wD => ?_⟩⟩
    have hlen := hx.len
    have hl := parts_len hs hst
    refine lc_tup (K := K) (a := p) (xs := xs) (fun i H' => Same H1 H' ∧ H' D = some (.lst (((partsOf d).take i).map fun e => V.int (lastI e)))) ⟨same_upd hD, upd_same⟩ (fun i H' _ h => hp.same h.1) ?_ ?_
    · rintro i x H' hxi ⟨s', e'⟩
      obtain ⟨e, hdi, hdx⟩ := hx.get hxi
      obtain ⟨a, ys, rfl, e1, l1, _⟩ := part_last hst (List.mem_of_getElem? hdi) hdx
      refine ⟨rfl, _, rfl, 1, rfl, a, ys, -1, _, rfl, rfl, SqT.of (s' _ _ e1), l1, _, e', ?_, fun c o e => ?_, ?_⟩
      · rw [List.length_map, List.length_take]
        exact small60 (by omega)
      · rw [upd_ne (ne_of_none e hD)]
        exact s' c o e
      · rw [upd_same, take_map_snoc hdi]
    · rintro H2 ⟨s2, e2⟩
      rw [hlen, List.take_length] at e2
      refine q H2 D (s1.trans s2) (none_back s1 hD) wD ?_
      rw [e2]
      unfold numsOf
      rw [List.map_map]
      rfl
end
end Fv


set_option Elab.async false
set_option linter.all false
set_option maxRecDepth 100000
set_option maxHeartbeats 4000000
namespace Fv
open PySem PySem.Spec PyProof.Rows L2
abbrev sWith : Stmt := top 25
abbrev sWiths : Stmt := top 26
def lastSet (c : Int) : PyData → PyData
  | .tuple [y, _] => .tuple [y, .int c]
  | .tuple [x, y, _] => .tuple [x, y, .int c]
  | d => d
def chg (k : Nat) (c : Int) (i : Nat) (e : PyData) : PyData := if i = k then lastSet c e else e
/-- a frozen statement with another number -/
def putD (k : Nat) (c : Int) : PyData → PyData
  | .tuple [w, p] => .tuple [w, .tuple ((itemsD p).mapIdx (chg k c))]
  | .tuple (w :: x :: p :: r) => .tuple (w :: x :: .tuple ((itemsD p).mapIdx (chg k c)) :: r)
  | d => d
theorem take_idx {f : Nat → PyData → PyData} {xs : List PyData} {i : Nat} {x : PyData} (h : xs[i]? = some x) : (xs.mapIdx f).take (i + 1) = (xs.mapIdx f).take i ++ [f i x] := by
  rw [List.take_add_one, List.getElem?_mapIdx, h]
  rfl
theorem Dx.pairQ {C : Addr} {H : Hp} {b : Addr} {x : V} {y : Str} {c : Int} (g : Dx C H b x (.tuple [.str y, .int c])) : Dq H b x (.tuple [.str y, .int c]) := by
  cases g with
  | tup e1 n hx =>
    obtain ⟨v1, v2, rfl⟩ := two_of hx.len
    obtain ⟨_, _, ee, g1, g2⟩ := hx.two
    cases ee
    cases g1
    cases g2
    exact .tup e1 n (.cons (.str _) (.cons (.int _) .nil))
theorem Dx.tripQ {C : Addr} {H : Hp} {b : Addr} {x : V} {z y : Str} {c : Int} (g : Dx C H b x (.tuple [.str z, .str y, .int c])) : Dq H b x (.tuple [.str z, .str y, .int c]) := by
  cases g with
  | tup e1 n hx =>
    obtain ⟨v1, v2, v3, rfl⟩ := three_of hx.len
    obtain ⟨_, _, _, ee, g1, g2, g3⟩ := hx.three
    cases ee
    cases g1
    cases g2
    cases g3
    exact .tup e1 n (.cons (.str _) (.cons (.str _) (.cons (.int _) .nil)))
def spWith (CE : Addr) : Sp := fun vs H Q E => ∃ (b : Addr) (v : V) (d : PyData) (k c : Int), vs = [v, .int k, .int c] ∧ Dq H b v d ∧ okD d ∧ stD d = true ∧ (∃ o, H b = some o) ∧
  (∀ n : Nat, k = n → n < (partsOf d).length → ∀ (H' : Hp) (p : Addr), Same H H' → Dq H' b (.ref p) (putD n c (frozenD d)) → Q (.ref p) H') ∧
  (¬ (0 ≤ k ∧ k < (partsOf d).length) → ∀ (H1 : Hp) (dx : Addr), Same H H1 → H1 dx = none → E (.ref CE) (some dx) (upd H1 dx (.xd [("many", .int k)])))
abbrev nWi : List Str := ["statement", "at", "number", "known"]
abbrev nWs : List Str := ["statement", "new", "whole", "place", "parts", "part", "number"]
/-- a part: all but its last, its last -/
theorem part_ini {C : Addr} {H : Hp} {b : Addr} {x : V} {d e : PyData} (h : stD d = true) (he : e ∈ partsOf d) (g : Dx C H b x e) : ∃ (a : Addr) (ini : List V) (old : Int), x = .ref a ∧ a ≠ b ∧ H a = some (.tup (ini ++ [.int old])) ∧ ini ≠ [] ∧ ini.length ≤ 2 ∧ Dq H b x e ∧
    cutV (ini ++ [.int old]) none (some (-1)) = ini ∧ ¬ (HT.sIx (ini ++ [V.int old]).length 0 none = 0 ∧ HT.sIx (ini ++ [V.int old]).length (ini ++ [V.int old]).length (some (-1)) = (ini ++ [V.int old]).length) ∧
    ∀ (H' : Hp) (a' : Addr) (c : Int), H' a' = some (.tup (ini ++ [.int c])) → a' ≠ b → Dq H' b (.ref a') (lastSet c e) := by
  rcases part_of h he with ⟨y, c, rfl⟩ | ⟨z, y, c, rfl⟩
  · obtain ⟨a, rfl, n, e1⟩ := g.pairQ.pair
    exact ⟨a, [.str y], c, rfl, n, e1, nofun, by show 1 ≤ 2; decide, g.pairQ, rfl, by show ¬ (0 = 0 ∧ 1 = 2); decide, fun H' a' c' e' n' => .tup e' n' (.cons (.str _) (.cons (.int _) .nil))⟩
  · obtain ⟨a, rfl, n, e1⟩ := g.tripQ.trip
    exact ⟨a, [.str z, .str y], c, rfl, n, e1, nofun, by show 2 ≤ 2; decide, g.tripQ, rfl, by show ¬ (0 = 0 ∧ 2 = 3); decide, fun H' a' c' e' n' => .tup e' n' (.cons (.str _) (.cons (.str _) (.cons (.int _) .nil)))⟩
section
variable {P : Program} {w : World} {K : PySem.W.Frag} {mg : Str → Option Value} {base : Heap} {C : Addr}
theorem scWi : FnScope nWi ["statement", "at", "number"] (defScope sWith) := ⟨rfl, rfl, rfl, by decide +kernel, rfl, by decide +kernel, by decide +kernel⟩
theorem DqAll.append {H : Hp} {b : Addr} : ∀ {vs ws : List V} {ds es : List PyData}, DqAll H b vs ds → DqAll H b ws es → DqAll H b (vs ++ ws) (ds ++ es)
  | _, _, _, _, .nil, k => k
  | _, _, _, _, .cons h t, k => .cons h (DqAll.append t k)
theorem sub_upd {D : Addr} {H' H4 : Hp} (s : Same H' H4) : ∀ c o, del H' D c = some o → del H4 D c = some o := fun c o e => by
  have nc : c ≠ D := fun z => by
    rw [z, del_same] at e
    cases e
  rw [del_ne nc]
  exact s c o (del_sub c o e)
theorem scWs : FnScope nWs ["statement", "new"] (defScope sWiths) := ⟨rfl, rfl, rfl, by decide +kernel, rfl, by decide +kernel, by decide +kernel⟩
/-- a frozen statement with all its numbers put otherwise -/
def setAll (ps : List PyData) (cs : List Int) : List PyData := List.zipWith (fun e c => lastSet c e) ps cs
def putsD (cs : List Int) : PyData → PyData
  | .tuple [w, p] => .tuple [w, .tuple (setAll (itemsD p) cs)]
  | .tuple (w :: x :: p :: r) => .tuple (w :: x :: .tuple (setAll (itemsD p) cs) :: r)
  | d => d
theorem DqAll.cut {H : Hp} {b : Addr} : ∀ {ds es : List PyData} {vs : List V}, DqAll H b vs (ds ++ es) → ∃ v1 v2, vs = v1 ++ v2 ∧ DqAll H b v1 ds ∧ DqAll H b v2 es
  | [], _, vs, h => ⟨[], vs, rfl, .nil, h⟩
  | d :: ds, es, _, h => by
    cases h with
    | cons h0 ht =>
      obtain ⟨v1, v2, rfl, g1, g2⟩ := DqAll.cut (ds := ds) ht
      exact ⟨_ :: v1, v2, rfl, .cons h0 g1, g2⟩
/-- a statement that is no skip: its word, what stands ahead of its parts, they, what stands behind -/
theorem st_cut {d : PyData} (h : stD d = true) (hp : d ≠ .tuple [.str "skip"]) : ∃ (z : Str) (r1 : List PyData) (p : PyData) (ds2 : List PyData), z ≠ "skip" ∧ frozenD d = .tuple (.str z :: r1 ++ .tuple (partsOf d) :: ds2) ∧ r1.length ≤ 1 ∧ ds2.length ≤ 1 ∧
    ((z = "set" ∧ r1.length = 0) ∨ ((z = "most" ∨ z = "least" ∨ z = "call") ∧ r1.length = 1)) ∧ ∀ cs, putsD cs (frozenD d) = .tuple (.str z :: r1 ++ .tuple (setAll (partsOf d) cs) :: ds2) := by
  have tup : ∀ {p : PyData}, rowD p = true → fz p = .tuple (itemsD p) := fun {p} e => by
    cases p <;> first | rfl | cases e
  cases st_shape h with
  | skip => exact absurd rfl hp
  | @set p h1 =>
    refine ⟨"set", [], p, [], by decide, ?_, by decide, by decide, .inl ⟨rfl, rfl⟩, fun cs => ?_⟩
    · show PyData.tuple [.str "set", fz p] = _
      rw [tup (row_sets h1)]
      rfl
    · show PyData.tuple [.str "set", .tuple (setAll (itemsD (fz p)) cs)] = _
      rw [fz_items]
      rfl
  | @most w x p hw h2 h3 h4 =>
    refine ⟨w, [.str x], p, [], by rcases hw with rfl | rfl <;> decide, ?_, by show 1 ≤ 1; decide, by decide, .inr ⟨hw.elim .inl fun e => .inr (.inl e), rfl⟩, fun cs => ?_⟩
    · show PyData.tuple [.str w, .str x, fz p] = _
      rw [tup (row_parts h3)]
      rfl
    · show PyData.tuple [.str w, .str x, .tuple (setAll (itemsD (fz p)) cs)] = _
      rw [fz_items]
      rfl
  | @call x p r h2 h3 h4 =>
    refine ⟨"call", [.str x], p, [fz r], by decide, ?_, by show 1 ≤ 1; decide, by show 1 ≤ 1; decide, .inr ⟨.inr (.inr rfl), rfl⟩, fun cs => ?_⟩
    · show PyData.tuple [.str "call", .str x, fz p, fz r] = _
      rw [tup (row_parts h3)]
      rfl
    · show PyData.tuple [.str "call", .str x, .tuple (setAll (itemsD (fz p)) cs), fz r] = _
      rw [fz_items]
      rfl
theorem setAll_snoc {ps : List PyData} {cs : List Int} {i : Nat} {e : PyData} {c : Int} (h1 : ps[i]? = some e) (h2 : cs[i]? = some c) : (setAll ps cs).take (i + 1) = (setAll ps cs).take i ++ [lastSet c e] := by
  rw [List.take_add_one]
  unfold setAll
  rw [List.getElem?_zipWith, h1, h2]
  rfl
theorem lastSet_id {d e : PyData} (h : stD d = true) (he : e ∈ partsOf d) : lastSet (lastI e) e = e := by
  rcases part_of h he with ⟨y, c, rfl⟩ | ⟨x, y, c, rfl⟩ <;> rfl
theorem setAll_one {d : PyData} (h : stD d = true) {n : Nat} (c : Int) (hn : n < (partsOf d).length) : setAll (partsOf d) ((numsOf d).take n ++ [c] ++ (numsOf d).drop (n + 1)) = (partsOf d).mapIdx (chg n c) := by
  have ll : (numsOf d).length = (partsOf d).length := by unfold numsOf; rw [List.length_map]
  apply List.ext_getElem?
  intro i
  unfold setAll
  rw [List.getElem?_zipWith, List.getElem?_mapIdx]
  cases e : (partsOf d)[i]? with
  | none => rfl
  | some p =>
    have hi : i < (partsOf d).length := (List.getElem?_eq_some_iff.mp e).1
    have ei : (numsOf d)[i]? = some (lastI p) := by unfold numsOf; rw [List.getElem?_map, e]; rfl
    have key : ((numsOf d).take n ++ [c] ++ (numsOf d).drop (n + 1))[i]? = some (if i = n then c else lastI p) := by
      have l1 : ((numsOf d).take n).length = n := by rw [List.length_take]; omega
      by_cases h1 : i < n
      · rw [List.append_assoc, List.getElem?_append_left (by omega), List.getElem?_take_of_lt h1, ei, if_neg (by omega)]
      · by_cases h2 : i = n
        · rw [if_pos h2, List.append_assoc, List.getElem?_append_right (by omega), l1, h2]
          simp
        · rw [if_neg h2, List.getElem?_append_right (by rw [List.length_append, l1]; simp; omega), List.length_append, l1, List.getElem?_drop]
          rw [show n + 1 + (i - (n + [c].length)) = i by simp; omega]
          exact ei
    rw [key]
    show some (lastSet _ p) = some (chg n c i p)
    unfold chg
    by_cases h2 : i = n
    · rw [if_pos h2, if_pos h2]
    · rw [if_neg h2, if_neg h2, lastSet_id h (List.mem_of_getElem? e)]
theorem puts_put {d : PyData} (h : stD d = true) {n : Nat} (c : Int) (hn : n < (partsOf d).length) : putsD ((numsOf d).take n ++ [c] ++ (numsOf d).drop (n + 1)) (frozenD d) = putD n c (frozenD d) := by
  have one := setAll_one h c hn
  cases st_shape h with
  | skip => exact absurd hn (by show ¬ n < 0; omega)
  | @set p h1 =>
    show PyData.tuple [.str "set", .tuple (setAll (itemsD (fz p)) _)] = PyData.tuple [.str "set", .tuple ((itemsD (fz p)).mapIdx (chg n c))]
    rw [fz_items]
    exact congrArg (fun l => PyData.tuple [.str "set", .tuple l]) one
  | @most w x p hw h2 h3 h4 =>
    show PyData.tuple [.str w, .str x, .tuple (setAll (itemsD (fz p)) _)] = PyData.tuple [.str w, .str x, .tuple ((itemsD (fz p)).mapIdx (chg n c))]
    rw [fz_items]
    exact congrArg (fun l => PyData.tuple [.str w, .str x, .tuple l]) one
  | @call x p r h2 h3 h4 =>
    show PyData.tuple [.str "call", .str x, .tuple (setAll (itemsD (fz p)) _), fz r] = PyData.tuple [.str "call", .str x, .tuple ((itemsD (fz p)).mapIdx (chg n c)), fz r]
    rw [fz_items]
    exact congrArg (fun l => PyData.tuple [.str "call", .str x, .tuple l, fz r]) one
def spWiths : Sp := fun vs H Q _ => ∃ (b : Addr) (v : V) (d : PyData) (pc : Addr) (cs : List Int), vs = [v, .ref pc] ∧ Dq H b v d ∧ okD d ∧ stD d = true ∧ (∃ o, H b = some o) ∧ SqL K H pc (cs.map V.int) ∧ cs.length = (partsOf d).length ∧
  ∀ (H' : Hp) (p : Addr), Same H H' → Dq H' b (.ref p) (putsD cs (frozenD d)) → Q (.ref p) H'
theorem ok_withs {f fF aP : Addr} {fd fdF : FuncData} (F : Fun K "with_numbers" "with_numbers" sWiths f fd)
    (GF : FnOk P w K mg base CX0 2 fF fdF ["statement"] spFrozen) (bF : Binds K fdF ["statement"] []) (mF : mg "frozen" = some (.ref fF)) (kF : PySem.W.keepIn K (.ref fF) = true)
    (mT : mg "PARTS" = some (.ref aP)) (p1 : KDct K w aP "set" (.int 1)) (p2 : ∀ z : Str, z = "most" ∨ z = "least" ∨ z = "call" → KDct K w aP z (.int 2)) (mt : mg "tuple" = none) (mz : mg "zip" = none) :
    FnOk P w K mg base CX0 3 f fd ["statement", "new"] (spWiths (K := K)) := by
  refine F.ok scWs (fun vs H Q E h => ?_) (fun cdv A outer s H vs Q E hr h => ?_)
  · obtain ⟨b, v, d, pc, cs, rfl, _⟩ := h
    rfl
  · obtain ⟨b, v, d, pc, cs, rfl, hd, hs, hst, hb, hpc, hcl, q⟩ := h
    refine ⟨_, pss_cons (ps_set (i := 2) scWs.nd rfl (.inl rfl) (pe_call GF hr (by rfl) mF kF bF .nil pass0 (pa_cons (pv 0) pa_nil)))
      (pss_cons (ps_if (pt_cmpR op_eq (pe_ix ix_tup (pv 2) pe_int (fun _ _ => rfl)) pe_str (nomark _)) (pss_one (ps_ret (pv 2))) pss_nil)
      (pss_cons (ps_set (i := 3) scWs.nd rfl (.inl rfl) (pe_ix ix_kdict (pe_glob (v := .ref aP) (by rfl) mT rfl) (pe_ix ix_tup (pv 2) pe_int (fun _ _ => rfl)) (fun _ _ => rfl)))
      (pss_cons (ps_setLc (i := 4) (own := [("part", 5), ("number", 6)]) (g := gTup K 2 (gCons (gName 5) (gCons (gName 6) gNil))) (tt := tYes) (by rfl) scWs.nd rfl rfl (sw_true rfl rfl rfl (by decide +kernel))
          (pi_mz (by rfl) mz (pa_cons (pe_ix ix_tup (pv 2) (pv 3) (fun _ _ => rfl)) (pa_cons (pv 1) pa_nil))) (blkOk_by (N := nWs) (sc := defScope sWiths) (by decide +kernel))
          (fun _ _ _ _ _ => pg_tup (by rfl) (pgs_cons (pg_name (i := 5) scWs.nd rfl (.inl rfl)) (pgs_cons (pg_name (i := 6) scWs.nd rfl (.inl rfl)) pgs_nil))) (fun _ _ _ _ _ => pts_nil)
          (fun _ _ _ _ _ => pe_op (r := rCatT K) op_catT (pe_slice (r := rSlT K) sl_tup (pv 5) po_none (po_some (pe_un un_neg pe_int))) (pe_tup (pa_cons (pv 6) pa_nil))))
      (pss_one (ps_ret (pe_op op_catT (pe_op op_catT (pe_slice sl_tup (pv 2) po_none (po_some (pv 3))) (pe_tup (pa_cons (pe_callTy call_tuple_of (by rfl) mt boot_tuple (pa_cons (pv 4) pa_nil)) pa_nil))) (pe_slice sl_tup (pv 2) (po_some (pe_op op_add (pv 3) pe_int)) po_none))))))), ?_⟩
    refine ⟨_, rfl, b, v, d, rfl, hd, hs, hst, hb, fun H1 pw s1 hw => ?_⟩
    by_cases hsk : d = .tuple [.str "skip"]
    · subst hsk
      obtain ⟨pw', ws, dws, epw, nb, edw, ew, hws⟩ := hw.tup_of rfl
      cases epw
      cases edw
      obtain ⟨w0, rfl⟩ := one_of hws.len
      obtain ⟨_, ee, g0⟩ := hws.one
      cases ee
      cases g0
      refine ⟨_, rfl, pw, _, _, _, rfl, rfl, SqT.of ew, atI_nat (j := 0) rfl, rfl, _, rfl, ?_⟩
      exact ⟨_, rfl, q H1 pw s1 hw⟩
    obtain ⟨z, r1, p0, ds2, zs, efz, lr1, lds2, hz, eput⟩ := st_cut hst hsk
    rw [efz] at hw
    obtain ⟨pw', ws, dws, epw, nb, edw, ew, hws⟩ := hw.tup_of rfl
    cases epw
    cases edw
    obtain ⟨vz, v2, rfl, g1, g2⟩ := hws.cut
    cases g1 with
    | @cons v0 vr _ _ g0 gr =>
    cases g0
    cases g2 with
    | @cons vp ws2 _ _ gp ge =>
    obtain ⟨ap, xs, items, rfl, nap, eit, eap, hx⟩ := gp.tup_of rfl
    cases eit
    have hlen := hx.len
    have hl := parts_len hs hst
    have lvr := gr.len
    have lw2 := ge.len
    refine ⟨_, rfl, pw, _, _, _, rfl, rfl, SqT.of ew, atI_nat (j := 0) rfl, rfl, _, rfl, ?_⟩
    rw [show decide (V.str z = V.str "skip") = false from by rw [str_dec]; exact decide_eq_false zs]
    refine iteF ?_
    obtain ⟨k0, ek0, pk0⟩ : ∃ k0 : Nat, k0 = vr.length + 1 ∧ KDct K w aP z (.int (k0 : Nat)) := by
      rcases hz with ⟨rfl, l0⟩ | ⟨hz, l1⟩
      · exact ⟨1, by omega, p1⟩
      · exact ⟨2, by omega, p2 z hz⟩
    refine ⟨_, rfl, pw, _, _, _, rfl, rfl, SqT.of ew, atI_nat (j := 0) rfl, aP, _, _, rfl, rfl, pk0, ?_⟩
    dsimp only [gName]
    have at0 : atI (V.str z :: vr ++ V.ref ap :: ws2) ((k0 : Nat) : Int) = some (.ref ap) := by
      refine atI_nat ?_
      rw [ek0, List.getElem?_append_right (by simp)]
      simp
    refine ⟨_, rfl, _, rfl, pw, _, _, _, rfl, rfl, SqT.of ew, at0, _, rfl, ap, pc, xs, cs.map V.int, rfl, SqT.of eap, hpc.same s1, fun D hD => ?_⟩
    have hmin : (partsOf d).length = min xs.length (cs.map V.int).length := by rw [List.length_map, hcl, hlen]; omega
    obtain ⟨ob, hob⟩ := there s1 hb
    refine lc_it (walk_mz (K := K) (a := ap) (b := pc) (xs := xs) (ys := cs.map V.int) hmin) (fun i H' => Same H1 H' ∧ ∃ ys : List V, H' D = some (.lst ys) ∧ DqAll (del H' D) b ys ((setAll (partsOf d) cs).take i)) ⟨same_upd hD, [], upd_same, .nil⟩ (fun i H' _ h => ⟨SqT.of (h.1 _ _ eap), (hpc.same s1).same h.1⟩) ?_ ?_
    · rintro i x H' H2 hi ⟨s', ys, e', ya⟩ ⟨T, vx, vc, rfl, nT, rfl, ex, ec⟩
      obtain ⟨e, hdi, hdx⟩ := hx.at_ ex
      obtain ⟨c, hci, rfl⟩ : ∃ c, cs[i]? = some c ∧ vc = V.int c := by
        have ec : (cs.map V.int)[i]? = some vc := ec
        rw [List.getElem?_map] at ec
        cases e0 : cs[i]? with
        | none => rw [e0] at ec; cases ec
        | some t => rw [e0] at ec; exact ⟨t, rfl, (Option.some.inj ec).symm⟩
      have sT := same_upd (o := .tup [vx, .int c]) nT
      have yl : ys.length ≤ i := by rw [ya.len, List.length_take]; omega
      obtain ⟨a3, ini, old, rfl, nb3, e3, i1, i2, eq3, cu, nf, mk⟩ := part_ini hst (List.mem_of_getElem? hdi) (hdx.x (C := b))
      refine ⟨T, _, rfl, SqT.of upd_same, rfl, _, _, rfl, _, _, rfl, rfl, rfl, ?_⟩
      refine ⟨_, rfl, 1, rfl, _, rfl, a3, _, rfl, SqT.of (sT _ _ (s' _ _ e3)), nf, fun t1 nt1 => ?_⟩
      rw [cu]
      have w1 := same_upd (o := .tup ini) nt1
      refine ⟨_, rfl, by show 1 ≤ sizeLine; decide, fun t2 nt2 => ?_⟩
      have w2 := same_upd (o := .tup [.int c]) nt2
      refine ⟨t1, t2, ini, [.int c], rfl, rfl, SqT.of (w2 _ _ upd_same), SqT.of upd_same, i1, ?_, nofun, fun _ t3 nt3 => ?_⟩
      · show ini.length + 1 ≤ sizeLine
        exact Nat.le_of_lt (small60 (by omega))
      have w3 := same_upd (o := .tup (ini ++ [.int c])) nt3
      have s4 := ((sT.trans w1).trans w2).trans w3
      have t3D : t3 ≠ D := (ne_of_none ((((sT.trans w1).trans w2)) _ _ e') nt3).symm
      refine ⟨ys, s4 _ _ e', small60 (by omega), fun c' o e => ?_, _, upd_same, ?_⟩
      · rw [upd_ne (ne_of_none e hD)]
        exact s4 _ _ (s' c' o e)
      · rw [del_upd, setAll_snoc hdi hci]
        refine DqAll.snoc (mk _ t3 c ?_ (ne_of_none ((s'.trans ((sT.trans w1).trans w2)) _ _ hob) nt3).symm) (ya.mono fun c o _ e => sub_upd s4 c o e)
        rw [del_ne t3D]
        exact upd_same
    · rintro H2 ⟨s2, ys, e2, ya⟩
      have tl : (setAll (partsOf d) cs).take (partsOf d).length = setAll (partsOf d) cs := List.take_of_length_le (by unfold setAll; rw [List.length_zipWith]; omega)
      rw [tl] at ya
      have ylen : ys.length ≤ 60 := by
        rw [ya.len]
        unfold setAll
        rw [List.length_zipWith]
        omega
      obtain ⟨ob2, hob2⟩ := there s2 ⟨_, hob⟩
      have ew2 := s2 _ _ ew
      have c1 : cutV (V.str z :: vr ++ V.ref ap :: ws2) none (some ((k0 : Nat) : Int)) = V.str z :: vr := by rw [cut_to, List.take_left' (by simp [ek0])]
      have c2 : cutV (V.str z :: vr ++ V.ref ap :: ws2) (some (((k0 : Nat) : Int) + 1)) none = ws2 := by
        rw [show ((k0 : Nat) : Int) + 1 = ((k0 + 1 : Nat) : Int) by omega, cut_from, show V.str z :: vr ++ V.ref ap :: ws2 = (V.str z :: vr ++ [V.ref ap]) ++ ws2 by simp, List.drop_left' (by simp [ek0])]
      have len : (V.str z :: vr ++ V.ref ap :: ws2).length = k0 + 1 + ws2.length := by
        simp [ek0]
        omega
      have f1 : ¬ (HT.sIx (V.str z :: vr ++ V.ref ap :: ws2).length 0 none = 0 ∧ HT.sIx (V.str z :: vr ++ V.ref ap :: ws2).length (V.str z :: vr ++ V.ref ap :: ws2).length (some ((k0 : Nat) : Int)) = (V.str z :: vr ++ V.ref ap :: ws2).length) := by
        rw [HT.sIx_nat, len]
        omega
      have f2 : ¬ (HT.sIx (V.str z :: vr ++ V.ref ap :: ws2).length 0 (some (((k0 : Nat) : Int) + 1)) = 0 ∧ HT.sIx (V.str z :: vr ++ V.ref ap :: ws2).length (V.str z :: vr ++ V.ref ap :: ws2).length none = (V.str z :: vr ++ V.ref ap :: ws2).length) := by
        rw [show ((k0 : Nat) : Int) + 1 = ((k0 + 1 : Nat) : Int) by omega, HT.sIx_nat, len]
        omega
      refine ⟨_, rfl, _, rfl, _, rfl, pw, _, rfl, SqT.of ew2, f1, fun t1 nt1 => ?_⟩
      rw [c1]
      have w1 := same_upd (o := .tup (V.str z :: vr)) nt1
      refine ⟨_, rfl, D, ys, rfl, .inl ⟨SqL.of (w1 _ _ e2), fun l nl => ?_⟩⟩
      have w2 := same_upd (o := .tup ys) nl
      refine ⟨by show 1 ≤ sizeLine; decide, fun t2 nt2 => ?_⟩
      have w3 := same_upd (o := .tup [.ref l]) nt2
      refine ⟨t1, t2, V.str z :: vr, [.ref l], rfl, rfl, SqT.of (w3 _ _ (w2 _ _ upd_same)), SqT.of upd_same, nofun, ?_, nofun, fun _ t3 nt3 => ?_⟩
      · show (V.str z :: vr).length + 1 ≤ sizeLine
        exact Nat.le_of_lt (small60 (by simp; omega))
      have w4 := same_upd (o := .tup (V.str z :: vr ++ [.ref l])) nt3
      have sA := ((w1.trans w2).trans w3).trans w4
      refine ⟨_, rfl, _, rfl, _, _, rfl, rfl, _, rfl, pw, _, rfl, SqT.of (sA _ _ ew2), f2, fun t4 nt4 => ?_⟩
      rw [c2]
      have w5 := same_upd (o := .tup ws2) nt4
      have sB := sA.trans w5
      have lb : l ≠ b := (ne_of_none (w1 _ _ hob2) nl).symm
      have dq : ∀ {H9 : Hp} {r : Addr}, Same H2 H9 → H9 l = some (.tup ys) → H9 r = some (.tup ((V.str z :: vr ++ [.ref l]) ++ ws2)) → r ≠ b → Dq H9 b (.ref r) (putsD cs (frozenD d)) := fun {H9 r} s9 el er nr => by
        rw [eput]
        refine .tup (xs := (V.str z :: vr ++ [.ref l]) ++ ws2) er nr ?_
        rw [List.append_assoc]
        exact DqAll.append (.cons (.str z) (gr.mono fun c o _ e => s9 _ _ (s2 c o e))) (.cons (.tup el lb (ya.mono fun c o _ e => s9 _ _ (del_sub c o e))) (ge.mono fun c o _ e => s9 _ _ (s2 c o e)))
      have el : (upd (upd (upd (upd (upd H2 t1 (.tup (V.str z :: vr))) l (.tup ys)) t2 (.tup [.ref l])) t3 (.tup (V.str z :: vr ++ [.ref l]))) t4 (.tup ws2)) l = some (.tup ys) := w5 _ _ (w4 _ _ (w3 _ _ upd_same))
      have e3 := w5 _ _ (upd_same (H := upd (upd (upd H2 t1 (.tup (V.str z :: vr))) l (.tup ys)) t2 (.tup [.ref l])) (a := t3) (o := .tup (V.str z :: vr ++ [.ref l])))
      refine ⟨t3, t4, V.str z :: vr ++ [.ref l], ws2, rfl, rfl, SqT.of e3, SqT.of upd_same, by simp, ?_, fun z' => ?_, fun _ t5 nt5 => ?_⟩
      · exact Nat.le_of_lt (small60 (by simp; omega))
      · refine q _ t3 ((s1.trans s2).trans sB) (dq sB el (by rw [z', List.append_nil]; exact z' ▸ e3) (ne_of_none (((w1.trans w2).trans w3) _ _ hob2) nt3).symm)
      · have w6 := same_upd (o := .tup ((V.str z :: vr ++ [.ref l]) ++ ws2)) nt5
        exact q _ t5 ((s1.trans s2).trans (sB.trans w6)) (dq (sB.trans w6) (w6 _ _ el) upd_same (ne_of_none (sB _ _ hob2) nt5).symm)
theorem ok_with {f fN fW CE : Addr} {fd fdN fdW : FuncData} (F : Fun K "with_number" "with_number" sWith f fd) (O : Own1 P w K mg base "NoEntry" "many" CE)
    (GN : FnOk P w K mg base CX0 2 fN fdN ["statement"] spNumsB) (bN : Binds K fdN ["statement"] []) (mN : mg "numbers" = some (.ref fN)) (kN : PySem.W.keepIn K (.ref fN) = true)
    (GW : FnOk P w K mg base CX0 3 fW fdW ["statement", "new"] (spWiths (K := K))) (bW : Binds K fdW ["statement", "new"] []) (mW : mg "with_numbers" = some (.ref fW)) (kW : PySem.W.keepIn K (.ref fW) = true)
    (ml : mg "len" = none) : FnOk P w K mg base (L2.CX P w) 4 f fd ["statement", "at", "number"] (spWith CE) := by
  refine F.okX scWi (fun vs H Q E h => ?_) (fun cdv A outer s H vs Q E hr h => ?_)
  · obtain ⟨b, v, d, k, c, rfl, _⟩ := h
    rfl
  · obtain ⟨b, v, d, k, c, rfl, hd, hs, hst, hb, q, qE⟩ := h
    have hr2 : Room 2 _ := hr.mono (by decide)
    refine ⟨_, pss_cons (ps_set (i := 3) scWi.nd rfl (.inl rfl) (pe_call GN hr2 (by rfl) mN kN bN .nil pass0 (pa_cons (pv 0) pa_nil)))
      (pss_cons (ps_if (pt_not (pt_chain op_le op_lt pe_int (pv 1) (pe_callB call_len_seq (by rfl) ml PySem.boot_len (pa_cons (pv 3) pa_nil)))) (pss_one (ps_raise (W := fun cls d _ H => E cls d H) rfl (takes_of rfl rfl rfl rfl) (pmk1 O hr2 (by rfl) (pa_cons (pv 1) pa_nil)))) pss_nil)
      (pss_one (ps_ret (pe_call GW hr (by rfl) mW kW bW .nil pass0 (pa_cons (pv 0) (pa_cons
        (pe_op op_cat (pe_op op_cat (pe_slice sl_list (pv 3) po_none (po_some (pv 1))) (pe_lst (pa_cons (pv 2) pa_nil))) (pe_slice sl_list (pv 3) (po_some (pe_op op_add (pv 1) pe_int)) po_none)) pa_nil)))))), ?_⟩
    refine ⟨_, rfl, b, v, d, rfl, hd, hs, hst, hb, fun H1 p s1 np wp hp => ?_⟩
    have hl := parts_len hs hst
    have nl : ((numsOf d).map V.int).length = (partsOf d).length := by unfold numsOf; rw [List.length_map, List.length_map]
    have bad : ¬ (0 ≤ k ∧ k < (partsOf d).length) → ∀ dx, H1 dx = none → E (.ref CE) (some dx) (upd H1 dx (.xd [("many", .int k)])) := fun h dx nd => qE h H1 dx s1 nd
    dsimp only [gName]
    refine ⟨_, rfl, _, _, rfl, rfl, _, rfl, ?_⟩
    by_cases h0 : 0 ≤ k
    · rw [decide_eq_true h0]
      refine ⟨_, rfl, p, _, rfl, .inl (SqL.of hp), _, _, rfl, rfl, _, rfl, ?_⟩
      rw [nl]
      by_cases h1 : k < ((partsOf d).length : Nat)
      · rw [decide_eq_true h1]
        obtain ⟨n, rfl⟩ : ∃ n : Nat, k = n := ⟨k.toNat, by omega⟩
        have hn : n < (partsOf d).length := by omega
        have q := q n rfl hn
        have nln : (numsOf d).length = (partsOf d).length := by unfold numsOf; rw [List.length_map]
        refine iteF ⟨_, rfl, _, rfl, _, rfl, _, rfl, p, _, rfl, SqL.of hp, fun l1 n1 => ?_⟩
        have w1 := same_upd (o := .lst (cutV ((numsOf d).map V.int) none (some (n : Int)))) n1
        have c1 : cutV ((numsOf d).map V.int) none (some (n : Int)) = ((numsOf d).take n).map V.int := by rw [cut_to, List.map_take]
        refine ⟨_, rfl, by show 1 ≤ sizeLine; decide, fun l2 n2 => ?_⟩
        have w2 := same_upd (o := .lst [V.int c]) n2
        refine ⟨l1, l2, _, _, rfl, rfl, w2 _ _ upd_same, upd_same, ?_, fun l3 n3 => ?_⟩
        · rw [c1, List.length_map, List.length_take]
          exact Nat.le_of_lt (small60 (by simp; omega))
        have w3 := same_upd (o := .lst (cutV ((numsOf d).map V.int) none (some (n : Int)) ++ [V.int c])) n3
        have sA := (w1.trans w2).trans w3
        refine ⟨_, rfl, _, rfl, _, _, rfl, rfl, _, rfl, p, _, rfl, SqL.of (sA _ _ hp), fun l4 n4 => ?_⟩
        have c2 : cutV ((numsOf d).map V.int) (some ((n : Int) + 1)) none = ((numsOf d).drop (n + 1)).map V.int := by rw [show (n : Int) + 1 = ((n + 1 : Nat) : Int) by omega, cut_from, List.map_drop]
        have w4 := same_upd (o := .lst (cutV ((numsOf d).map V.int) (some ((n : Int) + 1)) none)) n4
        refine ⟨l3, l4, _, _, rfl, rfl, w4 _ _ upd_same, upd_same, ?_, fun l5 n5 => ?_⟩
        · rw [c1, c2, List.length_append, List.length_map, List.length_map, List.length_take, List.length_drop]
          exact Nat.le_of_lt (small60 (by simp; omega))
        have w5 := same_upd (o := .lst (cutV ((numsOf d).map V.int) none (some (n : Int)) ++ [V.int c] ++ cutV ((numsOf d).map V.int) (some ((n : Int) + 1)) none)) n5
        have sB := (sA.trans w4).trans w5
        have e5 : (upd (upd (upd (upd (upd H1 l1 (.lst (cutV ((numsOf d).map V.int) none (some (n : Int))))) l2 (.lst [V.int c])) l3 (.lst (cutV ((numsOf d).map V.int) none (some (n : Int)) ++ [V.int c]))) l4 (.lst (cutV ((numsOf d).map V.int) (some ((n : Int) + 1)) none))) l5 (.lst (cutV ((numsOf d).map V.int) none (some (n : Int)) ++ [V.int c] ++ cutV ((numsOf d).map V.int) (some ((n : Int) + 1)) none))) l5 = some (.lst (((numsOf d).take n ++ [c] ++ (numsOf d).drop (n + 1)).map V.int)) := by
          rw [upd_same, c1, c2, List.map_append, List.map_append]
          rfl
        refine ⟨b, v, d, l5, (numsOf d).take n ++ [c] ++ (numsOf d).drop (n + 1), rfl, hd.mono fun a o _ e => sB _ _ (s1 a o e), hs, hst, there (s1.trans sB) hb, SqL.of e5, ?_, fun H6 p6 s6 g6 => ?_⟩
        · rw [List.length_append, List.length_append, List.length_take, List.length_drop]
          simp
          omega
        rw [puts_put hst c hn] at g6
        exact q H6 p6 ((s1.trans sB).trans s6) g6
      · rw [decide_eq_false h1]
        exact iteT ⟨_, rfl, fun dx nd => bad (fun z => h1 z.2) dx nd⟩
    · rw [decide_eq_false h0]
      exact ⟨_, rfl, iteT ⟨_, rfl, fun dx nd => bad (fun z => h0 z.1) dx nd⟩⟩
end
end Fv


set_option Elab.async false
set_option linter.all false
set_option maxRecDepth 100000
set_option maxHeartbeats 4000000
namespace Fv
open PySem PySem.Spec PyProof.Rows L2
abbrev sPut : Stmt := top 63
theorem DqAll.set {H : Hp} {b : Addr} {v : V} {d : PyData} (h : Dq H b v d) : ∀ {vs : List V} {ds : List PyData} {n : Nat}, DqAll H b vs ds → DqAll H b (vs.set n v) (ds.set n d)
  | _, _, _, .nil => .nil
  | _, _, 0, .cons _ t => .cons h t
  | _, _, n + 1, .cons g t => .cons g (DqAll.set h (n := n) t)
/-- the n-th source, another integer -/
def newPair (n : Nat) (c : Int) (ps : List PyData) : List PyData := (ps.map twoD).set n (.tuple [.str (srcS (ps.getD n .none)), .int c])
theorem newPair_at {n : Nat} {c : Int} {ps : List PyData} {i : Nat} {e : PyData} (h : ps[i]? = some e) : (newPair n c ps)[i]? = some (.tuple [.str (srcS e), .int (if i = n then c else lastI e)]) := by
  unfold newPair
  have hi := (List.getElem?_eq_some_iff.mp h).1
  rw [List.getElem?_set]
  by_cases z : n = i
  · subst z
    rw [if_pos rfl, if_pos (by rw [List.length_map]; exact hi), if_pos rfl, List.getD_eq_getElem?_getD, h]
    rfl
  · rw [if_neg z, if_neg (fun y => z y.symm), List.getElem?_map, h]
    rfl
theorem newPair_len {n : Nat} {c : Int} {ps : List PyData} : (newPair n c ps).length = ps.length := by
  unfold newPair
  rw [List.length_set, List.length_map]
theorem newPair_pairs {n : Nat} {c : Int} {ps : List PyData} (h : ps.all pairD = true) : newPair n c ps = ps.mapIdx (chg n c) := by
  apply List.ext_getElem?
  intro i
  rw [List.getElem?_mapIdx]
  cases e : ps[i]? with
  | none =>
    rw [List.getElem?_eq_none_iff] at e
    rw [List.getElem?_eq_none_iff.mpr (by rw [newPair_len]; exact e)]
    rfl
  | some p =>
    rw [newPair_at e]
    obtain ⟨y, k, rfl⟩ := pair_shape (List.all_eq_true.mp h p (List.mem_of_getElem? e))
    show _ = some (chg n c i _)
    unfold chg
    by_cases z : i = n
    · rw [if_pos z, if_pos z]
      rfl
    · rw [if_neg z, if_neg z]
      rfl
theorem parts_all {d : PyData} (h : partsD d = true) : (itemsD d).all pairD = true := by
  unfold partsD at h
  rw [Bool.and_eq_true] at h
  exact h.2
theorem DqAll.at_d {H : Hp} {b : Addr} : ∀ {v : List V} {d : List PyData} {i : Nat} {e : PyData}, DqAll H b v d → d[i]? = some e → ∃ x, v[i]? = some x ∧ Dq H b x e
  | _, _, 0, _, .cons h _, e => ⟨_, rfl, by cases e; exact h⟩
  | _, _, i + 1, _, .cons _ t, e => DqAll.at_d (i := i) t e
def spPut : Sp := fun vs H Q _ => ∃ (b : Addr) (v : V) (d : PyData) (n : Nat) (c : Int), vs = [v, .int n, .int c] ∧ Dq H b v d ∧ okD d ∧ stD d = true ∧ frozenD d = d ∧ (∃ o, H b = some o) ∧ n < (partsOf d).length ∧
  ∀ (H' : Hp) (p : Addr), Same H H' → Dq H' b (.ref p) (putD n c d) → Q (.ref p) H'
abbrev nPu : List Str := ["_law_statement_here", "_law_at", "_law_number_here", "_law_parts", "_law_k"]
section
variable {P : Program} {w : World} {K : PySem.W.Frag} {mg : Str → Option Value} {base : Heap} {C : Addr}
theorem scPu : FnScope nPu ["_law_statement_here", "_law_at", "_law_number_here"] (defScope sPut) := ⟨rfl, rfl, rfl, by decide +kernel, rfl, by decide +kernel, by decide +kernel⟩
theorem ok_put {f fD : Addr} {fd fdD : FuncData} (F : Fun K "_law_put" "_law_put" sPut f fd)
    (GD : FnOk P w K mg base CX0 1 fD fdD ["_law_statement_here"] spParted) (bD : Binds K fdD ["_law_statement_here"] []) (mD : mg "_law_parted" = some (.ref fD)) (kD : PySem.W.keepIn K (.ref fD) = true)
    (mt : mg "tuple" = none) (ml : mg "len" = none) (mr : mg "range" = none) : FnOk P w K mg base CX0 2 f fd ["_law_statement_here", "_law_at", "_law_number_here"] spPut := by
  refine F.ok scPu (fun vs H Q E h => ?_) (fun cdv A outer s H vs Q E hr h => ?_)
  · obtain ⟨b, v, d, n, c, rfl, _⟩ := h
    rfl
  · obtain ⟨b, v, d, n, c, rfl, hd, hs, hst, hfz, hb, hn, q⟩ := h
    refine ⟨_, pss_cons (ps_set (i := 3) scPu.nd rfl (.inr rfl) (pe_call GD hr (by rfl) mD kD bD .nil pass0 (pa_cons (pv 0) pa_nil)))
      (pss_cons (ps_asg (pe_tup (pa_cons (pe_ix ix_tup (pe_ix ix_list (pv 3) (pv 1) (fun _ _ => rfl)) pe_int (fun _ _ => rfl)) (pa_cons (pv 2) pa_nil))) (pg_sub (pv 3) (pv 1) set_list))
      (pss_cons (ps_if (pt_cmpR op_eq (pe_ix ix_tup (pv 0) pe_int (fun _ _ => rfl)) pe_str (nomark _)) (pss_one (ps_ret (pe_tup (pa_cons pe_str (pa_cons (pe_callTy call_tuple_of (by rfl) mt boot_tuple (pa_cons
          (pe_lc (own := [("_law_k", 4)]) (g := gName 4) (tt := tYes) rfl scPu.nd (pi_range1 (by rfl) mr (pa_cons (pe_callB call_len_seq (by rfl) ml PySem.boot_len (pa_cons (pv 3) pa_nil)) pa_nil)) (blkOk_by (N := nPu) (sc := defScope sPut) (by decide +kernel))
            (fun _ _ _ _ _ => pg_name (i := 4) scPu.nd rfl (Or.inl rfl)) (fun _ _ _ _ _ => pts_nil)
            (fun _ _ _ _ _ => pe_op (r := rCatT K) op_catT (pe_tup (pa_cons (pe_ix (r := rIxT K) ix_tup (pe_ix (r := rIxT K) ix_tup (pe_ix (r := rIxT K) ix_tup (pv 0) pe_int (fun _ _ => rfl)) (pv 4) (fun _ _ => rfl)) pe_int (fun _ _ => rfl)) pa_nil)) (pe_ix (r := rIxL K) ix_list (pv 3) (pv 4) (fun _ _ => rfl)))) pa_nil)) pa_nil))))) pss_nil)
      (pss_one (ps_ret (pe_op op_catT (pe_tup (pa_cons (pe_ix ix_tup (pv 0) pe_int (fun _ _ => rfl)) (pa_cons (pe_ix ix_tup (pv 0) pe_int (fun _ _ => rfl)) (pa_cons (pe_callTy call_tuple_of (by rfl) mt boot_tuple (pa_cons (pv 3) pa_nil)) pa_nil)))) (pe_slice sl_tup (pv 0) (po_some pe_int) po_none)))))), ?_⟩
    refine ⟨_, rfl, b, v, d, rfl, hd, hs, hst, hfz, hb, fun H1 p ys s1 np ep ha => ?_⟩
    obtain ⟨e, he⟩ : ∃ e, (partsOf d)[n]? = some e := ⟨_, List.getElem?_eq_getElem hn⟩
    obtain ⟨xe, hxe, gxe⟩ := ha.at_d (i := n) (e := twoD e) (by rw [List.getElem?_map, he]; rfl)
    obtain ⟨ae, rfl, nae, eae⟩ := gxe.pair
    have eae1 : H1 ae = some (.tup [.str (srcS e), .int (lastI e)]) := del_sub _ _ eae
    dsimp only [gName]
    refine ⟨_, rfl, _, rfl, p, _, _, _, rfl, rfl, SqL.of ep, atI_nat hxe, ae, _, _, _, rfl, rfl, SqT.of eae1, atI_nat (j := 0) rfl, _, rfl, by show 2 ≤ sizeLine; decide, fun t nt => ?_⟩
    have w1 := same_upd (o := .tup [.str (srcS e), .int c]) nt
    have tp : t ≠ p := (ne_of_none ep nt).symm
    have nlen : ys.length = (partsOf d).length := by rw [ha.len, List.length_map]
    refine ⟨_, rfl, _, rfl, p, ys, n, n, rfl, rfl, w1 _ _ ep, by unfold ixN; rw [if_pos (by omega), if_pos (by omega)]; simp, ?_⟩
    have l60 := parts_len hs hst
    obtain ⟨ob, hob⟩ := hb
    have tb : t ≠ b := (ne_of_none (s1 _ _ hob) nt).symm
    obtain ⟨H2, e2⟩ : ∃ H2, H2 = upd (upd H1 t (.tup [.str (srcS e), .int c])) p (.lst (ys.set n (.ref t))) := ⟨_, rfl⟩
    rw [← e2]
    have s2 : Same H H2 := fun a o z => by
      rw [e2, upd_ne (ne_of_none z np)]
      exact w1 _ _ (s1 _ _ z)
    have ep2 : H2 p = some (.lst (ys.set n (.ref t))) := by rw [e2, upd_same]
    have hD : DqAll (del H2 p) b (ys.set n (.ref t)) (newPair n c (partsOf d)) := by
      have e9 : (partsOf d).getD n .none = e := by rw [List.getD_eq_getElem?_getD, he]; rfl
      unfold newPair
      rw [e9, e2, del_upd]
      refine DqAll.set (.tup (xs := [.str (srcS e), .int c]) (by rw [del_ne tp]; exact upd_same) tb (.cons (.str _) (.cons (.int _) .nil))) (ha.mono fun a o _ z => ?_)
      have nz : a ≠ p := fun y => by
        rw [y, del_same] at z
        cases z
      rw [del_ne nz]
      exact w1 _ _ (del_sub _ _ z)
    have hd2 := hd.mono fun a o _ z => s2 a o z
    clear e2
    generalize ys.set n (.ref t) = ys2 at ep2 hD
    have yl2 : ys2.length = (partsOf d).length := by rw [hD.len, newPair_len]
    obtain ⟨a, xs, ds, rfl, ab, ed, e1, hx⟩ := hd2.tup_of (st_tup hst)
    have sh := st_shape hst
    cases sh with
    | skip => exact absurd hn (by show ¬ n < 0; omega)
    | @set zp hp =>
      cases ed
      obtain ⟨x0, x1, rfl⟩ := two_of hx.len
      obtain ⟨_, _, ee, h0, g1⟩ := hx.two
      cases ee
      cases h0
      have hrow := row_sets hp
      have hall := sets_all hp
      obtain ⟨ap, zs, items, rfl, rfl, ez, hz⟩ : ∃ ap zs items, x1 = .ref ap ∧ zp = .tuple items ∧ H2 ap = some (.tup zs) ∧ DqAll H2 b zs items := by
        cases g1 with
        | lst e n m h => simp [frozenD, fz] at hfz
        | tup e n h => exact ⟨_, _, _, rfl, rfl, e, h⟩
        | _ => cases hrow
      have hpo : partsOf (.tuple [.str "set", .tuple items]) = items := rfl
      rw [hpo] at hD yl2 hn l60
      refine ⟨_, rfl, a, _, _, _, rfl, rfl, SqT.of e1, atI_nat (j := 0) rfl, rfl, _, rfl, ?_⟩
      refine iteT ⟨_, rfl, p, _, rfl, .inl (SqL.of ep2), items.length, by rw [yl2], by omega, by omega, fun D hD' => ?_⟩
      have Dp : D ≠ p := (ne_of_none ep2 hD').symm
      refine lc_range (lo := 0) (n := ((items.length : Nat) : Int).toNat) (fun i H' => Same H2 H' ∧ ∃ us : List V, H' D = some (.lst us) ∧ DqAll (del H' D) b us ((items.mapIdx (chg n c)).take i)) ⟨same_upd hD', [], upd_same, .nil⟩ ?_ ?_
      · rintro i H' hi ⟨s', us, e', ua⟩
        have hi' : i < items.length := by simpa using hi
        obtain ⟨ei, hei⟩ : ∃ ei, items[i]? = some ei := ⟨_, List.getElem?_eq_getElem hi'⟩
        obtain ⟨zx, zy, zc, rfl⟩ := trip_shape (List.all_eq_true.mp hall ei (List.mem_of_getElem? hei))
        obtain ⟨vi, hvi, gvi⟩ := hz.at_d hei
        obtain ⟨ai, rfl, nai, eai⟩ := gvi.trip
        obtain ⟨vp, hvp, gvp⟩ := hD.at_d (newPair_at (n := n) (c := c) hei)
        obtain ⟨aq, rfl, naq, eaq⟩ := gvp.pair
        have eaq2 : H2 aq = _ := del_sub _ _ eaq
        have ul : us.length ≤ i := by rw [ua.len, List.length_take]; omega
        have hix : (0 : Int) + (i : Nat) = ((i : Nat) : Int) := by omega
        rw [hix]
        refine ⟨rfl, _, rfl, a, _, _, _, rfl, rfl, SqT.of (s' _ _ e1), atI_nat (j := 1) rfl, _, rfl, ap, _, _, _, rfl, rfl, SqT.of (s' _ _ ez), atI_nat hvi, ai, _, _, _, rfl, rfl, SqT.of (s' _ _ eai), atI_nat (j := 0) rfl, by show 1 ≤ sizeLine; decide, fun t1 nt1 => ?_⟩
        have u1 := same_upd (o := .tup [.str zx]) nt1
        refine ⟨_, rfl, _, rfl, p, _, _, _, rfl, rfl, SqL.of (u1 _ _ (s' _ _ ep2)), atI_nat hvp, t1, aq, _, _, rfl, rfl, SqT.of upd_same, SqT.of (u1 _ _ (s' _ _ eaq2)), nofun, by show 3 ≤ sizeLine; decide, nofun, fun _ t3 nt3 => ?_⟩
        have u3 := same_upd (o := .tup ([.str zx] ++ [.str zy, .int (if i = n then c else zc)])) nt3
        have uA := u1.trans u3
        refine ⟨us, uA _ _ e', small60 (by omega), fun c o e => ?_, _, upd_same, ?_⟩
        · rw [upd_ne (ne_of_none e hD')]
          exact uA _ _ (s' c o e)
        · rw [del_upd, take_idx hei]
          refine DqAll.snoc ?_ (ua.mono fun c o _ e => sub_upd uA c o e)
          have ec : chg n c i (.tuple [.str zx, .str zy, .int zc]) = .tuple [.str zx, .str zy, .int (if i = n then c else zc)] := by
            unfold chg
            by_cases z : i = n
            · rw [if_pos z, if_pos z]
              rfl
            · rw [if_neg z, if_neg z]
          rw [ec]
          have t3D : t3 ≠ D := (ne_of_none (u1 _ _ e') nt3).symm
          refine .tup (xs := [.str zx, .str zy, .int (if i = n then c else zc)]) (by rw [del_ne t3D]; exact upd_same) (ne_of_none (u1 _ _ (s' _ _ (s2 _ _ hob))) nt3).symm (.cons (.str _) (.cons (.str _) (.cons (.int _) .nil)))
      · rintro H3 ⟨s3, us, e3, ua⟩
        have tl : (items.mapIdx (chg n c)).take ((items.length : Nat) : Int).toNat = items.mapIdx (chg n c) := List.take_of_length_le (by rw [List.length_mapIdx]; simp)
        rw [tl] at ua
        refine ⟨D, us, rfl, .inl ⟨SqL.of e3, fun l nl => ?_⟩⟩
        have u1 := same_upd (o := .tup us) nl
        refine ⟨by show 2 ≤ sizeLine; decide, fun r nr => ?_⟩
        have u2 := same_upd (o := .tup [.str "set", .ref l]) nr
        have sA := s2.trans s3
        refine q _ r ((sA.trans u1).trans u2) (.tup upd_same (ne_of_none (u1 _ _ (sA _ _ hob)) nr).symm (.cons (.str _) (.cons (.tup (u2 _ _ upd_same) (ne_of_none (sA _ _ hob) nl).symm (ua.mono fun c o _ e => u2 _ _ (u1 _ _ (del_sub c o e)))) .nil)))
    | @most zw zx zp hwz h2 h3 h4 =>
      cases ed
      obtain ⟨x0, x1, x2, rfl⟩ := three_of hx.len
      obtain ⟨_, _, _, ee, h0, g1, g2⟩ := hx.three
      cases ee
      cases h0
      cases g1
      have n2 : decide (V.str zw = V.str "set") = false := by
        rw [str_dec]
        rcases hwz with rfl | rfl <;> decide +kernel
      have hpo : partsOf (.tuple [.str zw, .str zx, zp]) = itemsD zp := rfl
      rw [hpo, newPair_pairs (parts_all h3)] at hD
      refine ⟨_, rfl, a, _, _, _, rfl, rfl, SqT.of e1, atI_nat (j := 0) rfl, rfl, _, rfl, ?_⟩
      rw [n2]
      refine iteF ⟨_, rfl, a, _, _, _, rfl, rfl, SqT.of e1, atI_nat (j := 0) rfl, _, rfl, a, _, _, _, rfl, rfl, SqT.of e1, atI_nat (j := 1) rfl, _, rfl, p, ys2, rfl, .inl ⟨SqL.of ep2, fun l nl => ?_⟩⟩
      have u1 := same_upd (o := .tup ys2) nl
      refine ⟨by show 3 ≤ sizeLine; decide, fun t1 nt1 => ?_⟩
      have u2 := same_upd (o := .tup [.str zw, .str zx, .ref l]) nt1
      refine ⟨_, rfl, _, rfl, a, _, rfl, SqT.of (u2 _ _ (u1 _ _ e1)), by show ¬ (3 = 0 ∧ 3 = 3); decide, fun t2 nt2 => ?_⟩
      have u3 := same_upd (o := .tup (cutV [V.str zw, V.str zx, x2] (some 3) none)) nt2
      refine ⟨t1, t2, [.str zw, .str zx, .ref l], [], rfl, rfl, SqT.of (u3 _ _ upd_same), SqT.of upd_same, nofun, by show 3 ≤ sizeLine; decide, fun _ => ?_, fun z => absurd rfl z⟩
      have sA := (u1.trans u2).trans u3
      refine q _ t1 (s2.trans sA) (.tup (u3 _ _ upd_same) (ne_of_none (u1 _ _ (s2 _ _ hob)) nt1).symm (.cons (.str _) (.cons (.str _) (.cons (.tup (u3 _ _ (u2 _ _ upd_same)) (ne_of_none (s2 _ _ hob) nl).symm (hD.mono fun c o _ e => sA _ _ (del_sub c o e))) .nil))))
    | @call zx zp zr h2 h3 h4 =>
      cases ed
      obtain ⟨x0, xr, rfl⟩ : ∃ x0 xr, xs = x0 :: xr := by
        cases xs with
        | nil => cases hx
        | cons x xs => exact ⟨_, _, rfl⟩
      cases hx with
      | cons h0 hx =>
        cases h0
        obtain ⟨x1, x2, x3, rfl⟩ := three_of hx.len
        obtain ⟨_, _, _, ee, g1, g2, g3⟩ := hx.three
        cases ee
        cases g1
        have hpo : partsOf (.tuple [.str "call", .str zx, zp, zr]) = itemsD zp := rfl
        rw [hpo, newPair_pairs (parts_all h3)] at hD
        refine ⟨_, rfl, a, _, _, _, rfl, rfl, SqT.of e1, atI_nat (j := 0) rfl, rfl, _, rfl, ?_⟩
        refine iteF ⟨_, rfl, a, _, _, _, rfl, rfl, SqT.of e1, atI_nat (j := 0) rfl, _, rfl, a, _, _, _, rfl, rfl, SqT.of e1, atI_nat (j := 1) rfl, _, rfl, p, ys2, rfl, .inl ⟨SqL.of ep2, fun l nl => ?_⟩⟩
        have u1 := same_upd (o := .tup ys2) nl
        refine ⟨by show 3 ≤ sizeLine; decide, fun t1 nt1 => ?_⟩
        have u2 := same_upd (o := .tup [.str "call", .str zx, .ref l]) nt1
        refine ⟨_, rfl, _, rfl, a, _, rfl, SqT.of (u2 _ _ (u1 _ _ e1)), by show ¬ (3 = 0 ∧ 4 = 4); decide, fun t2 nt2 => ?_⟩
        have u3 := same_upd (o := .tup (cutV [V.str "call", V.str zx, x2, x3] (some 3) none)) nt2
        refine ⟨t1, t2, [.str "call", .str zx, .ref l], [x3], rfl, rfl, SqT.of (u3 _ _ upd_same), SqT.of upd_same, nofun, by show 4 ≤ sizeLine; decide, nofun, fun _ t3 nt3 => ?_⟩
        have u4 := same_upd (o := .tup ([V.str "call", .str zx, .ref l] ++ [x3])) nt3
        have sA := ((u1.trans u2).trans u3).trans u4
        refine q _ t3 (s2.trans sA) (.tup upd_same (ne_of_none (((u1.trans u2).trans u3) _ _ (s2 _ _ hob)) nt3).symm (.cons (.str _) (.cons (.str _) (.cons (.tup (u4 _ _ (u3 _ _ (u2 _ _ upd_same))) (ne_of_none (s2 _ _ hob) nl).symm (hD.mono fun c o _ e => sA _ _ (del_sub c o e))) (.cons (g3.mono fun c o _ e => sA c o e) .nil)))))
end
end Fv


set_option Elab.async false
set_option linter.all false
set_option maxRecDepth 100000
set_option maxHeartbeats 2000000
namespace Fv
open PySem PySem.Spec PyProof.Rows L2
abbrev sLWith : Stmt := top 64
theorem xf_of {K : PySem.W.Frag} {C : Addr} (h : ExcC K C) : XfC K C := ⟨h.hg, h.hk, h.hs, h.hd⟩
/-- what is asked of an own error's class that is caught by its name -/
structure CatchC (K : PySem.W.Frag) (mg : Str → Option Value) (x f : Str) (C : Addr) : Prop where
  ec : ExcC K C
  no : PySem.W.findIn K (.ref C) f = some none
  em : PySem.W.exmOne K (.ref C) (.ref C) = some true
  gC : mg x = some (.ref C)
def spLWith : Sp := fun vs H Q _ => ∃ (b : Addr) (v : V) (d : PyData) (k c : Int), vs = [v, .int k, .int c] ∧ Dq H b v d ∧ okD d ∧ stD d = true ∧ (∃ o, H b = some o) ∧
  (∀ n : Nat, k = n → n < (partsOf d).length → ∀ (H' : Hp) (p : Addr), Same H H' → Dq H' b (.ref p) (putD n c (frozenD d)) → Q (.ref p) H') ∧
  (¬ (0 ≤ k ∧ k < (partsOf d).length) → ∀ (H' : Hp) (p : Addr), Same H H' → Dq H' b (.ref p) (.tuple [.str "none", .int k]) → Q (.ref p) H')
abbrev nLw : List Str := ["_law_statement_here", "_law_at", "_law_number_here", "e"]
section
variable {P : Program} {w : World} {K : PySem.W.Frag} {mg : Str → Option Value} {base : Heap}
theorem scLw : FnScope nLw ["_law_statement_here", "_law_at", "_law_number_here"] (defScope sLWith) := ⟨rfl, rfl, rfl, by decide +kernel, rfl, by decide +kernel, by decide +kernel⟩
theorem ok_lwith {f fW CE : Addr} {fd fdW : FuncData} (F : Fun K "_law_with" "_law_with" sLWith f fd) (T : CatchC K mg "NoEntry" "many" CE)
    (GW : FnOk P w K mg base (L2.CX P w) 4 fW fdW ["statement", "at", "number"] (spWith CE)) (bW : Binds K fdW ["statement", "at", "number"] []) (mW : mg "with_number" = some (.ref fW)) (kW : PySem.W.keepIn K (.ref fW) = true) :
    FnOk P w K mg base CX0 5 f fd ["_law_statement_here", "_law_at", "_law_number_here"] spLWith := by
  refine F.ok scLw (fun vs H Q E h => ?_) (fun cdv A outer s H vs Q E hr h => ?_)
  · obtain ⟨b, v, d, k, c, rfl, _⟩ := h
    rfl
  · obtain ⟨b, v, d, k, c, rfl, hd, hs, hst, hb, q, qE⟩ := h
    refine ⟨_, pss_one (ps_try_as (i := 3) (Wout := fun _ _ _ _ => False) rfl rfl scLw.nd rfl rfl ⟨rfl, by decide, Or.inl T.gC⟩ takes0
        (fun W pn xe tk _ => pss_one (ps_ret (by exact (pe_callS GW hr rfl mW kW bW (fun σ => passAt tk σ) (by exact (pa_cons (pv 0) (pa_cons (pv 1) (pa_cons (pv 2) pa_nil))))))))
        (fun a oe cls d pn hz hf => pss_one (ps_ret (pe_tup (pa_cons pe_str (pa_cons (pe_xf (xf_of T.ec) T.no hz hf (pv 3)) pa_nil)))))), ?_⟩
    refine ⟨_, rfl, _, rfl, _, rfl, b, v, d, k, c, rfl, hd, hs, hst, hb, q, fun hk H1 dx s1 nd => ⟨true, T.em, fun _ a na => ?_, fun z => nomatch z⟩⟩
    have w1 := same_upd (o := .xd [("many", .int k)]) nd
    refine ⟨_, rfl, rfl, rfl, dx, _, _, rfl, upd_same, rfl, by show 2 ≤ sizeLine; decide, fun t nt => ?_⟩
    have w2 := same_upd (o := .tup [.str "none", .int k]) nt
    obtain ⟨ob, hob⟩ := there (s1.trans w1) hb
    exact qE hk _ t ((s1.trans w1).trans w2) (.tup upd_same (ne_of_none hob nt).symm (.cons (.str _) (.cons (.int _) .nil)))
end
end Fv


set_option Elab.async false
set_option linter.all false
set_option maxRecDepth 100000
set_option maxHeartbeats 4000000
namespace Fv
open PySem PySem.Spec PyProof.Rows L2
abbrev sCall : Stmt := top 49
/-- the drawn head of what is called -/
def headV (a pp rr : Addr) : List (Key × V) := [(Sum.inr "kinds", .ref a), (Sum.inr "params", .ref pp), (Sum.inr "results", .ref rr)]
def spCallD : Sp := fun vs H Q _ => ∃ (b a o pp rr : Addr) (nm : Str) (ks : List (Str × Str)) (zs rs : List Str), vs = [.ref b, .ref a, .str nm, .ref o] ∧ Bag H b ∧ a ≠ b ∧ o ≠ b ∧ pp ≠ b ∧ rr ≠ b ∧ NmOk nm ∧
  H a = some (.dK (kinV ks)) ∧ KindsOk ks ∧ ks.length ≤ 20 ∧ H o = some (.dK (headV a pp rr)) ∧ H pp = some (.tup (zs.map V.str)) ∧ zs.length ≤ 20 ∧ (∀ z ∈ zs, z ∈ ks.map (·.1)) ∧ H rr = some (.tup (rs.map V.str)) ∧ rs.length ≤ 20 ∧ (∀ z ∈ rs, z ∈ ks.map (·.1)) ∧
  ∀ (p : Addr) (d : PyData) (H' : Hp), Dq H' b (.ref p) d → okD d → stD d = true → frozenD d = d → smallSt d → Bag H' b → Keep b H H' → (∀ c, BagAt H b c → BagAt H' b c) → Q (.ref p) H'
theorem str_ne {x y : Str} (h : x ≠ y) : decide ((Sum.inr x : Key) = Sum.inr y) = false := decide_eq_false fun e => h (Sum.inr.inj e)
theorem str_eq {x : Str} : decide ((Sum.inr x : Key) = Sum.inr x) = true := decide_eq_true rfl
theorem head_k (a pp rr : Addr) : valV (headV a pp rr) (Sum.inr "kinds") = some (.ref a) := by
  unfold valV headV
  rw [List.find?_cons, str_eq]
  rfl
theorem head_p (a pp rr : Addr) : valV (headV a pp rr) (Sum.inr "params") = some (.ref pp) := by
  unfold valV headV
  rw [List.find?_cons, str_ne (by decide +kernel), List.find?_cons, str_eq]
  rfl
theorem head_r (a pp rr : Addr) : valV (headV a pp rr) (Sum.inr "results") = some (.ref rr) := by
  unfold valV headV
  rw [List.find?_cons, str_ne (by decide +kernel), List.find?_cons, str_ne (by decide +kernel), List.find?_cons, str_eq]
  rfl
theorem DqAll.strs (H : Hp) (b : Addr) : ∀ qs : List Str, DqAll H b (qs.map V.str) (qs.map PyData.str)
  | [] => .nil
  | q :: qs => .cons (.str q) (DqAll.strs H b qs)
theorem okAll.strs : ∀ {qs : List Str}, (∀ x ∈ qs, NmOk x) → okAll (qs.map PyData.str)
  | [], _ => True.intro
  | _ :: _, h => ⟨(h _ List.mem_cons_self).ok, okAll.strs fun x hx => h x (List.mem_cons_of_mem _ hx)⟩
theorem names_ok {qs : List Str} (h : ∀ x ∈ qs, NmOk x) (nd : qs.Nodup) : namesD (.tuple (qs.map .str)) = true := by
  have e1 : (qs.map PyData.str).all nameD = true := by
    rw [List.all_eq_true]
    intro d hd
    obtain ⟨z, hz, rfl⟩ := List.mem_map.mp hd
    exact (h z hz).name
  have e2 : (qs.map PyData.str).map strS = qs := by
    rw [List.map_map]
    conv => rhs; rw [← List.map_id qs]
    exact List.map_congr_left fun _ _ => rfl
  show (true && (qs.map PyData.str).all nameD && decide ((qs.map PyData.str).map strS).Nodup) = true
  rw [e1, e2, decide_eq_true nd]
  rfl
section
variable {P : Program} {w : World} {K : PySem.W.Frag} {mg : Str → Option Value} {base : Heap}
abbrev nCl : List Str := ["_law_bag_here", "_law_kinds_here", "_law_name_here", "_law_other", "_law_arguments", "_law_results", "_law_left", "_law_result", "_law_free", "_law_param", "_law_x"]
theorem scCl : FnScope nCl ["_law_bag_here", "_law_kinds_here", "_law_name_here", "_law_other"] (defScope sCall) := ⟨rfl, rfl, rfl, by decide +kernel, rfl, by decide +kernel, by decide +kernel⟩
theorem ok_calld {f fT fP fM : Addr} {fd fdT fdP fdM : FuncData} (F : Fun K "_law_call" "_law_call" sCall f fd)
    (GP : FnOk P w K mg base CX0 3 fP fdP ["_law_bag_here", "_law_kinds_here", "_law_kind"] spPart) (bP : Binds K fdP ["_law_bag_here", "_law_kinds_here", "_law_kind"] []) (mP : mg "_law_part" = some (.ref fP)) (kP : PySem.W.keepIn K (.ref fP) = true)
    (GM : FnOk P w K mg base CX0 2 fM fdM ["_law_bag_here", "_law_things"] (spMixed K)) (bM : Binds K fdM ["_law_bag_here", "_law_things"] []) (mM : mg "_law_mixed" = some (.ref fM)) (kM : PySem.W.keepIn K (.ref fM) = true)
    (mo : mg "sorted" = none) (mt : mg "tuple" = none) : FnOk P w K mg base CX0 4 f fd ["_law_bag_here", "_law_kinds_here", "_law_name_here", "_law_other"] spCallD := by
  refine F.ok scCl (fun vs H Q E h => ?_) (fun cdv A outer s H vs Q E hr h => ?_)
  · obtain ⟨b, a, o, pp, rr, nm, ks, zs, rs, rfl, _⟩ := h
    rfl
  · obtain ⟨b, a, o, pp, rr, nm, ks, zs, rs, rfl, B, ab, ob_, ppb, rrb, hnm, ha, ok, hl, ho, hpp, zl, zin, hrr, rl, rin, q⟩ := h
    have hr2 : Room 2 _ := hr.mono (by decide)
    have hu := hu_of hr
    refine ⟨_, pss_cons (ps_set (i := 4) scCl.nd rfl (.inl rfl) (pe_callTy call_tuple_of (by rfl) mt boot_tuple (pa_cons
          (pe_lc (own := [("_law_param", 9)]) (g := gName 9) (tt := tYes) rfl scCl.nd (pi_tup (pe_dget hu (pv 3) pe_str (fun _ _ => rfl))) (blkOk_by (N := nCl) (sc := defScope sCall) (by decide +kernel))
            (fun _ _ _ _ _ => pg_name (i := 9) scCl.nd rfl (Or.inl rfl)) (fun _ _ _ _ _ => pts_nil)
            (fun _ _ _ _ _ => pe_call GP hr (by rfl) mP kP bP .nil pass0 (pa_cons (pv 0) (pa_cons (pv 1) (pa_cons (pe_dget hu (pe_dget hu (pv 3) pe_str (fun _ _ => rfl)) (pv 9) (fun _ _ => rfl)) pa_nil))))) pa_nil)))
      (pss_cons (ps_asg (pe_tup (pa_cons (pe_lst pa_nil) (pa_cons (pe_call GM hr2 (by rfl) mM kM bM .nil pass0 (pa_cons (pv 0) (pa_cons (pe_callB (call_sortedD rfl) (by rfl) mo (by decide +kernel) (pa_cons (pv 1) pa_nil)) pa_nil))) pa_nil)))
          (pg_tup (by rfl) (pgs_cons (pg_name (i := 5) scCl.nd rfl (.inr rfl)) (pgs_cons (pg_name (i := 6) scCl.nd rfl (.inl rfl)) pgs_nil))))
      (pss_cons (ps_for PassesOwn.never rfl (pi_tup (pe_dget hu (pv 3) pe_str (fun _ _ => rfl))) (pg_name (i := 7) scCl.nd rfl (.inr rfl))
        (pss_cons (ps_setLc (i := 8) (own := [("_law_x", 10)]) (g := gName 10) (by rfl) scCl.nd rfl rfl (sw_true rfl rfl rfl (by decide +kernel)) (pi_list (pv 6)) (blkOk_by (N := nCl) (sc := defScope sCall) (by decide +kernel))
            (fun _ _ _ _ _ => pg_name (i := 10) scCl.nd rfl (Or.inl rfl))
            (fun _ _ _ _ _ => pts_one (PW.pt (pw_and (pt_cmpR (r := rIn K true) op_notIn_seq (pv 10) (pv 5) (by rfl)) (pw_and1 (pt_cmpR (r := rIn K false) op_in_seq (pe_dget hu (pe_dget hu (pv 3) pe_str (fun _ _ => rfl)) (pv 7) (fun _ _ => rfl)) (pe_tup (pa_cons pe_str (pa_cons (pe_dget hu (pv 1) (pv 10) (fun _ _ => rfl)) pa_nil))) (by rfl))))))
            (fun _ _ _ _ _ => pv 10))
        (pss_cons (ps_if (pt_cmpR (op_eqNil hr.units) (pv 8) (pe_lst pa_nil) (nomark _)) (pss_one (ps_ret (pe_tup (pa_cons pe_str pa_nil)))) pss_nil)
        (pss_one (ps_expr (pe_bm PySem.F.plainAttrs_list PySem.F.slot_list_append PySem.F.type_list_append mt_append (pv 5) (pa_cons (pe_ix ix_list (pv 8) pe_int (fun _ _ => rfl)) pa_nil)))))))
      (pss_one (ps_ret (pe_tup (pa_cons pe_str (pa_cons (pv 2) (pa_cons (pv 4) (pa_cons (pe_callTy call_tuple_of (by rfl) mt boot_tuple (pa_cons (pv 5) pa_nil)) pa_nil))))))))), ?_⟩
    obtain ⟨c0, B0⟩ := B
    obtain ⟨ob, hob⟩ := Bag.at_b (BagAt.bag B0)
    have knm : ∀ z ∈ ks.map (·.1), NmOk z := fun z hz => by
      obtain ⟨pr, hp, rfl⟩ := List.mem_map.mp hz
      exact ok.nm pr hp
    have dk : ∀ {H' : Hp}, Keep b H H' → DGet H' o (.str "kinds") (some (.ref a)) := fun {H'} k' => head_k a pp rr ▸ DGet.k (k := Sum.inr "kinds") (k' _ _ ob_ ho)
    have dp : ∀ {H' : Hp}, Keep b H H' → DGet H' o (.str "params") (some (.ref pp)) := fun {H'} k' => head_p a pp rr ▸ DGet.k (k := Sum.inr "params") (k' _ _ ob_ ho)
    have dr : ∀ {H' : Hp}, Keep b H H' → DGet H' o (.str "results") (some (.ref rr)) := fun {H'} k' => head_r a pp rr ▸ DGet.k (k := Sum.inr "results") (k' _ _ ob_ ho)
    have dx : ∀ {H' : Hp} {z : Str}, Keep b H H' → z ∈ ks.map (·.1) → ∃ k, kindS k ∧ DGet H' a (.str z) (some (.str k)) := fun {H' z} k' hz => by
      obtain ⟨k, ek, hk⟩ := kin_get hz ok.kd
      exact ⟨k, hk, ek ▸ DGet.k (k := Sum.inr z) (k' _ _ ab ha)⟩
    refine ⟨_, rfl, o, _, rfl, dp Keep.refl, pp, rfl, ⟨_, SqT.of hpp⟩, fun D hD => ?_⟩
    obtain ⟨B1, Db, Dc⟩ := BagAt.new (o := .lst []) B0 hD
    have putp : ∀ {H' H9 : Hp} {p : Addr} {y : Str} {c : Int}, H' D = some (.lst []) → True := fun _ => True.intro
    refine lc_tup (K := K) (a := pp) (xs := zs.map V.str) (fun i H' => BagAt H' b c0 ∧ Keep b H H' ∧ ∃ (ts : List V) (es : List PyData), H' D = some (.lst ts) ∧ DqAll (del H' D) b ts es ∧ es.length = i ∧ es.all pairD = true ∧ okAll es ∧ ∀ e ∈ es, -(10 ^ 39) ≤ lastI e ∧ lastI e ≤ 10 ^ 39) ⟨B1, Keep.new hD, [], [], upd_same, .nil, rfl, rfl, True.intro, fun e he => by cases he⟩ (fun i H' _ h => SqT.of (h.2.1 _ _ ppb hpp)) ?_ ?_
    · rintro i x H' hx ⟨B', k', ts, es, e', ta, el, et, eo, ec⟩
      obtain ⟨z, hzi, rfl⟩ : ∃ z, zs[i]? = some z ∧ x = V.str z := by
        rw [List.getElem?_map] at hx
        cases e : zs[i]? with
        | none => rw [e] at hx; cases hx
        | some z => rw [e] at hx; exact ⟨z, rfl, (Option.some.inj hx).symm⟩
      have hi : i < zs.length := (List.getElem?_eq_some_iff.mp hzi).1
      obtain ⟨kx, hkx, dgx⟩ := dx k' (zin z (List.mem_of_getElem? hzi))
      refine ⟨rfl, _, rfl, _, rfl, _, rfl, o, _, rfl, dk k', _, rfl, a, _, rfl, dgx, b, a, ks, kx, rfl, BagAt.bag B', ab, k' _ _ ab ha, ok, hl, fun p y c H9 pb ep hy c1 c2 B9 k9 g9 => ?_⟩
      have tl : ts.length = i := by rw [ta.len, el]
      refine ⟨ts, k9 _ _ Db e', small60 (by omega), (g9 _ B').put Db Dc, fun c o n e => ?_, ts ++ [.ref p], es ++ [.tuple [.str y, .int c]], upd_same, ?_, ?_, ?_, ?_, ?_⟩
      · rw [upd_ne (ne_of_none e hD)]
        exact k9 _ _ n (k' c o n e)
      · rw [del_upd]
        have subk : ∀ c o, c ≠ b → del H' D c = some o → del H9 D c = some o := fun c o n e => by
          have nc : c ≠ D := fun z => by
            rw [z, del_same] at e
            cases e
          rw [del_ne nc]
          exact k9 c o n (del_sub c o e)
        refine DqAll.snoc ?_ (ta.mono fun c o n e => subk c o n e)
        have pD : p ≠ D := fun z => by
          rw [z, k9 _ _ Db e'] at ep
          cases ep
        exact .tup (xs := [.str y, .int c]) (by rw [del_ne pD]; exact ep) pb (.cons (.str _) (.cons (.int _) .nil))
      · simp [el]
      · rw [List.all_append, et]
        show (true && ((sourceD (.str y) && true) && true)) = true
        rw [src_name hy]
        rfl
      · exact okAll.snoc (d := .tuple [.str y, .int c]) ⟨by show 2 ≤ 60; decide, src_ok hy, True.intro, True.intro⟩ eo
      · intro e he
        rcases List.mem_append.mp he with h | h
        · exact ec e h
        · rw [List.mem_singleton.mp h]
          exact ⟨c1, c2⟩
    · rintro H1 ⟨B1, k1, ts, es, eD, ta, el, et, eo, ec⟩
      rw [List.length_map] at el
      refine ⟨D, ts, rfl, .inl ⟨SqL.of eD, fun l fl => ?_⟩⟩
      obtain ⟨B2, lb, lc⟩ := BagAt.new (o := .tup ts) B1 fl
      have k2 : Keep b H (upd H1 l (.tup ts)) := k1.trans (Keep.new fl)
      have dl : ∀ {H' : Hp}, Keep b (upd H1 l (.tup ts)) H' → Dq H' b (.ref l) (.tuple es) := fun {H'} kk => .tup (kk _ _ lb upd_same) lb (ta.mono fun c o n e => kk _ _ n (Keep.new (b := b) fl _ _ n (del_sub c o e)))
      generalize upd H1 l (.tup ts) = H2 at B2 k2 dl ⊢
      dsimp only [gName]
      refine ⟨Nat.zero_le _, fun R nR => ?_⟩
      obtain ⟨B3, Rb, Rc⟩ := BagAt.new (o := .lst []) B2 nR
      have k3 : Keep b H2 (upd H2 R (.lst [])) := Keep.new nR
      have eR := (upd_same : (upd H2 R (.lst [])) R = some (.lst []))
      generalize upd H2 R (.lst []) = H3 at B3 k3 eR ⊢
      refine ⟨_, rfl, _, rfl, a, kinV ks, ks.map (·.1), rfl, .inl (k3 _ _ ab (k2 _ _ ab ha)), kin_keys ks, by rw [List.length_map]; omega, fun ys n hperm _ nn => ?_⟩
      obtain ⟨B4, nb, nc⟩ := BagAt.new (o := .lst (ys.map V.str)) B3 nn
      have k4 : Keep b H3 (upd H3 n (.lst (ys.map V.str))) := Keep.new nn
      have yl : ys.length ≤ 20 := by rw [hperm.length_eq, List.length_map]; exact hl
      refine ⟨b, n, ys.map V.str, rfl, BagAt.bag B4, nb, upd_same, by rw [List.length_map]; omega, fun L ms H5 nL mL eL permL B5 k5 g5 => ?_⟩
      obtain ⟨ms', rfl, pms⟩ : ∃ ms' : List Str, ms = ms'.map V.str ∧ ms'.Perm ys := strs_perm permL
      have min : ∀ z ∈ ms', z ∈ ks.map (·.1) := fun z hz => hperm.mem_iff.mp (pms.mem_iff.mp hz)
      have ml : ms'.length ≤ 20 := by rw [pms.length_eq]; exact yl
      have B5c := g5 _ B4
      have Lb : L ≠ b := fun z => by
        obtain ⟨o, ho⟩ := Bag.at_b (BagAt.bag B4)
        rw [z, ho] at nL
        cases nL
      have LR : L ≠ R := fun z => by
        have := k4 _ _ Rb eR
        rw [z, this] at nL
        cases nL
      have k25 : Keep b H2 H5 := (k3.trans k4).trans k5
      have eR5 := k5 _ _ Rb (k4 _ _ Rb eR)
      have Lc : L ≠ c0 := fun z => by
        obtain ⟨cs, pq, sq, iq, BB⟩ := id B4
        have := BB.cells
        rw [z, this] at nL
        cases nL
      refine ⟨by show 2 ≤ sizeLine; decide, fun t nt => ?_⟩
      obtain ⟨B6, tb, _⟩ := BagAt.new (o := .tup [.ref R, .ref L]) B5c nt
      have k6 : Keep b H5 (upd H5 t (.tup [.ref R, .ref L])) := Keep.new nt
      have k26 := k25.trans k6
      have eR6 := k6 _ _ Rb eR5
      have eL6 := k6 _ _ Lb eL
      refine ⟨t, _, rfl, SqT.of upd_same, rfl, _, _, rfl, _, _, rfl, rfl, ?_⟩
      generalize upd H5 t (.tup [.ref R, .ref L]) = H6 at B6 k26 eR6 eL6 ⊢
      have k06 : Keep b H H6 := k2.trans k26
      refine ⟨_, rfl, o, _, rfl, dr k06, rr, rfl, ⟨_, SqT.of (k06 _ _ rrb hrr)⟩, ?_⟩
      refine for_tup (K := K) (a := rr) (xs := rs.map V.str) (fun i σ H' => ∃ y7 y8 y9 y10 : Option V, σ = [some (.ref b), some (.ref a), some (.str nm), some (.ref o), some (.ref l), some (.ref R), some (.ref L), y7, y8, y9, y10] ∧ BagAt H' b c0 ∧ Keep b H2 H' ∧ H' L = some (.lst (ms'.map V.str)) ∧
          ∃ qs : List Str, H' R = some (.lst (qs.map V.str)) ∧ qs.Nodup ∧ (∀ x ∈ qs, x ∈ ks.map (·.1)) ∧ qs.length ≤ i)
        ⟨none, none, none, none, rfl, B6, k26, eL6, [], eR6, List.nodup_nil, fun x hx => (by cases hx), Nat.le_refl _⟩ (fun i σ H' _ h => ?_) ?_ ?_
      · obtain ⟨_, _, _, _, _, _, k', _⟩ := h
        exact SqT.of (k' _ _ rrb (k2 _ _ rrb hrr))
      · rintro i x σ H' hx ⟨y7, y8, y9, y10, rfl, B', k', eL', qs, eR', nd, qin, ql⟩
        obtain ⟨r, hri, rfl⟩ : ∃ r, rs[i]? = some r ∧ x = V.str r := by
          rw [List.getElem?_map] at hx
          cases e : rs[i]? with
          | none => rw [e] at hx; cases hx
          | some z => rw [e] at hx; exact ⟨z, rfl, (Option.some.inj hx).symm⟩
        have hi : i < rs.length := (List.getElem?_eq_some_iff.mp hri).1
        have k0' : Keep b H H' := k2.trans k'
        dsimp only [gName]
        refine ⟨_, rfl, L, rfl, ⟨_, SqL.of eL'⟩, fun Fa hF => ?_⟩
        refine lc_list (K := K) (a := L) (xs := ms'.map V.str) (fun j H'' => Same H' H'' ∧ ∃ fs : List Str, H'' Fa = some (.lst (fs.map V.str)) ∧ (∀ f ∈ fs, f ∈ ms' ∧ f ∉ qs) ∧ fs.length ≤ j) ⟨same_upd hF, [], upd_same, fun f hf => (by cases hf), Nat.le_refl _⟩ (fun j H'' _ h => SqL.of (h.1 _ _ eL')) ?_ ?_
        · rintro j x H'' hxj ⟨s'', fs, eF, fin, fl⟩
          obtain ⟨z, hzj, rfl⟩ : ∃ z, ms'[j]? = some z ∧ x = V.str z := by
            rw [List.getElem?_map] at hxj
            cases e : ms'[j]? with
            | none => rw [e] at hxj; cases hxj
            | some z => rw [e] at hxj; exact ⟨z, rfl, (Option.some.inj hxj).symm⟩
          have hj : j < ms'.length := (List.getElem?_eq_some_iff.mp hzj).1
          have zm := List.mem_of_getElem? hzj
          have k0'' : Keep b H H'' := k0'.trans fun c o _ e => s'' c o e
          refine ⟨rfl, _, rfl, _, rfl, R, _, rfl, .inl (SqL.of (s'' _ _ eR')), rfl, flat_strs _, _, rfl, ?_⟩
          rw [inV_strs]
          by_cases hz : z ∈ qs
          · rw [decide_eq_true hz]
            exact iteF ⟨s'', fs, eF, fin, by omega⟩
          · rw [decide_eq_false hz]
            obtain ⟨k1', _, dg1⟩ := dx k0'' (rin r (List.mem_of_getElem? hri))
            obtain ⟨k2', _, dg2⟩ := dx k0'' (min z zm)
            refine iteT ⟨_, rfl, o, _, rfl, dk k0'', _, rfl, a, _, rfl, dg1, _, rfl, _, rfl, a, _, rfl, dg2, by show 2 ≤ sizeLine; decide, fun t2 nt2 => ⟨t2, _, rfl, .inr (SqT.of upd_same), rfl, rfl, _, rfl, ?_⟩⟩
            have w1 := same_upd (o := .tup [.str "plain", .str k2']) nt2
            refine ite2 (fun _ => ?_) (fun _ => ?_)
            · refine ⟨_, rfl, _, w1 _ _ eF, by rw [List.length_map]; exact small60 (by omega), fun c o e => ?_, fs ++ [z], ?_, fun y hy => ?_, by simp; omega⟩
              · rw [upd_ne (ne_of_none e hF)]
                exact w1 _ _ (s'' c o e)
              · rw [upd_same, List.map_append]
                rfl
              · rcases List.mem_append.mp hy with h | h
                · exact fin y h
                · rw [List.mem_singleton.mp h]
                  exact ⟨zm, hz⟩
            · exact ⟨s''.trans w1, fs, w1 _ _ eF, fin, by omega⟩
        · rintro H7 ⟨s7, fs, eF, fin, fl⟩
          rw [List.length_map] at fl
          have B7 := BagAt.same B' s7
          have k7 : Keep b H2 H7 := k'.trans fun c o _ e => s7 c o e
          have eL7 := s7 _ _ eL'
          have eR7 := s7 _ _ eR'
          dsimp only [gName]
          refine ⟨_, rfl, Nat.zero_le _, fun e ne => ?_⟩
          obtain ⟨B8, eb, _⟩ := BagAt.new (o := .lst []) B7 ne
          have w8 := same_upd (o := .lst []) ne
          have k8 : Keep b H2 (upd H7 e (.lst [])) := k7.trans (Keep.new ne)
          have eF8 := w8 _ _ eF
          have eR8 := w8 _ _ eR7
          have eL8 := w8 _ _ eL7
          refine ⟨Fa, e, _, rfl, rfl, SqL.of eF8, SqL.of upd_same, _, rfl, ?_⟩
          generalize upd H7 e (.lst []) = H8 at B8 k8 eF8 eR8 eL8 ⊢
          rw [map_empty]
          cases fs with
          | nil =>
            refine iteT ⟨by show 1 ≤ sizeLine; decide, fun p np => ?_⟩
            obtain ⟨B9, pb, _⟩ := BagAt.new (o := .tup [.str "skip"]) B8 np
            exact q p (.tuple [.str "skip"]) _ (.tup upd_same pb (.cons (.str _) .nil)) ⟨by decide, ⟨by decide, by decide⟩, True.intro⟩ (by decide +kernel) rfl ⟨Nat.zero_le _, (fun e he => by cases he), few_skip⟩ (BagAt.bag B9) ((k2.trans k8).trans (Keep.new np)) fun c hc => by rw [BagAt.uniq B0 hc]; exact B9
          | cons f fs =>
            obtain ⟨fm, fq⟩ := fin f List.mem_cons_self
            refine iteF ⟨_, rfl, .inl ⟨rfl, _, SqL.of eR8⟩, _, rfl, Fa, _, 0, _, rfl, rfl, SqL.of eF8, atI_nat (j := 0) rfl, R, _, _, rfl, rfl, eR8, by rw [List.length_map]; exact small60 (by omega), ?_⟩
            refine ⟨_, _, _, _, rfl, B8.put Rb Rc, fun c o n e => ?_, ?_, qs ++ [f], ?_, ?_, fun x hx => ?_, by simp; omega⟩
            · have cR : c ≠ R := ne_of_none e nR
              rw [upd_ne cR]
              exact k8 c o n e
            · rw [upd_ne LR]
              exact eL8
            · rw [upd_same, List.map_append]
              rfl
            · rw [List.nodup_append]
              exact ⟨nd, by simp, fun x hx y hy e => fq (by rw [List.mem_singleton.mp hy] at e; exact e ▸ hx)⟩
            · rcases List.mem_append.mp hx with h | h
              · exact qin x h
              · rw [List.mem_singleton.mp h]
                exact min f fm
      · rintro σ H' ⟨y7, y8, y9, y10, rfl, B', k', eL', qs, eR', nd, qin, ql⟩
        rw [List.length_map] at ql
        refine ⟨_, rfl, _, rfl, _, rfl, R, _, rfl, .inl ⟨SqL.of eR', fun l2 fl2 => ?_⟩⟩
        obtain ⟨B7, l2b, _⟩ := BagAt.new (o := .tup (qs.map V.str)) B' fl2
        have k7 : Keep b H' (upd H' l2 (.tup (qs.map V.str))) := Keep.new fl2
        refine ⟨by show 4 ≤ sizeLine; decide, fun p np => ?_⟩
        obtain ⟨B8, pb, _⟩ := BagAt.new (o := .tup [.str "call", .str nm, .ref l, .ref l2]) B7 np
        have k8 : Keep b (upd H' l2 (.tup (qs.map V.str))) (upd (upd H' l2 (.tup (qs.map V.str))) p (.tup [.str "call", .str nm, .ref l, .ref l2])) := Keep.new np
        have kA := (k'.trans k7).trans k8
        have qn : ∀ x ∈ qs, NmOk x := fun x hx => knm x (qin x hx)
        have st1 : partsD (.tuple es) = true := by
          show (true && es.all pairD) = true
          rw [et]
          rfl
        refine q p (.tuple [.str "call", .str nm, .tuple es, .tuple (qs.map .str)]) _ (.tup upd_same pb (.cons (.str _) (.cons (.str _) (.cons (dl kA) (.cons (.tup (k8 _ _ l2b upd_same) l2b (DqAll.strs _ _ qs)) .nil)))))
          ⟨by show 4 ≤ 60; decide, ⟨by decide, by decide⟩, hnm.ok, ⟨by omega, eo⟩, ⟨by rw [List.length_map]; omega, okAll.strs qn⟩, True.intro⟩ ?_ rfl ⟨by show es.length ≤ 20; omega, ec, few4 (by omega) (by rw [List.length_map]; omega)⟩ (BagAt.bag B8) (k2.trans kA) fun c hc => by rw [BagAt.uniq B0 hc]; exact B8
        refine rest4.trans ?_
        rw [st1, show nameD (.str nm) = true from hnm.name, names_ok qn nd]
        decide +kernel
end
end Fv


set_option Elab.async false
set_option linter.all false
set_option maxRecDepth 100000
set_option maxHeartbeats 4000000
namespace Fv
open PySem PySem.Spec PyProof.Rows L2
abbrev sDrawn : Stmt := top 60
def spDrawn : Sp := fun vs H Q _ => ∃ (b : Addr), vs = [.ref b] ∧ Bag H b ∧
  ∀ (p : Addr) (d : PyData) (H' : Hp), Dq H' b (.ref p) d → okD d → stD d = true → frozenD d = d → smallSt d → Bag H' b → Keep b H H' → Q (.ref p) H'
theorem kp_ne : ¬ (("kinds" : Str) = "params") := by decide +kernel
theorem kr_ne : ¬ (("kinds" : Str) = "results") := by decide +kernel
theorem pr_ne : ¬ (("params" : Str) = "results") := by decide +kernel
theorem head_merge (a pp e : Addr) : mergeK [] (headV a pp e) = headV a pp e := by
  unfold headV
  simp [mergeK, putK, kp_ne, kr_ne, pr_ne]
theorem head_put (a pp e v : Addr) : putK (headV a pp e) (Sum.inr "results") (.ref v) = headV a pp v := by
  unfold headV
  simp [putK, kr_ne, pr_ne]
section
variable {P : Program} {w : World} {K : PySem.W.Frag} {mg : Str → Option Value} {base : Heap}
abbrev nDr : List Str := ["_law_bag_here", "_law_kinds_here", "_law_head", "_law_name_here"]
theorem scDr : FnScope nDr ["_law_bag_here"] (defScope sDrawn) := ⟨rfl, rfl, rfl, by decide +kernel, rfl, by decide +kernel, by decide +kernel⟩
theorem ok_drawn {f fT fN fK fS fM fC : Addr} {fd fdT fdN fdK fdS fdM fdC : FuncData} (F : Fun K "_law_drawn" "_law_drawn" sDrawn f fd)
    (GT : FnOk P w K mg base CX0 1 fT fdT ["_law_bag_here", "_law_many"] spTake) (bT : Binds K fdT ["_law_bag_here", "_law_many"] []) (mT : mg "_law_take" = some (.ref fT)) (kT : PySem.W.keepIn K (.ref fT) = true)
    (GN : FnOk P w K mg base CX0 3 fN fdN ["_law_bag_here", "_law_many"] spNames) (bN : Binds K fdN ["_law_bag_here", "_law_many"] []) (mN : mg "_law_names" = some (.ref fN)) (kN : PySem.W.keepIn K (.ref fN) = true)
    (GK : FnOk P w K mg base CX0 2 fK fdK ["_law_bag_here", "_law_names_here"] spKinds) (bK : Binds K fdK ["_law_bag_here", "_law_names_here"] []) (mK : mg "_law_kinds" = some (.ref fK)) (kK : PySem.W.keepIn K (.ref fK) = true)
    (GS : FnOk P w K mg base CX0 4 fS fdS ["_law_bag_here", "_law_kinds_here"] spSt) (bS : Binds K fdS ["_law_bag_here", "_law_kinds_here"] []) (mS : mg "_law_statement" = some (.ref fS)) (kS : PySem.W.keepIn K (.ref fS) = true)
    (GM : FnOk P w K mg base CX0 2 fM fdM ["_law_bag_here", "_law_things"] (spMixed K)) (bM : Binds K fdM ["_law_bag_here", "_law_things"] []) (mM : mg "_law_mixed" = some (.ref fM)) (kM : PySem.W.keepIn K (.ref fM) = true)
    (GC : FnOk P w K mg base CX0 4 fC fdC ["_law_bag_here", "_law_kinds_here", "_law_name_here", "_law_other"] spCallD) (bC : Binds K fdC ["_law_bag_here", "_law_kinds_here", "_law_name_here", "_law_other"] []) (mC : mg "_law_call" = some (.ref fC)) (kC : PySem.W.keepIn K (.ref fC) = true)
    (mo : mg "sorted" = none) (mt : mg "tuple" = none) : FnOk P w K mg base CX0 5 f fd ["_law_bag_here"] spDrawn := by
  refine F.ok scDr (fun vs H Q E h => ?_) (fun cdv A outer s H vs Q E hr h => ?_)
  · obtain ⟨b, rfl, _⟩ := h
    rfl
  · obtain ⟨b, rfl, B, q⟩ := h
    have hr1 : Room 1 _ := hr.mono (by decide)
    have hr2 : Room 2 _ := hr.mono (by decide)
    have hr3 : Room 3 _ := hr.mono (by decide)
    have hu := hu_of hr
    refine ⟨_, pss_cons (ps_set (i := 1) scDr.nd rfl (.inr rfl) (pe_call GK hr2 (by rfl) mK kK bK .nil pass0 (pa_cons (pv 0) (pa_cons
          (pe_call GN hr3 (by rfl) mN kN bN .nil pass0 (pa_cons (pv 0) (pa_cons (pe_op op_add pe_int (pe_call GT hr1 (by rfl) mT kT bT .nil pass0 (pa_cons (pv 0) (pa_cons pe_int pa_nil)))) pa_nil))) pa_nil))))
      (pss_cons (ps_if (pt_cmpR op_gt (pe_call GT hr1 (by rfl) mT kT bT .nil pass0 (pa_cons (pv 0) (pa_cons pe_int pa_nil))) pe_int (nomark _))
        (pss_one (ps_ret (pe_call GS hr (by rfl) mS kS bS .nil pass0 (pa_cons (pv 0) (pa_cons (pv 1) pa_nil))))) pss_nil)
      (pss_cons (ps_set (i := 2) scDr.nd rfl (.inl rfl) (pe_disp (pps_cons pe_str (pv 1) (pps_cons pe_str (pe_callTy call_tuple_of (by rfl) mt boot_tuple (pa_cons (pe_call GM hr2 (by rfl) mM kM bM .nil pass0 (pa_cons (pv 0) (pa_cons (pe_callB (call_sortedD rfl) (by rfl) mo (by decide +kernel) (pa_cons (pv 1) pa_nil)) pa_nil))) pa_nil))
          (pps_cons pe_str (pe_tup pa_nil) pps_nil))) (by rfl) (by rfl) (fun z => by cases z) (by decide)))
      (pss_cons (ps_asg (pe_callTy call_tuple_of (by rfl) mt boot_tuple (pa_cons (pe_call GM hr2 (by rfl) mM kM bM .nil pass0 (pa_cons (pv 0) (pa_cons
          (pe_lc (own := [("_law_name_here", 3)]) (g := gName 3) rfl scDr.nd (pi_list (pe_callB (call_sortedD rfl) (by rfl) mo (by decide +kernel) (pa_cons (pv 1) pa_nil))) (blkOk_by (N := nDr) (sc := defScope sDrawn) (by decide +kernel))
            (fun _ _ _ _ _ => pg_name (i := 3) scDr.nd rfl (Or.inl rfl))
            (fun _ _ _ _ _ => pts_one (pt_cmpR op_eq (pe_dget hu (pv 1) (pv 3) (fun _ _ => rfl)) pe_str (nomark _)))
            (fun _ _ _ _ _ => pv 3)) pa_nil))) pa_nil)) (pg_sub (pv 2) pe_str (set_dict hu)))
      (pss_one (ps_ret (pe_call GC hr (by rfl) mC kC bC .nil pass0 (pa_cons (pv 0) (pa_cons (pv 1) (pa_cons
          (pe_ix ix_list (pe_call GN hr3 (by rfl) mN kN bN .nil pass0 (pa_cons (pv 0) (pa_cons pe_int pa_nil))) pe_int (fun _ _ => rfl)) (pa_cons (pv 2) pa_nil)))))))))), ?_⟩
    obtain ⟨c0, B0⟩ := B
    obtain ⟨ob, hob⟩ := Bag.at_b (BagAt.bag B0)
    refine ⟨_, rfl, _, rfl, _, rfl, b, 3, rfl, BagAt.bag B0, by decide, by decide, fun r H1 h1 B1 k1 _ => ⟨_, _, rfl, rfl, b, 1 + r, rfl, B1, by omega, by omega, fun pz zs H2 ez lz pzb zok B2 k2 => ?_⟩⟩
    refine ⟨b, pz, zs, rfl, B2, pzb, ez, by omega, zok, fun a ks H3 na ea ok kl _ B3 k3 _ => ?_⟩
    have ab : a ≠ b := fun z => by
      obtain ⟨o, ho⟩ := Bag.at_b B2
      rw [z, ho] at na
      cases na
    have ksl : ks.length ≤ 20 := by omega
    have knm : ∀ z ∈ ks.map (·.1), NmOk z := fun z hz => by
      obtain ⟨pr, hp, rfl⟩ := List.mem_map.mp hz
      exact ok.nm pr hp
    dsimp only [gName]
    refine ⟨_, rfl, b, 3, rfl, B3, by decide, by decide, fun r4 H4 h4 B4 k4 _ => ⟨_, _, rfl, rfl, _, rfl, ite2 (fun _ => ?_) (fun _ => ?_)⟩⟩
    · refine ⟨_, rfl, _, rfl, b, a, ks, rfl, B4, ab, k4 _ _ ab ea, ok, ksl, fun p d H5 hd od sd fz sm B5 k5 _ => ?_⟩
      exact q p d H5 hd od sd fz sm B5 ((((k1.trans k2).trans k3).trans k4).trans k5)
    · have k04 := ((k1.trans k2).trans k3).trans k4
      have ea4 := k4 _ _ ab ea
      obtain ⟨c4, B4c⟩ := B4
      clear k1 k2 k3 k4 B1 B2 B3
      dsimp only [gName]
      refine fun p np => ?_
      obtain ⟨B5, pb, pc⟩ := BagAt.new (o := .dK []) B4c np
      have k5 : Keep b H4 (upd H4 p (.dK [])) := Keep.new np
      have ep5 := (upd_same : (upd H4 p (.dK [])) p = some (.dK []))
      have pa : a ≠ p := ne_of_none ea4 np
      generalize upd H4 p (.dK []) = H5 at B5 k5 ep5 ⊢
      refine ⟨_, rfl, _, rfl, _, rfl, a, kinV ks, ks.map (·.1), rfl, .inl (k5 _ _ ab ea4), kin_keys ks, by rw [List.length_map]; omega, fun ys n hperm _ nn => ?_⟩
      obtain ⟨B6, nb, nc⟩ := BagAt.new (o := .lst (ys.map V.str)) B5 nn
      have k6 : Keep b H5 (upd H5 n (.lst (ys.map V.str))) := Keep.new nn
      have yl : ys.length ≤ 20 := by rw [hperm.length_eq, List.length_map]; exact ksl
      refine ⟨b, n, ys.map V.str, rfl, BagAt.bag B6, nb, upd_same, by rw [List.length_map]; omega, fun L ms H7 nL mL eL permL B7 k7 g7 => ?_⟩
      obtain ⟨zs', rfl, pzs⟩ : ∃ zs' : List Str, ms = zs'.map V.str ∧ zs'.Perm ys := strs_perm permL
      have zin : ∀ z ∈ zs', z ∈ ks.map (·.1) := fun z hz => hperm.mem_iff.mp (pzs.mem_iff.mp hz)
      have zl : zs'.length ≤ 20 := by rw [pzs.length_eq]; exact yl
      have k57 := k6.trans k7
      have B7c := g7 _ B6
      refine ⟨L, _, rfl, .inl ⟨SqL.of eL, fun pp npp => ?_⟩⟩
      obtain ⟨B8, ppb, _⟩ := BagAt.new (o := .tup (zs'.map V.str)) B7c npp
      have k8 : Keep b H7 (upd H7 pp (.tup (zs'.map V.str))) := Keep.new npp
      refine ⟨Nat.zero_le _, fun e0 ne0 => ?_⟩
      obtain ⟨B9, e0b, _⟩ := BagAt.new (o := .tup []) B8 ne0
      have k9 : Keep b (upd H7 pp (.tup (zs'.map V.str))) (upd (upd H7 pp (.tup (zs'.map V.str))) e0 (.tup [])) := Keep.new ne0
      have k59 := (k57.trans k8).trans k9
      have epp := k9 _ _ ppb (upd_same (H := H7) (a := pp) (o := .tup (zs'.map V.str)))
      have ep9 := k59 _ _ pb ep5
      have ea9 := k59 _ _ ab (k5 _ _ ab ea4)
      have pp_p : pp ≠ p := fun z => by
        have := k57 _ _ pb ep5
        rw [← z, npp] at this
        cases this
      generalize upd (upd H7 pp (.tup (zs'.map V.str))) e0 (.tup []) = H9 at B9 k59 epp ep9 ea9 ⊢
      refine ⟨ep9, headV a pp e0, rfl, by show 3 ≤ 15; decide, ?_⟩
      rw [head_merge]
      have B10 := B9.put (o := .dK (headV a pp e0)) pb pc
      have ea10 : (upd H9 p (.dK (headV a pp e0))) a = some (.dK (kinV ks)) := by rw [upd_ne pa]; exact ea9
      have epp10 : (upd H9 p (.dK (headV a pp e0))) pp = some (.tup (zs'.map V.str)) := by rw [upd_ne pp_p]; exact epp
      have ep10 : (upd H9 p (.dK (headV a pp e0))) p = some (.dK (headV a pp e0)) := upd_same
      have np4 : ∀ c o, H4 c = some o → c ≠ p := fun c o e => ne_of_none e np
      have k10 : Keep b H4 (upd H9 p (.dK (headV a pp e0))) := fun c o n e => by
        rw [upd_ne (np4 c o e)]
        exact k59 _ _ n (k5 _ _ n e)
      generalize upd H9 p (.dK (headV a pp e0)) = H10 at B10 ea10 epp10 ep10 k10 ⊢
      clear k59 k5 k6 k7 k8 k9 B5 B6 B7 B8 B9
      dsimp only [gName]
      refine ⟨_, rfl, _, rfl, a, kinV ks, ks.map (·.1), rfl, .inl ea10, kin_keys ks, by rw [List.length_map]; omega, fun ys2 n2 hperm2 _ nn2 => ?_⟩
      have s11 := same_upd (o := .lst (ys2.map V.str)) nn2
      have en11 := (upd_same : (upd H10 n2 (.lst (ys2.map V.str))) n2 = some (.lst (ys2.map V.str)))
      have B11 := BagAt.same B10 s11
      have k11 : Keep b H10 (upd H10 n2 (.lst (ys2.map V.str))) := Keep.new nn2
      have yl2 : ys2.length ≤ 20 := by rw [hperm2.length_eq, List.length_map]; exact ksl
      generalize upd H10 n2 (.lst (ys2.map V.str)) = H11 at s11 en11 B11 k11 ⊢
      refine ⟨n2, rfl, ⟨_, SqL.of en11⟩, fun D hD => ?_⟩
      obtain ⟨_, Db, _⟩ := BagAt.new (o := .lst []) B11 hD
      refine lc_list (K := K) (a := n2) (xs := ys2.map V.str) (fun j H' => Same H11 H' ∧ ∃ fs : List Str, H' D = some (.lst (fs.map V.str)) ∧ (∀ f ∈ fs, f ∈ ks.map (·.1)) ∧ fs.length ≤ j) ⟨same_upd hD, [], upd_same, fun f hf => (by cases hf), Nat.le_refl _⟩ (fun j H' _ h => SqL.of (h.1 _ _ en11)) ?_ ?_
      · rintro j x H' hxj ⟨s', fs, eD, fin, fl⟩
        obtain ⟨z, hzj, rfl⟩ : ∃ z, ys2[j]? = some z ∧ x = V.str z := by
          rw [List.getElem?_map] at hxj
          cases e : ys2[j]? with
          | none => rw [e] at hxj; cases hxj
          | some z => rw [e] at hxj; exact ⟨z, rfl, (Option.some.inj hxj).symm⟩
        have hj : j < ys2.length := (List.getElem?_eq_some_iff.mp hzj).1
        have zin2 : z ∈ ks.map (·.1) := hperm2.mem_iff.mp (List.mem_of_getElem? hzj)
        obtain ⟨kk, ek, _⟩ := kin_get zin2 ok.kd
        refine ⟨rfl, _, rfl, _, rfl, a, _, rfl, ek ▸ DGet.k (k := Sum.inr z) (s' _ _ (s11 _ _ ea10)), rfl, _, rfl, ite2 (fun _ => ?_) (fun _ => ?_)⟩
        · refine ⟨_, rfl, _, eD, by rw [List.length_map]; exact small60 (by omega), fun c o e => ?_, fs ++ [z], ?_, fun y hy => ?_, by simp; omega⟩
          · rw [upd_ne (ne_of_none e hD)]
            exact s' _ _ e
          · rw [upd_same, List.map_append]
            rfl
          · rcases List.mem_append.mp hy with h | h
            · exact fin y h
            · rw [List.mem_singleton.mp h]
              exact zin2
        · exact ⟨s', fs, eD, fin, by omega⟩
      · rintro H12 ⟨s12, fs, eD, fin, fl⟩
        rw [List.length_map] at fl
        have B12 := BagAt.same B11 s12
        have s1012 := s11.trans s12
        refine ⟨b, D, fs.map V.str, rfl, BagAt.bag B12, Db, eD, by rw [List.length_map]; omega, fun L2 ms2 H13 nL2 mL2 eL2 permL2 B13 k13 g13 => ?_⟩
        obtain ⟨rs, rfl, prs⟩ : ∃ rs : List Str, ms2 = rs.map V.str ∧ rs.Perm fs := strs_perm permL2
        have B13c := g13 _ B12
        have k1013 : Keep b H10 H13 := fun c o n e => k13 _ _ n (s1012 _ _ e)
        refine ⟨L2, _, rfl, .inl ⟨SqL.of eL2, fun rr nrr => ?_⟩⟩
        obtain ⟨B14, rrb, _⟩ := BagAt.new (o := .tup (rs.map V.str)) B13c nrr
        have k14 : Keep b H13 (upd H13 rr (.tup (rs.map V.str))) := Keep.new nrr
        have err := (upd_same : (upd H13 rr (.tup (rs.map V.str))) rr = some (.tup (rs.map V.str)))
        have k1014 := k1013.trans k14
        have rrp : rr ≠ p := fun z => by
          have := k1013 _ _ pb ep10
          rw [← z, nrr] at this
          cases this
        generalize upd H13 rr (.tup (rs.map V.str)) = H14 at B14 k1014 err ⊢
        refine ⟨_, rfl, p, _, rfl, DPut.k (k := Sum.inr "results") (k1014 _ _ pb ep10) (by show 3 < sizeLine; decide), ?_⟩
        rw [head_put]
        have B15 := B14.put (o := .dK (headV a pp rr)) pb pc
        have ea15 : (upd H14 p (.dK (headV a pp rr))) a = some (.dK (kinV ks)) := by rw [upd_ne pa]; exact k1014 _ _ ab ea10
        have epp15 : (upd H14 p (.dK (headV a pp rr))) pp = some (.tup (zs'.map V.str)) := by rw [upd_ne pp_p]; exact k1014 _ _ ppb epp10
        have err15 : (upd H14 p (.dK (headV a pp rr))) rr = some (.tup (rs.map V.str)) := by rw [upd_ne rrp]; exact err
        have ep15 : (upd H14 p (.dK (headV a pp rr))) p = some (.dK (headV a pp rr)) := upd_same
        have k15 : Keep b H4 (upd H14 p (.dK (headV a pp rr))) := fun c o n e => by
          rw [upd_ne (np4 c o e)]
          exact k1014 _ _ n (k10 _ _ n e)
        generalize upd H14 p (.dK (headV a pp rr)) = H15 at B15 ea15 epp15 err15 ep15 k15 ⊢
        refine ⟨_, rfl, _, rfl, _, rfl, b, 1, rfl, BagAt.bag B15, by decide, by decide, fun pz2 zs2 H16 ez2 lz2 pzb2 zok2 B16 k16 => ?_⟩
        obtain ⟨nm, ht⟩ : ∃ nm, zs2 = [nm] := by
          cases zs2 with
          | nil => cases lz2
          | cons x xs => cases xs with
            | nil => exact ⟨x, rfl⟩
            | cons y ys => cases lz2
        subst ht
        refine ⟨pz2, _, _, _, rfl, rfl, SqL.of ez2, atI_nat (j := 0) rfl, _, rfl, b, a, p, pp, rr, nm, ks, zs', rs, rfl, B16, ab, pb, ppb, rrb, zok2 nm List.mem_cons_self, k16 _ _ ab ea15, ok, ksl, k16 _ _ pb ep15, k16 _ _ ppb epp15, zl, zin, k16 _ _ rrb err15, by rw [prs.length_eq]; omega, fun z hz => fin z (prs.mem_iff.mp hz), fun p2 d H17 hd od sd fz sm B17 k17 _ => ?_⟩
        exact q p2 d H17 hd od sd fz sm B17 (((k04.trans k15).trans k16).trans k17)
end
end Fv


set_option Elab.async false
set_option linter.all false
set_option maxRecDepth 100000
set_option maxHeartbeats 4000000
namespace Fv
open PySem PySem.Spec PyProof.Rows L2
abbrev sSpoilt : Stmt := top 59
/-- len of a text or a row -/
def rLenA (K : PySem.W.Frag) : List V → Hp → VK → Prop := fun xs H Q => (∃ p ys, xs = [V.ref p] ∧ (SqL K H p ys ∨ SqT K H p ys) ∧ Q (.int ((ys.length : Nat) : Int)) H) ∨ ∃ z : Str, xs = [.str z] ∧ z.length ≤ sizeLine ∧ Q (.int (z.length : Nat)) H
theorem call_lenA {X : Cx} : CallR X (.builtin "len") (rLenA X.K) := by
  intro pins s σ H xs us Q I r h
  rcases h with ⟨p, ys, rfl, h1, q⟩ | ⟨z, rfl, h1, q⟩
  · exact call_len_seq pins s σ H _ us Q I r ⟨p, ys, rfl, h1, q⟩
  · exact call_len_str pins s σ H _ us Q I r ⟨z, rfl, h1, q⟩
theorem DxAll.set {C : Addr} {H : Hp} {b : Addr} {v : V} {d : PyData} (h : Dx C H b v d) : ∀ {vs : List V} {ds : List PyData} {n : Nat}, DxAll C H b vs ds → DxAll C H b (vs.set n v) (ds.set n d)
  | _, _, _, .nil => .nil
  | _, _, 0, .cons _ t => .cons h t
  | _, _, n + 1, .cons g t => .cons g (DxAll.set h (n := n) t)
theorem DxAll.append {C : Addr} {H : Hp} {b : Addr} : ∀ {vs ws : List V} {ds es : List PyData}, DxAll C H b vs ds → DxAll C H b ws es → DxAll C H b (vs ++ ws) (ds ++ es)
  | _, _, _, _, .nil, k => k
  | _, _, _, _, .cons h t, k => .cons h (DxAll.append t k)
theorem DxAll.take {C : Addr} {H : Hp} {b : Addr} : ∀ {vs : List V} {ds : List PyData} {n : Nat}, DxAll C H b vs ds → DxAll C H b (vs.take n) (ds.take n)
  | _, _, 0, _ => .nil
  | _, _, _ + 1, .nil => .nil
  | _, _, n + 1, .cons h t => .cons h (DxAll.take (n := n) t)
theorem okAll.set {d : PyData} (h : okD d) : ∀ {ds : List PyData} {n : Nat}, okAll ds → okAll (ds.set n d)
  | [], _, _ => True.intro
  | _ :: _, 0, g => ⟨h, g.2⟩
  | _ :: _, n + 1, g => ⟨g.1, okAll.set h (n := n) g.2⟩
theorem okAll.append : ∀ {ds es : List PyData}, okAll ds → okAll es → okAll (ds ++ es)
  | [], _, _, k => k
  | _ :: _, _, g, k => ⟨g.1, okAll.append g.2 k⟩
theorem okAll.take : ∀ {ds : List PyData} {n : Nat}, okAll ds → okAll (ds.take n)
  | _, 0, _ => True.intro
  | [], _ + 1, _ => True.intro
  | _ :: _, n + 1, g => ⟨g.1, okAll.take (n := n) g.2⟩
/-- spoilt at a drawn place: whatever comes -/
def spSpoilt (C : Addr) : Sp := fun vs H Q _ => ∃ (b : Addr) (v u : V) (d o : PyData), vs = [.ref b, v, u] ∧ Bag H b ∧ Dq H b v d ∧ okD d ∧ stD d = true ∧ frozenD d = d ∧ smallSt d ∧ Dx C H b u o ∧ okD o ∧
  ∀ (x : V) (e : PyData) (H' : Hp), Dx C H' b x e → okD e → Bag H' b → Keep b H H' → Q x H'
theorem cut_last (xs : List V) : cutV xs none (some (-1)) = xs.take (xs.length - 1) := by
  unfold cutV
  rw [HT.sIx_none]
  simp only [List.drop_zero, Nat.sub_zero]
  rw [List.take_eq_take_iff]
  unfold HT.sIx
  simp
  omega
theorem st_len {ds : List PyData} (h : stD (.tuple ds) = true) : 1 ≤ ds.length ∧ ds.length ≤ 4 := by
  have sh := st_shape h
  cases sh <;> exact ⟨by simp, by simp⟩
/-- what stands behind the word: a name, or a row of names or of small tuples -/
def smallT (e : PyData) : Prop := (∃ z, e = .str z) ∨ ∃ es, e = .tuple es ∧ ∀ x ∈ es, (∃ z, x = .str z) ∨ ∃ fs, x = .tuple fs ∧ 1 ≤ fs.length ∧ fs.length ≤ 3
theorem small_sets {e : PyData} (h : setsD e = true) (f : fz e = e) : smallT e := by
  have hr := row_sets h
  have ha := sets_all h
  cases e with
  | tuple es =>
    refine .inr ⟨es, rfl, fun x hx => .inr ?_⟩
    obtain ⟨z, y, c, rfl⟩ := trip_shape (List.all_eq_true.mp ha x hx)
    exact ⟨_, rfl, by simp, by simp⟩
  | list es => cases f
  | _ => cases hr
theorem small_parts {e : PyData} (h : partsD e = true) (f : fz e = e) : smallT e := by
  have hr := row_parts h
  have ha := parts_all h
  cases e with
  | tuple es =>
    refine .inr ⟨es, rfl, fun x hx => .inr ?_⟩
    obtain ⟨y, c, rfl⟩ := pair_shape (List.all_eq_true.mp ha x hx)
    exact ⟨_, rfl, by simp, by simp⟩
  | list es => cases f
  | _ => cases hr
theorem small_names {e : PyData} (h : namesD e = true) (f : fz e = e) : smallT e := by
  obtain ⟨hr, ha⟩ := row_names h
  cases e with
  | tuple es => exact .inr ⟨es, rfl, fun x hx => .inl (name_str (List.all_eq_true.mp ha x hx))⟩
  | list es => cases f
  | _ => cases hr
theorem st_items {ds : List PyData} (h : stD (.tuple ds) = true) (f : frozenD (.tuple ds) = .tuple ds) {i : Nat} {e : PyData} (hi : 0 < i) (he : ds[i]? = some e) : smallT e := by
  have fe : fz e = e := fz_fixed (PyData.tuple.inj f) e (List.mem_of_getElem? he)
  have sh := st_shape h
  cases sh with
  | skip =>
    match i, hi with
    | i + 1, _ => cases he
  | set hp =>
    match i, hi with
    | 1, _ => cases he; exact small_sets hp fe
    | i + 2, _ => cases he
  | most _ _ hp _ =>
    match i, hi with
    | 1, _ => cases he; exact .inl ⟨_, rfl⟩
    | 2, _ => cases he; exact small_parts hp fe
    | i + 3, _ => cases he
  | call _ hp hr =>
    match i, hi with
    | 1, _ => cases he; exact .inl ⟨_, rfl⟩
    | 2, _ => cases he; exact small_parts hp fe
    | 3, _ => cases he; exact small_names hr fe
    | i + 4, _ => cases he
theorem ixN_nat {n i : Nat} (h : i < n) : ixN n (i : Int) = some i := by
  unfold ixN
  rw [if_pos (by omega), if_pos (by omega)]
  simp
section
variable {P : Program} {w : World} {K : PySem.W.Frag} {mg : Str → Option Value} {base : Heap} {C : Addr}
abbrev nSp : List Str := ["_law_bag_here", "_law_statement_here", "_law_odd_here", "_law_at", "_law_parts", "_law_inner", "_law_k", "_law_part_here", "_law_style"]
theorem scSp : FnScope nSp ["_law_bag_here", "_law_statement_here", "_law_odd_here"] (defScope sSpoilt) := ⟨rfl, rfl, rfl, by decide +kernel, rfl, by decide +kernel, by decide +kernel⟩
theorem ok_spoilt {f fT : Addr} {fd fdT : FuncData} (F : Fun K "_law_spoilt" "_law_spoilt" sSpoilt f fd)
    (GT : FnOk P w K mg base CX0 1 fT fdT ["_law_bag_here", "_law_many"] spTake) (bT : Binds K fdT ["_law_bag_here", "_law_many"] []) (mT : mg "_law_take" = some (.ref fT)) (kT : PySem.W.keepIn K (.ref fT) = true)
    (mq : mg "isinstance" = none) (mt : mg "tuple" = none) (mL : mg "list" = none) (ml : mg "len" = none) : FnOk P w K mg base CX0 2 f fd ["_law_bag_here", "_law_statement_here", "_law_odd_here"] (spSpoilt C) := by
  refine F.ok scSp (fun vs H Q E h => ?_) (fun cdv A outer s H vs Q E hr h => ?_)
  · obtain ⟨b, v, u, d, o, rfl, _⟩ := h
    rfl
  · obtain ⟨b, v, u, d, o, rfl, B, hd, hs, hst, hfz, hsm, hx, hxo, q⟩ := h
    have hr1 : Room 1 _ := hr.mono (by decide)
    refine ⟨_, pss_cons (ps_par (i := 3) (j := 4) (by rfl) scSp.nd rfl rfl (by decide) rfl rfl (pa_cons (pe_call GT hr1 (by rfl) mT kT bT .nil pass0 (pa_cons (pv 0) (pa_cons (pe_callB call_len_seq (by rfl) ml PySem.boot_len (pa_cons (pv 1) pa_nil)) pa_nil))) (pa_cons (pe_callTy call_list_of (by rfl) mL boot_list (pa_cons (pv 1) pa_nil)) pa_nil)) (by rfl))
      (pss_cons (ps_if (PW.pt (pw_and (pt_cmpR op_gt (pv 3) pe_int (nomark _)) (pw_and (pt_cmpR op_gt (pe_callB (r := rLenA K) call_lenA (by rfl) ml PySem.boot_len (pa_cons (pe_ix ix_list (pv 4) (pv 3) (fun _ _ => rfl)) pa_nil)) pe_int (nomark _))
            (pw_and1 (pt_val (pe_callB call_isi (by rfl) mq (by decide +kernel) (pa_cons (pe_ix ix_list (pv 4) (pv 3) (fun _ _ => rfl)) (pa_cons (pe_bltn (v := .ty "tuple") (by rfl) mt boot_tuple rfl) pa_nil))))))))
          (pss_cons (ps_par (i := 5) (j := 6) (by rfl) scSp.nd rfl rfl (by decide) rfl rfl (pa_cons (pe_callTy call_list_of (by rfl) mL boot_list (pa_cons (pe_ix ix_list (pv 4) (pv 3) (fun _ _ => rfl)) pa_nil)) (pa_cons (pe_call GT hr1 (by rfl) mT kT bT .nil pass0 (pa_cons (pv 0) (pa_cons (pe_callB call_len_seq (by rfl) ml PySem.boot_len (pa_cons (pe_ix ix_list (pv 4) (pv 3) (fun _ _ => rfl)) pa_nil)) pa_nil))) pa_nil)) (by rfl))
          (pss_cons (ps_if (pt_val (pe_callB call_isi (by rfl) mq (by decide +kernel) (pa_cons (pe_ix ix_list (pv 5) (pv 6) (fun _ _ => rfl)) (pa_cons (pe_bltn (v := .ty "tuple") (by rfl) mt boot_tuple rfl) pa_nil))))
              (pss_cons (ps_set (i := 7) scSp.nd rfl (.inl rfl) (pe_callTy call_list_of (by rfl) mL boot_list (pa_cons (pe_ix ix_list (pv 5) (pv 6) (fun _ _ => rfl)) pa_nil)))
              (pss_cons (ps_asg (pv 2) (pg_sub (pv 7) (pe_call GT hr1 (by rfl) mT kT bT .nil pass0 (pa_cons (pv 0) (pa_cons (pe_callB call_len_seq (by rfl) ml PySem.boot_len (pa_cons (pv 7) pa_nil)) pa_nil))) set_list))
              (pss_one (ps_asg (pe_ix ix_list (pe_lst (pa_cons (pe_callTy call_tuple_of (by rfl) mt boot_tuple (pa_cons (pv 7) pa_nil)) (pa_cons (pv 7) (pa_cons (pe_callTy call_tuple_of (by rfl) mt boot_tuple (pa_cons (pe_op op_cat (pv 7) (pe_lst (pa_cons pe_int pa_nil))) pa_nil)) (pa_cons (pe_callTy call_tuple_of (by rfl) mt boot_tuple (pa_cons (pe_slice sl_list (pv 7) po_none (po_some (pe_un un_neg pe_int))) pa_nil)) pa_nil)))))
                  (pe_call GT hr1 (by rfl) mT kT bT .nil pass0 (pa_cons (pv 0) (pa_cons pe_int pa_nil))) (fun _ _ => rfl)) (pg_sub (pv 5) (pv 6) set_list)))))
              (pss_one (ps_asg (pv 2) (pg_sub (pv 5) (pv 6) set_list))))
          (pss_one (ps_asg (pe_ix ix_list (pe_lst (pa_cons (pe_callTy call_tuple_of (by rfl) mt boot_tuple (pa_cons (pv 5) pa_nil)) (pa_cons (pv 5) (pa_cons (pe_op op_cat (pv 5) (pe_slice sl_list (pv 5) po_none (po_some pe_int))) pa_nil))))
              (pe_call GT hr1 (by rfl) mT kT bT .nil pass0 (pa_cons (pv 0) (pa_cons pe_int pa_nil))) (fun _ _ => rfl)) (pg_sub (pv 4) (pv 3) set_list)))))
          (pss_one (ps_asg (pv 2) (pg_sub (pv 4) (pv 3) set_list))))
      (pss_cons (ps_set (i := 8) scSp.nd rfl (.inl rfl) (pe_call GT hr1 (by rfl) mT kT bT .nil pass0 (pa_cons (pv 0) (pa_cons pe_int pa_nil))))
      (pss_cons (ps_if (pt_cmpR op_lt (pv 8) pe_int (nomark _)) (pss_one (ps_ret (pe_callTy call_tuple_of (by rfl) mt boot_tuple (pa_cons (pv 4) pa_nil)))) pss_nil)
      (pss_one (ps_ret (pe_ix ix_list (pe_lst (pa_cons (pv 4) (pa_cons (pe_callTy call_tuple_of (by rfl) mt boot_tuple (pa_cons (pe_op op_cat (pv 4) (pe_lst (pa_cons (pv 2) pa_nil))) pa_nil)) (pa_cons (pe_callTy call_tuple_of (by rfl) mt boot_tuple (pa_cons (pe_slice sl_list (pv 4) po_none (po_some (pe_un un_neg pe_int))) pa_nil)) pa_nil))))
          (pe_op op_sub (pv 8) pe_int) (fun _ _ => rfl))))))), ?_⟩
    obtain ⟨c0, B0⟩ := B
    obtain ⟨ob, hob⟩ := Bag.at_b (BagAt.bag B0)
    obtain ⟨a, xs, ds, rfl, ab, rfl, e1, hxs⟩ := hd.tup_of (st_tup hst)
    have hlen := hxs.len
    obtain ⟨l1, l4⟩ := st_len hst
    have hok : ds.length ≤ 60 ∧ okAll ds := hs
    refine ⟨_, rfl, _, rfl, a, xs, rfl, .inr (SqT.of e1), b, _, rfl, BagAt.bag B0, by omega, by omega, fun k0 H1 hk0 B1 k1 g1 => ?_⟩
    have B1c := g1 _ B0
    refine ⟨_, rfl, a, xs, rfl, .inr (SqT.of (k1 _ _ ab e1)), fun Pa nP => ⟨_, _, rfl, ?_⟩⟩
    obtain ⟨B2, Pb, Pc⟩ := BagAt.new (o := .lst xs) B1c nP
    have nP0 : H Pa = none := by
      cases e : H Pa with
      | none => rfl
      | some o =>
        have := k1 _ _ Pb e
        rw [nP] at this
        cases this
    have k2 : Keep b H (upd H1 Pa (.lst xs)) := k1.trans (Keep.new nP)
    have eP := (upd_same : (upd H1 Pa (.lst xs)) Pa = some (.lst xs))
    generalize upd H1 Pa (.lst xs) = H2 at B2 k2 eP ⊢
    have inP : ∀ {H' : Hp}, Keep b H H' → ∀ c o, c ≠ b → H c = some o → del H' Pa c = some o := fun {H'} kk c o n e => by
      rw [del_ne (ne_of_none e nP0)]
      exact kk c o n e
    dsimp only [gName]
    refine cutK (fun σ' H' => ∃ (y5 y6 y7 y8 : Option V) (xs' : List V) (ds' : List PyData), σ' = [some (.ref b), some (.ref a), some u, some (.int k0), some (.ref Pa), y5, y6, y7, y8] ∧ BagAt H' b c0 ∧ Keep b H H' ∧ H' Pa = some (.lst xs') ∧ DxAll C (del H' Pa) b xs' ds' ∧ okAll ds' ∧ xs'.length = ds.length) ?_ (fun kk => ?_)
    rotate_left
    · have hx2 : DxAll C (del H2 Pa) b xs ds := hxs.x.mono (inP k2)
      have other : ∀ {y5 y6 y7 y8 : Option V}, _ := fun {y5 y6 y7 y8} => kk [some (.ref b), some (.ref a), some u, some (.int k0), some (.ref Pa), y5, y6, y7, y8] (upd H2 Pa (.lst (xs.set k0 u)))
        ⟨y5, y6, y7, y8, xs.set k0 u, ds.set k0 o, rfl, B2.put Pb Pc, (fun c o n e => by rw [upd_ne (ne_of_none e nP0)]; exact k2 c o n e), upd_same, (by rw [del_upd]; exact hx2.set (hx.mono (inP k2))), hok.2.set hxo, by rw [List.length_set]; exact hlen⟩
      have k0l : k0 < xs.length := by omega
      refine ⟨_, rfl, _, _, rfl, rfl, _, rfl, ?_⟩
      by_cases hk : (0 : Int) < (k0 : Nat)
      · rw [decide_eq_true hk]
        have hk1 : 0 < k0 := by omega
        obtain ⟨da, hda⟩ : ∃ da, ds[k0]? = some da := ⟨_, List.getElem?_eq_getElem (by omega)⟩
        obtain ⟨x0, hx0, gx0⟩ := hxs.at_d hda
        have sml := st_items hst hfz hk1 hda
        refine iteT ?_
        rcases sml with ⟨z, rfl⟩ | ⟨es, rfl, hes⟩
        · cases gx0
          refine ⟨_, rfl, _, rfl, Pa, xs, k0, _, rfl, rfl, SqL.of eP, atI_nat hx0, .inr ⟨z, rfl, ?_, _, _, rfl, rfl, _, rfl, ?_⟩⟩
          · have := (show okD (.str z) from hok.2.mem _ (List.mem_of_getElem? hda)).1
            exact small_line this
          by_cases hz : (0 : Int) < (z.length : Nat)
          · rw [decide_eq_true hz]
            refine iteT ⟨_, rfl, _, rfl, Pa, xs, k0, _, rfl, rfl, SqL.of eP, atI_nat hx0, _, _, _, _, _, rfl, .ty "tuple", (Dq.str (H := H2) (b := b) z).ty, kit_tup (.str z), _, rfl, ?_⟩
            exact iteF ⟨_, rfl, _, rfl, _, rfl, Pa, xs, k0, k0, rfl, rfl, eP, ixN_nat k0l, other⟩
          · rw [decide_eq_false hz]
            exact iteF ⟨_, rfl, _, rfl, _, rfl, Pa, xs, k0, k0, rfl, rfl, eP, ixN_nat k0l, other⟩
        · obtain ⟨at2, ys, es', rfl, n2, ee, e2, hys⟩ := gx0.tup_of rfl
          cases ee
          have e22 := k2 _ _ n2 e2
          refine ⟨_, rfl, _, rfl, Pa, xs, k0, _, rfl, rfl, SqL.of eP, atI_nat hx0, .inl ⟨at2, ys, rfl, .inr (SqT.of e22), _, _, rfl, rfl, _, rfl, ?_⟩⟩
          by_cases hz : (0 : Int) < (ys.length : Nat)
          · rw [decide_eq_true hz]
            refine iteT ⟨_, rfl, _, rfl, Pa, xs, k0, _, rfl, rfl, SqL.of eP, atI_nat hx0, _, _, _, _, _, rfl, .ty "tuple", (Dq.tup e22 n2 (hys.mono fun c o n e => k2 c o n e)).ty, kit_tup (.tuple es), _, rfl, ?_⟩
            have el20 : es.length ≤ 20 := hsm.2.2 _ (show PyData.tuple es ∈ ds from List.mem_of_getElem? hda)
            have yl : ys.length = es.length := hys.len
            have hoke : okAll es := (show okD (.tuple es) from hok.2.mem _ (List.mem_of_getElem? hda)).2
            refine iteT ⟨_, rfl, _, rfl, Pa, xs, k0, _, rfl, rfl, SqL.of eP, atI_nat hx0, at2, ys, rfl, .inr (SqT.of e22), fun Ia nI => ?_⟩
            obtain ⟨B3, Ib, Ic⟩ := BagAt.new (o := .lst ys) B2 nI
            have k3 : Keep b H2 (upd H2 Ia (.lst ys)) := Keep.new nI
            have eI3 := (upd_same : (upd H2 Ia (.lst ys)) Ia = some (.lst ys))
            have nI0 : H Ia = none := by
              cases e : H Ia with
              | none => rfl
              | some o =>
                have := k2 _ _ Ib e
                rw [nI] at this
                cases this
            have IP : Pa ≠ Ia := ne_of_none eP nI
            generalize upd H2 Ia (.lst ys) = H3 at B3 k3 eI3 ⊢
            have eP3 := k3 _ _ Pb eP
            refine ⟨_, rfl, _, rfl, _, rfl, Pa, xs, k0, _, rfl, rfl, SqL.of eP3, atI_nat hx0, at2, ys, rfl, .inr (SqT.of (k3 _ _ n2 e22)), b, _, rfl, BagAt.bag B3, by omega, by omega, fun m0 H4 hm0 B4 k4 g4 => ⟨_, _, rfl, ?_⟩⟩
            have B4c := g4 _ B3
            have k24 := k3.trans k4
            have k04 : Keep b H H4 := k2.trans k24
            have eP4 := k24 _ _ Pb eP
            have eI4 := k4 _ _ Ib eI3
            have inQ : ∀ {H' : Hp}, Keep b H H' → ∀ c o, c ≠ b → H c = some o → del (del H' Pa) Ia c = some o := fun {H'} kk c o n e => by
              rw [del_ne (ne_of_none e nI0)]
              exact inP kk c o n e
            have m0l : m0 < ys.length := by omega
            obtain ⟨dy, hdy⟩ : ∃ dy, es[m0]? = some dy := ⟨_, List.getElem?_eq_getElem (by omega)⟩
            obtain ⟨y0, hy0, gy0⟩ := hys.at_d hdy
            dsimp only [gName]
            refine cutK (fun σ' H' => ∃ (y7 y8 : Option V) (ys' : List V) (es' : List PyData), σ' = [some (.ref b), some (.ref a), some u, some (.int k0), some (.ref Pa), some (.ref Ia), some (.int m0), y7, y8] ∧ BagAt H' b c0 ∧ Keep b H H' ∧ H' Pa = some (.lst xs) ∧ H' Ia = some (.lst ys') ∧ DxAll C (del (del H' Pa) Ia) b ys' es' ∧ okAll es' ∧ ys'.length = es.length) ?_ (fun kk2 => ?_)
            rotate_left
            · have put2 : ∀ {y7 y8 : Option V} {H' : Hp} {v : V} {dv : PyData}, BagAt H' b c0 → Keep b H H' → H' Pa = some (.lst xs) → Dx C (del (del H' Pa) Ia) b v dv → okD dv → _ := fun {y7 y8 H' v dv} B' k' ePa hv hvo => kk2 [some (.ref b), some (.ref a), some u, some (.int k0), some (.ref Pa), some (.ref Ia), some (.int m0), y7, y8] (upd H' Ia (.lst (ys.set m0 v)))
                ⟨y7, y8, ys.set m0 v, es.set m0 dv, rfl, B'.put Ib Ic, (fun c o n e => by rw [upd_ne (ne_of_none e nI0)]; exact k' c o n e), (by rw [upd_ne IP]; exact ePa), upd_same, (by
                  have e9 : del (del (upd H' Ia (.lst (ys.set m0 v))) Pa) Ia = del (del H' Pa) Ia := by
                    funext c
                    by_cases hc : c = Ia
                    · rw [hc, del_same, del_same]
                    · rw [del_ne hc, del_ne hc]
                      by_cases hc2 : c = Pa
                      · rw [hc2, del_same, del_same]
                      · rw [del_ne hc2, del_ne hc2, upd_ne hc]
                  rw [e9]
                  exact (hys.x.mono (inQ k')).set hv), hoke.set hvo, by rw [List.length_set]; exact yl⟩
              have hdyok := hoke.mem dy (List.mem_of_getElem? hdy)
              rcases hes dy (List.mem_of_getElem? hdy) with ⟨z, rfl⟩ | ⟨fs, rfl, f1, f3⟩
              · cases gy0
                refine ⟨_, rfl, _, rfl, Ia, ys, m0, _, rfl, rfl, SqL.of eI4, atI_nat hy0, _, _, _, _, _, rfl, .ty "tuple", (Dq.str (H := H4) (b := b) z).ty, kit_tup (.str z), _, rfl, ?_⟩
                exact iteF ⟨_, rfl, _, rfl, _, rfl, Ia, ys, m0, m0, rfl, rfl, eI4, ixN_nat m0l, put2 B4c k04 eP4 (hx.mono (inQ k04)) hxo⟩
              · obtain ⟨at3, ws, fs', rfl, n3, ee, e3, hws⟩ := gy0.tup_of rfl
                cases ee
                have e34 := k04 _ _ n3 e3
                have wl := hws.len
                refine ⟨_, rfl, _, rfl, Ia, ys, m0, _, rfl, rfl, SqL.of eI4, atI_nat hy0, _, _, _, _, _, rfl, .ty "tuple", (Dq.tup e34 n3 (hws.mono fun c o n e => k04 c o n e)).ty, kit_tup (.tuple fs), _, rfl, ?_⟩
                refine iteT ⟨_, rfl, _, rfl, Ia, ys, m0, _, rfl, rfl, SqL.of eI4, atI_nat hy0, at3, ws, rfl, .inr (SqT.of e34), fun PH nH => ?_⟩
                obtain ⟨B5, Hb, Hc⟩ := BagAt.new (o := .lst ws) B4c nH
                have k5 : Keep b H4 (upd H4 PH (.lst ws)) := Keep.new nH
                have eH5 := (upd_same : (upd H4 PH (.lst ws)) PH = some (.lst ws))
                have HP : PH ≠ Pa := (ne_of_none eP4 nH).symm
                have HI : PH ≠ Ia := (ne_of_none eI4 nH).symm
                have nH0 : H PH = none := by
                  cases e : H PH with
                  | none => rfl
                  | some o =>
                    have := k04 _ _ Hb e
                    rw [nH] at this
                    cases this
                generalize upd H4 PH (.lst ws) = H5 at B5 k5 eH5 ⊢
                dsimp only [gName]
                refine ⟨_, rfl, _, rfl, _, rfl, _, rfl, PH, ws, rfl, .inl (SqL.of eH5), b, _, rfl, BagAt.bag B5, by omega, by omega, fun j0 H6 hj0 B6 k6 g6 => ?_⟩
                have B6c := g6 _ B5
                refine ⟨PH, ws, j0, j0, rfl, rfl, k6 _ _ Hb eH5, ixN_nat (by omega), ?_⟩
                have k46 : Keep b H4 H6 := k5.trans k6
                have k7 : Keep b H (upd H6 PH (.lst (ws.set j0 u))) := fun c o n e => by
                  rw [upd_ne (ne_of_none e nH0)]
                  exact (k04.trans k46) c o n e
                have B7 := B6c.put (o := .lst (ws.set j0 u)) Hb Hc
                have eP7 : (upd H6 PH (.lst (ws.set j0 u))) Pa = some (.lst xs) := by rw [upd_ne HP.symm]; exact k46 _ _ Pb eP4
                have eI7 : (upd H6 PH (.lst (ws.set j0 u))) Ia = some (.lst ys) := by rw [upd_ne HI.symm]; exact k46 _ _ Ib eI4
                have eH7 := (upd_same : (upd H6 PH (.lst (ws.set j0 u))) PH = some (.lst (ws.set j0 u)))
                generalize upd H6 PH (.lst (ws.set j0 u)) = H7 at B7 k7 eP7 eI7 eH7 ⊢
                obtain ⟨ph, eph⟩ : ∃ ph, ph = ws.set j0 u := ⟨_, rfl⟩
                obtain ⟨pd, epd⟩ : ∃ pd, pd = fs.set j0 o := ⟨_, rfl⟩
                have hph : ∀ {H' : Hp}, Keep b H H' → DxAll C (del (del H' Pa) Ia) b ph pd := fun {H'} kk' => by
                  rw [eph, epd]
                  exact (hws.x.mono (inQ kk')).set (hx.mono (inQ kk'))
                have hfs : fs.length ≤ 60 ∧ okAll fs := hdyok
                have okp : okAll pd := by rw [epd]; exact hfs.2.set hxo
                have phl : ph.length ≤ 3 := by rw [eph, List.length_set]; omega
                have pdl : pd.length ≤ 3 := by rw [epd, List.length_set]; omega
                rw [← eph] at eH7
                clear eph epd
                refine ⟨_, rfl, PH, ph, rfl, .inl ⟨SqL.of eH7, fun t1 nt1 => ?_⟩⟩
                obtain ⟨B8, t1b, _⟩ := BagAt.new (o := .tup ph) B7 nt1
                have k8 : Keep b H7 (upd H7 t1 (.tup ph)) := Keep.new nt1
                have et1 := (upd_same : (upd H7 t1 (.tup ph)) t1 = some (.tup ph))
                have t1P : t1 ≠ Pa := (ne_of_none eP7 nt1).symm
                have t1I : t1 ≠ Ia := (ne_of_none eI7 nt1).symm
                generalize upd H7 t1 (.tup ph) = H8 at B8 k8 et1 ⊢
                refine ⟨_, rfl, _, rfl, by show 1 ≤ sizeLine; decide, fun z0 nz0 => ?_⟩
                obtain ⟨B9, z0b, _⟩ := BagAt.new (o := .lst [.int 0]) B8 nz0
                have k9 : Keep b H8 (upd H8 z0 (.lst [.int 0])) := Keep.new nz0
                have ez0 := (upd_same : (upd H8 z0 (.lst [.int 0])) z0 = some (.lst [.int 0]))
                generalize upd H8 z0 (.lst [.int 0]) = H9 at B9 k9 ez0 ⊢
                have k79 := k8.trans k9
                refine ⟨PH, z0, ph, [.int 0], rfl, rfl, k79 _ _ Hb eH7, ez0, Nat.le_of_lt (small60 (by show ph.length + 1 ≤ 60; omega)), fun p3 np3 => ?_⟩
                obtain ⟨B10, p3b, _⟩ := BagAt.new (o := .lst (ph ++ [.int 0])) B9 np3
                have k10 : Keep b H9 (upd H9 p3 (.lst (ph ++ [.int 0]))) := Keep.new np3
                have ep3 := (upd_same : (upd H9 p3 (.lst (ph ++ [.int 0]))) p3 = some (.lst (ph ++ [.int 0])))
                generalize upd H9 p3 (.lst (ph ++ [.int 0])) = H10 at B10 k10 ep3 ⊢
                have k710 := k79.trans k10
                refine ⟨p3, _, rfl, .inl ⟨SqL.of ep3, fun t3 nt3 => ?_⟩⟩
                obtain ⟨B11, t3b, _⟩ := BagAt.new (o := .tup (ph ++ [.int 0])) B10 nt3
                have k11 : Keep b H10 (upd H10 t3 (.tup (ph ++ [.int 0]))) := Keep.new nt3
                have et3 := (upd_same : (upd H10 t3 (.tup (ph ++ [.int 0]))) t3 = some (.tup (ph ++ [.int 0])))
                have t3P : t3 ≠ Pa := (ne_of_none (k710 _ _ Pb eP7) nt3).symm
                have t3I : t3 ≠ Ia := (ne_of_none (k710 _ _ Ib eI7) nt3).symm
                generalize upd H10 t3 (.tup (ph ++ [.int 0])) = H11 at B11 k11 et3 ⊢
                have k711 := k710.trans k11
                refine ⟨_, rfl, 1, rfl, _, rfl, PH, ph, rfl, SqL.of (k711 _ _ Hb eH7), fun p4 np4 => ?_⟩
                rw [cut_last]
                obtain ⟨B12, p4b, _⟩ := BagAt.new (o := .lst (ph.take (ph.length - 1))) B11 np4
                have k12 : Keep b H11 (upd H11 p4 (.lst (ph.take (ph.length - 1)))) := Keep.new np4
                have ep4 := (upd_same : (upd H11 p4 (.lst (ph.take (ph.length - 1)))) p4 = some (.lst (ph.take (ph.length - 1))))
                generalize upd H11 p4 (.lst (ph.take (ph.length - 1))) = H12 at B12 k12 ep4 ⊢
                have k712 := k711.trans k12
                refine ⟨p4, _, rfl, .inl ⟨SqL.of ep4, fun t4 nt4 => ?_⟩⟩
                obtain ⟨B13, t4b, _⟩ := BagAt.new (o := .tup (ph.take (ph.length - 1))) B12 nt4
                have k13 : Keep b H12 (upd H12 t4 (.tup (ph.take (ph.length - 1)))) := Keep.new nt4
                have et4 := (upd_same : (upd H12 t4 (.tup (ph.take (ph.length - 1)))) t4 = some (.tup (ph.take (ph.length - 1))))
                have t4P : t4 ≠ Pa := (ne_of_none (k712 _ _ Pb eP7) nt4).symm
                have t4I : t4 ≠ Ia := (ne_of_none (k712 _ _ Ib eI7) nt4).symm
                generalize upd H12 t4 (.tup (ph.take (ph.length - 1))) = H13 at B13 k13 et4 ⊢
                refine ⟨by show 4 ≤ sizeLine; decide, fun W nW => ?_⟩
                obtain ⟨B14, Wb, _⟩ := BagAt.new (o := .lst [.ref t1, .ref PH, .ref t3, .ref t4]) B13 nW
                have k14 : Keep b H13 (upd H13 W (.lst [.ref t1, .ref PH, .ref t3, .ref t4])) := Keep.new nW
                have eW := (upd_same : (upd H13 W (.lst [.ref t1, .ref PH, .ref t3, .ref t4])) W = some (.lst [.ref t1, .ref PH, .ref t3, .ref t4]))
                generalize upd H13 W (.lst [.ref t1, .ref PH, .ref t3, .ref t4]) = H14 at B14 k14 eW ⊢
                refine ⟨_, rfl, b, 4, rfl, BagAt.bag B14, by decide, by decide, fun r H15 hr4 B15 k15 g15 => ?_⟩
                have B15c := g15 _ B14
                have kC : Keep b H13 H15 := k14.trans k15
                have kB : Keep b H11 H15 := (k12.trans k13).trans kC
                have kA : Keep b H7 H15 := k711.trans kB
                have kT := k7.trans kA
                have here : ∀ {q : Addr} {o : HO}, q ≠ Pa → q ≠ Ia → H15 q = some o → del (del H15 Pa) Ia q = some o := fun {q o} h1 h2 h3 => by
                  rw [del_ne h2, del_ne h1]
                  exact h3
                obtain ⟨v, dv, ev, hv, hvo⟩ : ∃ (v : V) (dv : PyData), ([.ref t1, .ref PH, .ref t3, .ref t4] : List V)[r]? = some v ∧ Dx C (del (del H15 Pa) Ia) b v dv ∧ okD dv := by
                  have h4 : r < 4 := by omega
                  match r, h4 with
                  | 0, _ => exact ⟨_, .tuple pd, rfl, .tup (here t1P t1I ((((k9.trans k10).trans k11).trans kB) _ _ t1b et1)) t1b (hph kT), by omega, okp⟩
                  | 1, _ => exact ⟨_, .list pd, rfl, .lst (here HP HI (kA _ _ Hb eH7)) Hb (hph kT), by omega, okp⟩
                  | 2, _ => exact ⟨_, .tuple (pd ++ [.int 0]), rfl, .tup (here t3P t3I (kB _ _ t3b et3)) t3b ((hph kT).append (.cons (.int 0) .nil)), by rw [List.length_append]; show pd.length + 1 ≤ 60; omega, okp.append (es := [.int 0]) ⟨True.intro, True.intro⟩⟩
                  | 3, _ => exact ⟨_, .tuple (pd.take (ph.length - 1)), rfl, .tup (here t4P t4I (kC _ _ t4b et4)) t4b (hph kT).take, by rw [List.length_take]; omega, okp.take⟩
                refine ⟨W, _, r, v, rfl, rfl, SqL.of (k15 _ _ Wb eW), atI_nat ev, _, rfl, _, rfl, Ia, ys, m0, m0, rfl, rfl, kA _ _ Ib eI7, ixN_nat m0l, ?_⟩
                exact put2 B15c kT (kA _ _ Pb eP7) hv hvo
            rintro σ' H5 ⟨y7, y8, ys', es', rfl, B5, k5, eP5, eI5, hx5, ok5, len5⟩
            have es5 := hx5.len
            refine ⟨_, rfl, Ia, ys', rfl, .inl ⟨SqL.of eI5, fun t1 nt1 => ?_⟩⟩
            obtain ⟨B6, t1b, _⟩ := BagAt.new (o := .tup ys') B5 nt1
            have k6 : Keep b H5 (upd H5 t1 (.tup ys')) := Keep.new nt1
            have et1 := (upd_same : (upd H5 t1 (.tup ys')) t1 = some (.tup ys'))
            have t1P : t1 ≠ Pa := (ne_of_none eP5 nt1).symm
            generalize upd H5 t1 (.tup ys') = H6 at B6 k6 et1 ⊢
            have ec : cutV ys' none (some 1) = ys'.take 1 := cut_to ys' 1
            refine ⟨_, rfl, _, rfl, _, rfl, _, rfl, Ia, ys', rfl, SqL.of (k6 _ _ Ib eI5), fun p2 np2 => ?_⟩
            rw [ec]
            obtain ⟨B7, p2b, _⟩ := BagAt.new (o := .lst (ys'.take 1)) B6 np2
            have k7 : Keep b H6 (upd H6 p2 (.lst (ys'.take 1))) := Keep.new np2
            have ep2 := (upd_same : (upd H6 p2 (.lst (ys'.take 1))) p2 = some (.lst (ys'.take 1)))
            generalize upd H6 p2 (.lst (ys'.take 1)) = H7 at B7 k7 ep2 ⊢
            have k57 := k6.trans k7
            refine ⟨Ia, p2, ys', ys'.take 1, rfl, rfl, k57 _ _ Ib eI5, ep2, Nat.le_of_lt (small60 (by rw [List.length_take]; omega)), fun p3 np3 => ?_⟩
            obtain ⟨B8, p3b, _⟩ := BagAt.new (o := .lst (ys' ++ ys'.take 1)) B7 np3
            have k8 : Keep b H7 (upd H7 p3 (.lst (ys' ++ ys'.take 1))) := Keep.new np3
            have ep3 := (upd_same : (upd H7 p3 (.lst (ys' ++ ys'.take 1))) p3 = some (.lst (ys' ++ ys'.take 1)))
            have p3P : p3 ≠ Pa := (ne_of_none (k57 _ _ Pb eP5) np3).symm
            generalize upd H7 p3 (.lst (ys' ++ ys'.take 1)) = H8 at B8 k8 ep3 ⊢
            refine ⟨by show 3 ≤ sizeLine; decide, fun W nW => ?_⟩
            obtain ⟨B9, Wb, _⟩ := BagAt.new (o := .lst [.ref t1, .ref Ia, .ref p3]) B8 nW
            have k9 : Keep b H8 (upd H8 W (.lst [.ref t1, .ref Ia, .ref p3])) := Keep.new nW
            have eW := (upd_same : (upd H8 W (.lst [.ref t1, .ref Ia, .ref p3])) W = some (.lst [.ref t1, .ref Ia, .ref p3]))
            generalize upd H8 W (.lst [.ref t1, .ref Ia, .ref p3]) = H9 at B9 k9 eW ⊢
            refine ⟨_, rfl, b, 3, rfl, BagAt.bag B9, by decide, by decide, fun r H10 hr3 B10 k10 g10 => ?_⟩
            have B10c := g10 _ B9
            have kC : Keep b H8 H10 := k9.trans k10
            have kB : Keep b H6 H10 := (k7.trans k8).trans kC
            have kA : Keep b H5 H10 := k6.trans kB
            have kT := k5.trans kA
            have here : ∀ {q : Addr} {o : HO}, q ≠ Pa → H10 q = some o → del H10 Pa q = some o := fun {q o} h1 h3 => by
              rw [del_ne h1]
              exact h3
            have hxA : DxAll C (del H10 Pa) b ys' es' := hx5.mono fun c o n e => by
              have e2 := del_sub _ _ e
              have nP : c ≠ Pa := fun z => by
                rw [z, del_same] at e2
                cases e2
              rw [del_ne nP]
              exact kA _ _ n (del_sub _ _ e2)
            obtain ⟨v, dv, ev, hv, hvo⟩ : ∃ (v : V) (dv : PyData), ([.ref t1, .ref Ia, .ref p3] : List V)[r]? = some v ∧ Dx C (del H10 Pa) b v dv ∧ okD dv := by
              have h3 : r < 3 := by omega
              match r, h3 with
              | 0, _ => exact ⟨_, .tuple es', rfl, .tup (here t1P (kB _ _ t1b et1)) t1b hxA, by omega, ok5⟩
              | 1, _ => exact ⟨_, .list es', rfl, .lst (here IP.symm (kA _ _ Ib eI5)) Ib hxA, by omega, ok5⟩
              | 2, _ => exact ⟨_, .list (es' ++ es'.take 1), rfl, .lst (here p3P (kC _ _ p3b ep3)) p3b (hxA.append hxA.take), by rw [List.length_append, List.length_take]; omega, ok5.append ok5.take⟩
            refine ⟨W, _, r, v, rfl, rfl, SqL.of (k10 _ _ Wb eW), atI_nat ev, _, rfl, _, rfl, Pa, xs, k0, k0, rfl, rfl, kA _ _ Pb eP5, ixN_nat k0l, ?_⟩
            exact kk _ _ ⟨_, _, _, _, xs.set k0 v, ds.set k0 dv, rfl, B10c.put Pb Pc, (fun c o n e => by rw [upd_ne (ne_of_none e nP0)]; exact kT c o n e), upd_same, (by rw [del_upd]; exact (hxs.x.mono (inP kT)).set hv), hok.2.set hvo, by rw [List.length_set]; exact hlen⟩
          · rw [decide_eq_false hz]
            exact iteF ⟨_, rfl, _, rfl, _, rfl, Pa, xs, k0, k0, rfl, rfl, eP, ixN_nat k0l, other⟩
      · rw [decide_eq_false hk]
        refine iteF ?_
        exact ⟨_, rfl, _, rfl, _, rfl, Pa, xs, k0, k0, rfl, rfl, eP, ixN_nat k0l, other⟩
    rintro σ' H3 ⟨y5, y6, y7, y8, xs', ds', rfl, B3, k3, eP3, hx3, ok3, len3⟩
    have dlen : ds'.length = ds.length := by rw [← hx3.len, len3]
    refine ⟨_, rfl, b, 6, rfl, BagAt.bag B3, by decide, by decide, fun st H4 h4 B4 k4 g4 => ?_⟩
    have B4c := g4 _ B3
    have k04 := k3.trans k4
    have eP4 := k4 _ _ Pb eP3
    have sub4 : ∀ {H' : Hp}, Keep b H4 H' → ∀ c o, c ≠ b → del H3 Pa c = some o → H' c = some o := fun {H'} kk c o n e => kk _ _ n (k4 _ _ n (del_sub c o e))
    dsimp only [gName]
    refine ⟨_, rfl, _, _, rfl, rfl, _, rfl, ite2 (fun hst3 => ?_) (fun hst3 => ?_)⟩
    · refine ⟨_, rfl, Pa, xs', rfl, .inl ⟨SqL.of eP4, fun l nl => ?_⟩⟩
      obtain ⟨B5, lb, _⟩ := BagAt.new (o := .tup xs') B4c nl
      have k5 : Keep b H4 (upd H4 l (.tup xs')) := Keep.new nl
      exact q (.ref l) (.tuple ds') _ (.tup upd_same lb (hx3.mono (sub4 k5))) ⟨by omega, ok3⟩ (BagAt.bag B5) (k04.trans k5)
    · refine ⟨_, rfl, _, rfl, _, rfl, by show 1 ≤ sizeLine; decide, fun l1 nl1 => ?_⟩
      obtain ⟨B5, l1b, _⟩ := BagAt.new (o := .lst [u]) B4c nl1
      have k5 : Keep b H4 (upd H4 l1 (.lst [u])) := Keep.new nl1
      have e15 := (upd_same : (upd H4 l1 (.lst [u])) l1 = some (.lst [u]))
      generalize upd H4 l1 (.lst [u]) = H5 at B5 k5 e15 ⊢
      refine ⟨Pa, l1, xs', [u], rfl, rfl, k5 _ _ Pb eP4, e15, ?_, fun p np => ?_⟩
      · rw [len3]
        exact Nat.le_of_lt (small60 (by show ds.length + 1 ≤ 60; omega))
      obtain ⟨B6, pb, _⟩ := BagAt.new (o := .lst (xs' ++ [u])) B5 np
      have k6 : Keep b H5 (upd H5 p (.lst (xs' ++ [u]))) := Keep.new np
      have ep6 := (upd_same : (upd H5 p (.lst (xs' ++ [u]))) p = some (.lst (xs' ++ [u])))
      generalize upd H5 p (.lst (xs' ++ [u])) = H6 at B6 k6 ep6 ⊢
      refine ⟨p, _, rfl, .inl ⟨SqL.of ep6, fun t1 nt1 => ?_⟩⟩
      obtain ⟨B7, t1b, _⟩ := BagAt.new (o := .tup (xs' ++ [u])) B6 nt1
      have k7 : Keep b H6 (upd H6 t1 (.tup (xs' ++ [u]))) := Keep.new nt1
      have et7 := (upd_same : (upd H6 t1 (.tup (xs' ++ [u]))) t1 = some (.tup (xs' ++ [u])))
      generalize upd H6 t1 (.tup (xs' ++ [u])) = H7 at B7 k7 et7 ⊢
      have k47 := (k5.trans k6).trans k7
      refine ⟨_, rfl, 1, rfl, _, rfl, Pa, xs', rfl, SqL.of (k47 _ _ Pb eP4), fun p2 np2 => ?_⟩
      rw [cut_last]
      obtain ⟨B8, p2b, _⟩ := BagAt.new (o := .lst (xs'.take (xs'.length - 1))) B7 np2
      have k8 : Keep b H7 (upd H7 p2 (.lst (xs'.take (xs'.length - 1)))) := Keep.new np2
      have ep8 := (upd_same : (upd H7 p2 (.lst (xs'.take (xs'.length - 1)))) p2 = some (.lst (xs'.take (xs'.length - 1))))
      generalize upd H7 p2 (.lst (xs'.take (xs'.length - 1))) = H8 at B8 k8 ep8 ⊢
      refine ⟨p2, _, rfl, .inl ⟨SqL.of ep8, fun t2 nt2 => ?_⟩⟩
      obtain ⟨B9, t2b, _⟩ := BagAt.new (o := .tup (xs'.take (xs'.length - 1))) B8 nt2
      have k9 : Keep b H8 (upd H8 t2 (.tup (xs'.take (xs'.length - 1)))) := Keep.new nt2
      have et9 := (upd_same : (upd H8 t2 (.tup (xs'.take (xs'.length - 1)))) t2 = some (.tup (xs'.take (xs'.length - 1))))
      generalize upd H8 t2 (.tup (xs'.take (xs'.length - 1))) = H9 at B9 k9 et9 ⊢
      refine ⟨by show 3 ≤ sizeLine; decide, fun W nW => ?_⟩
      obtain ⟨B10, Wb, _⟩ := BagAt.new (o := .lst [.ref Pa, .ref t1, .ref t2]) B9 nW
      have k10 : Keep b H9 (upd H9 W (.lst [.ref Pa, .ref t1, .ref t2])) := Keep.new nW
      have eW := (upd_same : (upd H9 W (.lst [.ref Pa, .ref t1, .ref t2])) W = some (.lst [.ref Pa, .ref t1, .ref t2]))
      generalize upd H9 W (.lst [.ref Pa, .ref t1, .ref t2]) = H10 at B10 k10 eW ⊢
      have k810 := (k8.trans k9).trans k10
      have k410 := k47.trans k810
      have kAll := k04.trans k410
      have hx10 := hx3.mono (sub4 k410)
      have hu10 := hx.mono kAll
      have h35 : st = 3 ∨ st = 4 ∨ st = 5 := by
        have : ¬ (st : Int) < 3 := fun z => hst3 (decide_eq_true z)
        omega
      rcases h35 with rfl | rfl | rfl
      · refine ⟨_, rfl, _, _, rfl, rfl, W, _, _, .ref Pa, rfl, rfl, SqL.of eW, rfl, ?_⟩
        exact q (.ref Pa) (.list ds') _ (.lst (k410 _ _ Pb eP4) Pb hx10) ⟨by omega, ok3⟩ (BagAt.bag B10) kAll
      · refine ⟨_, rfl, _, _, rfl, rfl, W, _, _, .ref t1, rfl, rfl, SqL.of eW, rfl, ?_⟩
        exact q (.ref t1) (.tuple (ds' ++ [o])) _ (.tup (k810 _ _ t1b et7) t1b (hx10.append (.cons hu10 .nil))) ⟨by rw [List.length_append]; show ds'.length + 1 ≤ 60; omega, ok3.append ⟨hxo, True.intro⟩⟩ (BagAt.bag B10) kAll
      · refine ⟨_, rfl, _, _, rfl, rfl, W, _, _, .ref t2, rfl, rfl, SqL.of eW, rfl, ?_⟩
        exact q (.ref t2) (.tuple (ds'.take (xs'.length - 1))) _ (.tup (k10 _ _ t2b et9) t2b hx10.take) ⟨by rw [List.length_take]; omega, ok3.take⟩ (BagAt.bag B10) kAll
end
end Fv


set_option Elab.async false
set_option linter.all false
set_option maxRecDepth 100000
set_option maxHeartbeats 2000000
namespace Fv
open PySem PySem.Spec PyProof.Rows L2
/-! ### data of few and short leaves: shown and compared at once -/
structure Sm (n W : Nat) (d : PyData) : Prop where
  sh : d.showable = true
  ls : PyData.leavesShort 90 d = true
  cl : d.canLay0 = true
  dp : d.depth ≤ n
  wt : d.weight ≤ W
theorem Sm.all {n W : Nat} : ∀ {es : List PyData}, (∀ e ∈ es, Sm n W e) → PyData.showableAll es = true ∧ PyData.leavesShortAll 90 es = true ∧ PyData.canLayAll0 es = true ∧ PyData.depthAll es ≤ n ∧ PyData.weightAll es ≤ es.length * (W + 1)
  | [], _ => ⟨by simp [PyData.showableAll], by simp [PyData.leavesShortAll], by simp [PyData.canLayAll0], by simp [PyData.depthAll], by simp [PyData.weightAll]⟩
  | e :: es, h => by
    have h1 := h e List.mem_cons_self
    obtain ⟨a, b, c, d, w⟩ := Sm.all fun x hx => h x (List.mem_cons_of_mem _ hx)
    refine ⟨by rw [PyData.showableAll, h1.sh, a]; rfl, by rw [PyData.leavesShortAll, h1.ls, b]; rfl, by rw [PyData.canLayAll0, h1.cl, c]; rfl, by rw [PyData.depthAll]; exact Nat.max_le.mpr ⟨h1.dp, d⟩, ?_⟩
    rw [PyData.weightAll, List.length_cons, Nat.add_mul]
    have := h1.wt
    omega
theorem Sm.tup {n W L : Nat} {es : List PyData} (h : ∀ e ∈ es, Sm n W e) (hl : es.length ≤ L) : Sm (n + 1) (L * (W + 1)) (.tuple es) := by
  obtain ⟨a, b, c, d, w⟩ := Sm.all h
  exact ⟨by rw [PyData.showable]; exact a, by rw [PyData.leavesShort]; exact b, by rw [PyData.canLay0]; exact c, by rw [PyData.depth]; exact Nat.succ_le_succ d, by rw [PyData.weight]; exact Nat.le_trans w (Nat.mul_le_mul_right _ hl)⟩
theorem Sm.lst {n W L : Nat} {es : List PyData} (h : ∀ e ∈ es, Sm n W e) (hl : es.length ≤ L) : Sm (n + 1) (L * (W + 1)) (.list es) := by
  obtain ⟨a, b, c, d, w⟩ := Sm.all h
  exact ⟨by rw [PyData.showable]; exact a, by rw [PyData.leavesShort]; exact b, by rw [PyData.canLay0]; exact c, by rw [PyData.depth]; exact Nat.succ_le_succ d, by rw [PyData.weight]; exact Nat.le_trans w (Nat.mul_le_mul_right _ hl)⟩
theorem Sm.mono {n W m V : Nat} {d : PyData} (h : Sm n W d) (hn : n ≤ m) (hw : W ≤ V) : Sm m V d := ⟨h.sh, h.ls, h.cl, Nat.le_trans h.dp hn, Nat.le_trans h.wt hw⟩
theorem nat_len {n k : Nat} (hk : 1 ≤ k) (h : n < 10 ^ k) : (toString n).length ≤ k := by
  rw [Nat.toString_eq_ofList_toDigits, String.length_ofList]
  exact toDigits_len_pow (by decide) hk h
theorem ilen {i : Int} {k : Nat} (hk : 1 ≤ k) (h : i.natAbs < 10 ^ k) : (PyData.int i).shown.length ≤ k + 1 := by
  rw [PyData.shown_int, PySem.ofString_length]
  cases i with
  | ofNat n =>
    show (toString n).length ≤ _
    have := nat_len hk (show n < 10 ^ k from h)
    omega
  | negSucc n =>
    show ("-" ++ toString (n + 1)).length ≤ _
    rw [String.length_append]
    have := nat_len hk (show n + 1 < 10 ^ k from h)
    have e : ("-" : String).length = 1 := by decide +kernel
    omega
/-- a short ascii text, an integer of at most forty digits -/
def F0 : PyData → Prop
  | .str z => z.length ≤ 8 ∧ ∀ c ∈ z.cps.toList, c < 128
  | .int i => -(10 ^ 39) ≤ i ∧ i ≤ 10 ^ 39
  | _ => False
theorem F0.sm {d : PyData} (h : F0 d) : Sm 0 140 d := by
  cases d with
  | str z =>
    obtain ⟨l, c⟩ := h
    refine ⟨by rw [PyData.showable], ?_, ?_, by simp [PyData.depth], by rw [PyData.weight]; show z.length ≤ 140; omega⟩
    · rw [PyData.leavesShort, List.all_eq_true]
      exact fun x hx => decide_eq_true (Nat.lt_of_lt_of_le (c x hx) (by decide))
    · rw [PyData.canLay0]
      unfold PyData.strOk
      rw [← Array.all_toList, List.all_eq_true]
      exact fun x hx => decide_eq_true (Nat.lt_of_lt_of_le (c x hx) (by decide))
  | int i =>
    obtain ⟨l, u⟩ := h
    have hn : i.natAbs ≤ 10 ^ 39 := by
      have e : ((10 ^ 39 : Nat) : Int) = 10 ^ 39 := by decide
      omega
    have h2 : i.natAbs < 2 ^ 130 := Nat.lt_of_le_of_lt hn (by decide)
    have hl : i.natAbs.log2 < 130 := by
      by_cases z : i.natAbs = 0
      · rw [z]; decide
      · exact (Nat.log2_lt z).mpr h2
    refine ⟨by rw [PyData.showable]; exact decide_eq_true (by omega), ?_, by rw [PyData.canLay0], by simp [PyData.depth], ?_⟩
    · rw [PyData.leavesShort]
      have := ilen (i := i) (k := 40) (by decide) (Nat.lt_of_le_of_lt hn (by decide))
      exact decide_eq_true (by omega)
    · rw [PyData.weight]
      split <;> omega
  | _ => exact h.elim
def F1 (d : PyData) : Prop := F0 d ∨ ∃ es, (d = .tuple es ∨ d = .list es) ∧ es.length ≤ 3 ∧ ∀ e ∈ es, F0 e
def F2 (d : PyData) : Prop := F0 d ∨ ∃ es, (d = .tuple es ∨ d = .list es) ∧ es.length ≤ 20 ∧ ∀ e ∈ es, F1 e
def F3 (d : PyData) : Prop := ∃ es, (d = .tuple es ∨ d = .list es) ∧ es.length ≤ 4 ∧ ∀ e ∈ es, F2 e
theorem F1.sm {d : PyData} (h : F1 d) : Sm 1 423 d := by
  rcases h with h | ⟨es, rfl | rfl, l, h⟩
  · exact h.sm.mono (by decide) (by decide)
  · exact Sm.tup (fun e he => (h e he).sm) l
  · exact Sm.lst (fun e he => (h e he).sm) l
theorem F2.sm {d : PyData} (h : F2 d) : Sm 2 8480 d := by
  rcases h with h | ⟨es, rfl | rfl, l, h⟩
  · exact h.sm.mono (by decide) (by decide)
  · exact Sm.tup (fun e he => (h e he).sm) l
  · exact Sm.lst (fun e he => (h e he).sm) l
theorem F3.sm {d : PyData} (h : F3 d) : Sm 3 33924 d := by
  rcases h with ⟨es, rfl | rfl, l, h⟩
  · exact Sm.tup (fun e he => (h e he).sm) l
  · exact Sm.lst (fun e he => (h e he).sm) l
structure Wide (d : PyData) : Prop where
  show_ : d.showable = true
  line : d.shown.length ≤ sizeLine
  low : d.depth ≤ 20
  shape : SeqAt.shaped d = true
theorem Sm.wide {n W : Nat} {d : PyData} (h : Sm n W d) (hn : n ≤ 20) (hw : W ≤ 100000) : Wide d := by
  have := PyData.shown_le 90 (by decide) d h.ls
  have hd := h.dp
  have hwt := h.wt
  refine ⟨h.sh, ?_, by omega, ?_⟩
  · have hs : sizeLine = 16777216 := by decide
    omega
  · unfold SeqAt.shaped
    rw [h.cl, Bool.true_and]
    exact decide_eq_true (by omega)
theorem F3.wide {d : PyData} (h : F3 d) : Wide d := h.sm.wide (by decide) (by decide)
theorem Wide.bool (x : Bool) : Wide (.bool x) := by
  have e1 : (PyData.bool x).depth = 0 := by rw [PyData.depth]
  refine ⟨by rw [PyData.showable], ?_, by rw [e1]; decide, ?_⟩
  · cases x <;> decide +kernel
  · unfold SeqAt.shaped
    rw [e1, PyData.canLay0]
    decide
/-! ### drawn statements -/
theorem F0.nm {z : Str} (h : NmOk z) : F0 (.str z) := ⟨h.2.1, fun c hc => abc_small c (h.2.2 c hc)⟩
theorem F0.name {z : Str} (h : nameD (.str z) = true) : F0 (.str z) := F0.nm (nm_of h)
theorem F0.src {z : Str} (h : sourceD (.str z) = true) : F0 (.str z) := by
  rcases Bool.or_eq_true_iff.mp h with h | h
  · exact F0.name h
  · have hl : z.length = 0 := of_decide_eq_true h
    refine ⟨by omega, fun c hc => ?_⟩
    rw [← len_list] at hl
    rw [List.eq_nil_of_length_eq_zero hl] at hc
    cases hc
theorem F2.lf {d : PyData} (h : F0 d) : F2 d := .inl h
theorem F2.row {d : PyData} (hr : rowD d = true) (hl : (itemsD d).length ≤ 20) (h : ∀ e ∈ itemsD d, F1 e) : F2 d := by
  cases d with
  | list l => exact .inr ⟨l, .inr rfl, hl, h⟩
  | tuple l => exact .inr ⟨l, .inl rfl, hl, h⟩
  | _ => cases hr
theorem w_skip : F0 (.str "skip") := ⟨by decide, by decide⟩
theorem w_set : F0 (.str "set") := ⟨by decide, by decide⟩
theorem w_most : F0 (.str "most") := ⟨by decide, by decide⟩
theorem w_least : F0 (.str "least") := ⟨by decide, by decide⟩
theorem w_call : F0 (.str "call") := ⟨by decide, by decide⟩
theorem w_none : F0 (.str "none") := ⟨by decide, by decide⟩
theorem pair_F1 {e : PyData} (h : pairD e = true) (hc : -(10 ^ 39) ≤ lastI e ∧ lastI e ≤ 10 ^ 39) : F1 e := by
  obtain ⟨y, c, rfl⟩ := pair_shape h
  have h1 : sourceD (.str y) = true := by
    have : (sourceD (.str y) && intD (.int c)) = true := h
    exact (Bool.and_eq_true_iff.mp this).1
  exact .inr ⟨_, .inl rfl, by show 2 ≤ 3; decide, fun e he => by
    rcases List.mem_cons.mp he with rfl | he
    · exact F0.src h1
    · rw [List.mem_singleton.mp he]
      exact hc⟩
theorem trip_F1 {e : PyData} (h : tripD e = true) (hc : -(10 ^ 39) ≤ lastI e ∧ lastI e ≤ 10 ^ 39) : F1 e := by
  obtain ⟨x, y, c, rfl⟩ := trip_shape h
  have h1 : nameD (.str x) = true ∧ sourceD (.str y) = true := by
    have : (nameD (.str x) && sourceD (.str y) && intD (.int c)) = true := h
    have := (Bool.and_eq_true_iff.mp this).1
    exact Bool.and_eq_true_iff.mp this
  exact .inr ⟨_, .inl rfl, by show 3 ≤ 3; decide, fun e he => by
    rcases List.mem_cons.mp he with rfl | he
    · exact F0.name h1.1
    rcases List.mem_cons.mp he with rfl | he
    · exact F0.src h1.2
    · rw [List.mem_singleton.mp he]
      exact hc⟩
theorem F3.st {d : PyData} (hst : stD d = true) (sm : smallSt d) : F3 d := by
  obtain ⟨s1, s2, s3⟩ := sm
  have sh := st_shape hst
  cases sh with
  | skip => exact ⟨_, .inl rfl, by show 1 ≤ 4; decide, fun e he => by rw [List.mem_singleton.mp he]; exact .inl w_skip⟩
  | @set zp hp =>
    refine ⟨_, .inl rfl, by show 2 ≤ 4; decide, fun e he => ?_⟩
    rcases List.mem_cons.mp he with rfl | he
    · exact .inl w_set
    · rw [List.mem_singleton.mp he]
      exact F2.row (row_sets hp) s1 fun x hx => trip_F1 (List.all_eq_true.mp (sets_all hp) x hx) (s2 x hx)
  | @most zw zx zp hw h2 h3 h4 =>
    refine ⟨_, .inl rfl, by show 3 ≤ 4; decide, fun e he => ?_⟩
    rcases List.mem_cons.mp he with rfl | he
    · rcases hw with rfl | rfl
      · exact .inl w_most
      · exact .inl w_least
    rcases List.mem_cons.mp he with rfl | he
    · exact .inl (F0.name h2)
    · rw [List.mem_singleton.mp he]
      exact F2.row (row_parts h3) s1 fun x hx => pair_F1 (List.all_eq_true.mp (parts_all h3) x hx) (s2 x hx)
  | @call zx zp zr h2 h3 h4 =>
    refine ⟨_, .inl rfl, by show 4 ≤ 4; decide, fun e he => ?_⟩
    rcases List.mem_cons.mp he with rfl | he
    · exact .inl w_call
    rcases List.mem_cons.mp he with rfl | he
    · exact .inl (F0.name h2)
    rcases List.mem_cons.mp he with rfl | he
    · exact F2.row (row_parts h3) s1 fun x hx => pair_F1 (List.all_eq_true.mp (parts_all h3) x hx) (s2 x hx)
    · rw [List.mem_singleton.mp he]
      obtain ⟨hrw, hall⟩ := row_names h4
      refine F2.row hrw (s3 zr (by show zr ∈ [PyData.str "call", .str zx, zp, zr]; simp)) fun x hx => ?_
      obtain ⟨z, rfl⟩ := name_str (List.all_eq_true.mp hall x hx)
      exact .inl (F0.name (List.all_eq_true.mp hall _ hx))
theorem F2.fz {d : PyData} (h : F2 (fz d)) : F2 d := by
  cases d with
  | list l =>
    rcases h with h | ⟨es, e, hl, h⟩
    · exact h.elim
    · rcases e with e | e
      · cases e
        exact .inr ⟨_, .inr rfl, hl, h⟩
      · cases e
  | _ => exact h
theorem F3.loose {d' d : PyData} (ht : isTupD d' = true) (h : F3 d) (e : frozenD d' = d) : F3 d' := by
  cases d' with
  | tuple ds =>
    subst e
    obtain ⟨es, ee, hl, h⟩ := h
    rcases ee with ee | ee
    · cases ee
      rw [List.length_map] at hl
      exact ⟨ds, .inl rfl, hl, fun x hx => F2.fz (h _ (List.mem_map_of_mem hx))⟩
    · cases ee
  | _ => cases ht
theorem F1.last {e : PyData} {c : Int} (h : F1 e) (hc : F0 (.int c)) : F1 (lastSet c e) := by
  unfold lastSet
  split
  · rename_i y x
    rcases h with h | ⟨es, ee, hl, h⟩
    · exact h.elim
    · rcases ee with ee | ee
      · cases ee
        exact .inr ⟨_, .inl rfl, hl, fun z hz => by
          rcases List.mem_cons.mp hz with rfl | hz
          · exact h _ List.mem_cons_self
          · rw [List.mem_singleton.mp hz]
            exact hc⟩
      · cases ee
  · rename_i y x v
    rcases h with h | ⟨es, ee, hl, h⟩
    · exact h.elim
    · rcases ee with ee | ee
      · cases ee
        exact .inr ⟨_, .inl rfl, hl, fun z hz => by
          rcases List.mem_cons.mp hz with rfl | hz
          · exact h _ List.mem_cons_self
          rcases List.mem_cons.mp hz with rfl | hz
          · exact h _ (List.mem_cons_of_mem _ List.mem_cons_self)
          · rw [List.mem_singleton.mp hz]
            exact hc⟩
      · cases ee
  · exact h
theorem F2.put {p : PyData} {k : Nat} {c : Int} (h : F2 p) (hc : F0 (.int c)) : F2 (.tuple ((itemsD p).mapIdx (chg k c))) := by
  have key : (itemsD p).length ≤ 20 ∧ ∀ e ∈ itemsD p, F1 e := by
    rcases h with h | ⟨es, ee, hl, h⟩
    · cases p <;> first | exact h.elim | exact ⟨Nat.zero_le _, fun e he => by cases he⟩
    · rw [rows_items ee]
      exact ⟨hl, h⟩
  refine .inr ⟨_, .inl rfl, by rw [List.length_mapIdx]; exact key.1, fun e he => ?_⟩
  obtain ⟨i, hi, rfl⟩ := List.mem_mapIdx.mp he
  have := key.2 _ (List.getElem_mem hi)
  unfold chg
  split
  · exact this.last hc
  · exact this
theorem F3.put {d : PyData} {k : Nat} {c : Int} (h : F3 d) (hc : F0 (.int c)) : F3 (putD k c d) := by
  unfold putD
  split
  · rename_i w p
    obtain ⟨es, ee, hl, h⟩ := h
    rcases ee with ee | ee
    · cases ee
      exact ⟨_, .inl rfl, hl, fun z hz => by
        rcases List.mem_cons.mp hz with rfl | hz
        · exact h _ List.mem_cons_self
        · rw [List.mem_singleton.mp hz]
          exact (h p (List.mem_cons_of_mem _ List.mem_cons_self)).put hc⟩
    · cases ee
  · rename_i w x p r
    obtain ⟨es, ee, hl, h⟩ := h
    rcases ee with ee | ee
    · cases ee
      exact ⟨_, .inl rfl, hl, fun z hz => by
        rcases List.mem_cons.mp hz with rfl | hz
        · exact h _ List.mem_cons_self
        rcases List.mem_cons.mp hz with rfl | hz
        · exact h _ (List.mem_cons_of_mem _ List.mem_cons_self)
        rcases List.mem_cons.mp hz with rfl | hz
        · exact (h p (by simp)).put hc
        · exact h _ (List.mem_cons_of_mem _ (List.mem_cons_of_mem _ (List.mem_cons_of_mem _ hz)))⟩
    · cases ee
  · exact h
def spAlike2 : Sp := fun vs H Q _ => ∃ (b : Addr) (x y : V) (d : PyData), vs = [x, y] ∧ Dq H b x d ∧ Dq H b y d ∧ Wide d ∧ Q (.bl true) H
section
variable {P : Program} {w : World} {K : PySem.W.Frag} {mg : Str → Option Value} {base : Heap}
theorem ok_alike2 {f : Addr} {fd : FuncData} (F : Fun K "_law_alike" "_law_alike" sAlike f fd) (mr : mg "repr" = none) : FnG P w K mg base 1 f fd ["_law_found", "_law_due"] spAlike2 := by
  refine okG F sd9 (fun vs H Q E h => ?_) (fun cdv A outer s H vs Q E hg hr h => ?_)
  · obtain ⟨b, x, y, d, rfl, _⟩ := h
    rfl
  · obtain ⟨b, x, y, d, rfl, hx, hy, fl, q⟩ := h
    refine ⟨_, pss_one (ps_ret (pe_and (pe_cmpR (op_eqD hr.units) (pv 0) (pv 1) (nomark _))
      (pe_one (pe_cmpR op_eq (pe_callB (call_reprD hg hr.units) (by rfl) mr (by decide +kernel) (pa_cons (pv 0) pa_nil)) (pe_callB (call_reprD hg hr.units) (by rfl) mr (by decide +kernel) (pa_cons (pv 1) pa_nil)) (nomark _))))), ?_⟩
    have cl := SeqAt.canLay_of_shaped fl.shape
    refine ⟨_, rfl, _, rfl, d, d, hx.dp cl, hy.dp cl, fl.shape, fl.shape, _, rfl, ?_⟩
    rw [SeqAt.eqv_refl d cl]
    refine iteT ⟨_, rfl, b, _, d, rfl, hx, fl.show_, fl.line, fl.low, _, rfl, b, _, d, rfl, hy, fl.show_, fl.line, fl.low, rfl, ?_⟩
    show Q (V.bl (decide (V.str d.shown = V.str d.shown))) H
    rw [decide_eq_true rfl]
    exact q
end
end Fv


set_option Elab.async false
set_option linter.all false
set_option maxRecDepth 100000
set_option maxHeartbeats 4000000
namespace Fv
open PySem PySem.Spec PyProof.Rows L2
abbrev sRight : Stmt := top 65
theorem cut3 {t2 t3 t4 u : TS} {D : Ends} {σ : L2.St} {H : Hp} (P : L2.St → Hp → Prop) (k : ∀ σ' H', P σ' H' → u D σ' H') (h : (∀ σ' H', P σ' H' → u D σ' H') → tSeq t2 (tSeq t3 (tSeq t4 u)) D σ H) : tSeq t2 (tSeq t3 (tSeq t4 u)) D σ H := h k
theorem mem_fold : ∀ (l acc : List Str) (x : Str), x ∈ l.foldl insL acc ↔ x ∈ acc ∨ x ∈ l
  | [], acc, x => by simp
  | y :: l, acc, x => by
    rw [List.foldl_cons, mem_fold]
    unfold insL
    split
    · rename_i h
      constructor
      · rintro (h1 | h1)
        · exact .inl h1
        · exact .inr (List.mem_cons_of_mem _ h1)
      · rintro (h1 | h1)
        · exact .inl h1
        · rcases List.mem_cons.mp h1 with rfl | h1
          · exact .inl h
          · exact .inr h1
    · rw [List.mem_append, List.mem_singleton, List.mem_cons, or_assoc]
theorem mem_dedup (l : List Str) (x : Str) : x ∈ dedup l ↔ x ∈ l := by
  unfold dedup
  rw [mem_fold]
  simp
theorem sets_fz {d : PyData} (h : isTupD d = true) : setsOf (frozenD d) = setsOf d := by
  cases d with
  | tuple ds =>
    show setsOf (.tuple (ds.map fz)) = _
    match ds with
    | [] => rfl
    | [a] => cases a <;> rfl
    | [a, b] => cases a <;> cases b <;> rfl
    | [a, b, c] => cases a <;> cases b <;> rfl
    | [a, b, c, e] => cases a <;> cases e <;> rfl
    | a :: b :: c :: e :: f :: r => cases a <;> rfl
  | _ => cases h
theorem parts_fz {d : PyData} (h : isTupD d = true) : partsOf (frozenD d) = partsOf d := by
  cases d with
  | tuple ds =>
    show partsOf (.tuple (ds.map fz)) = _
    match ds with
    | [] => rfl
    | [a] => cases a <;> rfl
    | [a, b] => cases a <;> cases b <;> rfl
    | a :: b :: c :: r => simp [partsOf, fz_items]
  | _ => cases h
theorem DqAll.ints (H : Hp) (b : Addr) : ∀ zs : List Int, DqAll H b (zs.map V.int) (zs.map .int)
  | [] => .nil
  | _ :: zs => .cons (.int _) (DqAll.ints H b zs)
theorem sets_nm {d : PyData} (h : stD d = true) : ∀ z ∈ setsOf d, F0 (.str z) := by
  have sh := st_shape h
  cases sh with
  | skip => exact fun z hz => by cases hz
  | @set zp hp =>
    intro z hz
    obtain ⟨e, he, rfl⟩ := List.mem_map.mp (show z ∈ (itemsD zp).map headS from hz)
    have ht := List.all_eq_true.mp (sets_all hp) e he
    obtain ⟨x, y, c, rfl⟩ := trip_shape ht
    have : (nameD (.str x) && sourceD (.str y) && intD (.int c)) = true := ht
    exact F0.name (Bool.and_eq_true_iff.mp (Bool.and_eq_true_iff.mp this).1).1
  | @most zw zx zp hw h2 h3 h4 =>
    intro z hz
    rw [List.mem_singleton.mp (show z ∈ [zx] from hz)]
    exact F0.name h2
  | @call zx zp zr h2 h3 h4 =>
    intro z hz
    obtain ⟨e, he, rfl⟩ := List.mem_map.mp (show z ∈ (itemsD zr).map strS from hz)
    have ht := List.all_eq_true.mp (row_names h4).2 e he
    obtain ⟨x, rfl⟩ := name_str ht
    exact F0.name ht
theorem setsOf_len {d : PyData} (h : stD d = true) (sm : smallSt d) : (setsOf d).length ≤ 20 := by
  have sh := st_shape h
  cases sh with
  | skip => exact Nat.zero_le _
  | @set zp hp =>
    show ((itemsD zp).map headS).length ≤ 20
    rw [List.length_map]
    exact sm.1
  | @most zw zx zp hw h2 h3 h4 => exact (by decide : 1 ≤ 20)
  | @call zx zp zr h2 h3 h4 =>
    show ((itemsD zr).map strS).length ≤ 20
    rw [List.length_map]
    exact sm.2.2 zr (by show zr ∈ [PyData.str "call", .str zx, zp, zr]; simp)
theorem reads_nm {d : PyData} (h : stD d = true) : ∀ z ∈ readsOf d, F0 (.str z) := by
  intro z hz
  have h1 := (mem_dedup _ _).mp hz
  have h2 := (List.mem_filter.mp h1).1
  obtain ⟨e, he, rfl⟩ := List.mem_map.mp h2
  have key : pairD e = true ∨ tripD e = true := by
    have sh := st_shape h
    cases sh with
    | skip => cases he
    | @set zp hp => exact .inr (List.all_eq_true.mp (sets_all hp) e he)
    | @most zw zx zp hw h2 h3 h4 => exact .inl (List.all_eq_true.mp (parts_all h3) e he)
    | @call zx zp zr h2 h3 h4 => exact .inl (List.all_eq_true.mp (parts_all h3) e he)
  rcases key with k | k
  · obtain ⟨y, c, rfl⟩ := pair_shape k
    have : (sourceD (.str y) && intD (.int c)) = true := k
    exact F0.src (Bool.and_eq_true_iff.mp this).1
  · obtain ⟨x, y, c, rfl⟩ := trip_shape k
    have : (nameD (.str x) && sourceD (.str y) && intD (.int c)) = true := k
    exact F0.src (Bool.and_eq_true_iff.mp (Bool.and_eq_true_iff.mp this).1).2
theorem due_wide {d : PyData} (h : stD d = true) (sm : smallSt d) {xs ys : List Str} (px : xs.Perm (setsOf d)) (py : ys.Perm (readsOf d)) : Wide (.list [.list (xs.map .str), .list (ys.map .str), .list ((numsOf d).map .int)]) := by
  refine F3.wide ⟨_, .inr rfl, by show 3 ≤ 4; decide, fun e he => ?_⟩
  have l1 := setsOf_len h sm
  rcases List.mem_cons.mp he with rfl | he
  · refine .inr ⟨_, .inr rfl, by rw [List.length_map, px.length_eq]; exact l1, fun x hx => ?_⟩
    obtain ⟨z, hz, rfl⟩ := List.mem_map.mp hx
    exact .inl (sets_nm h z (px.mem_iff.mp hz))
  rcases List.mem_cons.mp he with rfl | he
  · refine .inr ⟨_, .inr rfl, ?_, fun x hx => ?_⟩
    · rw [List.length_map, py.length_eq]
      refine Nat.le_trans (dedup_le _) (Nat.le_trans (List.length_filter_le _ _) ?_)
      rw [List.length_map]
      exact sm.1
    · obtain ⟨z, hz, rfl⟩ := List.mem_map.mp hx
      exact .inl (reads_nm h z (py.mem_iff.mp hz))
  · rw [List.mem_singleton.mp he]
    refine .inr ⟨_, .inr rfl, ?_, fun x hx => ?_⟩
    · unfold numsOf
      rw [List.length_map, List.length_map]
      exact sm.1
    · obtain ⟨z, hz, rfl⟩ := List.mem_map.mp hx
      obtain ⟨e, he, rfl⟩ := List.mem_map.mp hz
      exact .inl (sm.2.1 e he)
def spRight : Sp := fun vs H Q _ => ∃ (b : Addr) (v u : V) (d d' : PyData), vs = [.ref b, v, u] ∧ Bag H b ∧ Dq H b v d' ∧ okD d' ∧ stD d' = true ∧ frozenD d' = d ∧ Dq H b u d ∧ okD d ∧ stD d = true ∧ frozenD d = d ∧ smallSt d ∧
  ∀ (H' : Hp), Bag H' b → Keep b H H' → Q (.bl true) H'
abbrev nRi : List Str := ["_law_bag_here", "_law_handed", "_law_statement_here", "_law_parts", "_law_looked", "_law_names_here", "_law_read", "_law_due", "_law_again", "_law_told", "_law_at", "_law_number_here", "_law_wished", "_law_x", "_law_y", "_law_c", "_law_k"]
section
variable {P : Program} {w : World} {K : PySem.W.Frag} {mg : Str → Option Value} {base : Heap} {C : Addr}
theorem scRi : FnScope nRi ["_law_bag_here", "_law_handed", "_law_statement_here"] (defScope sRight) := ⟨rfl, rfl, rfl, by decide +kernel, rfl, by decide +kernel, by decide +kernel⟩
theorem ok_right {f fD fA fS fR fN fF fI fU fP fW : Addr} {fd fdD fdA fdS fdR fdN fdF fdI fdU fdP fdW : FuncData} (F : Fun K "_law_right" "_law_right" sRight f fd)
    (GD : FnOk P w K mg base CX0 1 fD fdD ["_law_statement_here"] spParted) (bD : Binds K fdD ["_law_statement_here"] []) (mD : mg "_law_parted" = some (.ref fD)) (kD : PySem.W.keepIn K (.ref fD) = true)
    (GA : FnG P w K mg base 1 fA fdA ["_law_found", "_law_due"] spAlike2) (bA : BindG fdA ["_law_found", "_law_due"]) (mA : mg "_law_alike" = some (.ref fA)) (kA : PySem.W.keepIn K (.ref fA) = true)
    (GS : FnOk P w K mg base CX0 1 fS fdS ["statement"] spSetsOf) (bS : Binds K fdS ["statement"] []) (mS : mg "sets" = some (.ref fS)) (kS : PySem.W.keepIn K (.ref fS) = true)
    (GR : FnOk P w K mg base CX0 2 fR fdR ["statement"] spReads) (bR : Binds K fdR ["statement"] []) (mR : mg "reads" = some (.ref fR)) (kR : PySem.W.keepIn K (.ref fR) = true)
    (GN : FnOk P w K mg base CX0 2 fN fdN ["statement"] spNumsB) (bN : Binds K fdN ["statement"] []) (mN : mg "numbers" = some (.ref fN)) (kN : PySem.W.keepIn K (.ref fN) = true)
    (GF : FnOk P w K mg base CX0 2 fF fdF ["statement"] spFrozen) (bF : Binds K fdF ["statement"] []) (mF : mg "frozen" = some (.ref fF)) (kF : PySem.W.keepIn K (.ref fF) = true)
    (GI : FnOk P w K mg base CX0 5 fI fdI ["thing"] (spX C stD)) (bI : Binds K fdI ["thing"] []) (mI : mg "is_statement" = some (.ref fI)) (kI : PySem.W.keepIn K (.ref fI) = true)
    (GU : FnOk P w K mg base CX0 2 fU fdU ["_law_bag_here"] spNumber) (bU : Binds K fdU ["_law_bag_here"] []) (mU : mg "_law_number" = some (.ref fU)) (kU : PySem.W.keepIn K (.ref fU) = true)
    (GP : FnOk P w K mg base CX0 2 fP fdP ["_law_statement_here", "_law_at", "_law_number_here"] spPut) (bP : Binds K fdP ["_law_statement_here", "_law_at", "_law_number_here"] []) (mP : mg "_law_put" = some (.ref fP)) (kP : PySem.W.keepIn K (.ref fP) = true)
    (GW : FnOk P w K mg base CX0 5 fW fdW ["_law_statement_here", "_law_at", "_law_number_here"] spLWith) (bW : Binds K fdW ["_law_statement_here", "_law_at", "_law_number_here"] []) (mW : mg "_law_with" = some (.ref fW)) (kW : PySem.W.keepIn K (.ref fW) = true)
    (mp : mg "repr" = none) (mL : mg "list" = none) (mo : mg "sorted" = none) (mr : mg "range" = none) (ml : mg "len" = none) (mi : mg "int" = none) :
    FnG P w K mg base 6 f fd ["_law_bag_here", "_law_handed", "_law_statement_here"] spRight := by
  refine okG F scRi (fun vs H Q E h => ?_) (fun cdv A outer s H vs Q E hg hr h => ?_)
  · obtain ⟨b, v, u, d, d', rfl, _⟩ := h
    rfl
  · obtain ⟨b, v, u, d, d', rfl, B, hv, ov, sv, fv, hu, ou, su, fu, sm, q⟩ := h
    have hr1 : Room 1 _ := hr.mono (by decide)
    have hr2 : Room 2 _ := hr.mono (by decide)
    have hr4 : Room 4 _ := hr.mono (by decide)
    refine ⟨_, pss_cons (ps_par (i := 3) (j := 4) (by rfl) scRi.nd rfl rfl (by decide) rfl rfl (pa_cons (pe_call GD hr1 (by rfl) mD kD bD .nil pass0 (pa_cons (pv 2) pa_nil)) (pa_cons (pe_callB (call_reprD hg hr.units) (by rfl) mp (by decide +kernel) (pa_cons (pv 1) pa_nil)) pa_nil)) (by rfl))
      (pss_cons (ps_set (i := 5) scRi.nd rfl (.inl rfl) (pe_ifExp (pt_cmpR op_eq (pe_ix (r := rIxT K) ix_tup (pv 2) pe_int (fun _ _ => rfl)) pe_str (nomark _))
          (pe_lc (own := [("_law_x", 13), ("_law_y", 14), ("_law_c", 15)]) (g := gTup K 3 (gCons (gName 13) (gCons (gName 14) (gCons (gName 15) gNil)))) (tt := tYes) rfl scRi.nd (pi_tup (pe_ix ix_tup (pv 2) pe_int (fun _ _ => rfl))) (blkOk_by (N := nRi) (sc := defScope sRight) (by decide +kernel))
            (fun _ _ _ _ _ => pg_tup (by rfl) (pgs_cons (pg_name (i := 13) scRi.nd rfl (.inl rfl)) (pgs_cons (pg_name (i := 14) scRi.nd rfl (.inl rfl)) (pgs_cons (pg_name (i := 15) scRi.nd rfl (.inl rfl)) pgs_nil)))) (fun _ _ _ _ _ => pts_nil)
            (fun _ _ _ _ _ => pv 13))
          (pe_lst pa_nil)))
      (pss_cons (ps_if (pt_cmpR (r := rIn K false) op_in_seq (pe_ix (r := rIxT K) ix_tup (pv 2) pe_int (fun _ _ => rfl)) (pe_tup (pa_cons pe_str (pa_cons pe_str pa_nil))) (by rfl))
          (pss_one (ps_set (i := 5) scRi.nd rfl (.inl rfl) (pe_lst (pa_cons (pe_ix (r := rIxT K) ix_tup (pv 2) pe_int (fun _ _ => rfl)) pa_nil)))) pss_nil)
      (pss_cons (ps_set (i := 5) scRi.nd rfl (.inl rfl) (pe_ifExp (pt_cmpR op_eq (pe_ix (r := rIxT K) ix_tup (pv 2) pe_int (fun _ _ => rfl)) pe_str (nomark _))
          (pe_callTy call_list_of (by rfl) mL boot_list (pa_cons (pe_ix (r := rIxT K) ix_tup (pv 2) pe_int (fun _ _ => rfl)) pa_nil)) (pv 5)))
      (pss_cons (ps_set (i := 6) scRi.nd rfl (.inr rfl)
          (pe_lc (own := [("_law_y", 14), ("_law_c", 15)]) (g := gTup K 2 (gCons (gName 14) (gCons (gName 15) gNil))) rfl scRi.nd (pi_list (pv 3)) (blkOk_by (N := nRi) (sc := defScope sRight) (by decide +kernel))
            (fun _ _ _ _ _ => pg_tup (by rfl) (pgs_cons (pg_name (i := 14) scRi.nd rfl (.inl rfl)) (pgs_cons (pg_name (i := 15) scRi.nd rfl (.inl rfl)) pgs_nil))) (fun _ _ _ _ _ => pts_one (pt_cmpR op_ne (pv 14) pe_str (nomark _)))
            (fun _ _ _ _ _ => pv 14)))
      (pss_cons (ps_set (i := 7) scRi.nd rfl (.inl rfl) (pe_lstB (pa_cons (pe_callB (r := rSortB K) call_sortB (by rfl) mo (by decide +kernel) (pa_cons (pv 5) pa_nil))
          (pa_cons (pe_callB (r := rSortB K) call_sortB (by rfl) mo (by decide +kernel) (pa_cons
            (pe_lc (own := [("_law_k", 16)]) (g := gName 16) rfl scRi.nd (pi_range1 (by rfl) mr (pa_cons (pe_callB call_len_seq (by rfl) ml PySem.boot_len (pa_cons (pv 6) pa_nil)) pa_nil)) (blkOk_by (N := nRi) (sc := defScope sRight) (by decide +kernel))
              (fun _ _ _ _ _ => pg_name (i := 16) scRi.nd rfl (Or.inl rfl)) (fun _ _ _ _ _ => pts_one (pt_cmpR (r := rIn K true) op_notIn_seq (pe_ix (r := rIxL K) ix_list (pv 6) (pv 16) (fun _ _ => rfl)) (pe_slice (r := rSlL K) sl_list (pv 6) po_none (po_some (pv 16))) (by rfl))) (fun _ _ _ _ _ => pe_ix (r := rIxL K) ix_list (pv 6) (pv 16) (fun _ _ => rfl))) pa_nil))
          (pa_cons (pe_lcB (own := [("_law_y", 14), ("_law_c", 15)]) (g := gTup K 2 (gCons (gName 14) (gCons (gName 15) gNil))) (tt := tYes) rfl scRi.nd (pi_list (pv 3)) (blkOk_by (N := nRi) (sc := defScope sRight) (by decide +kernel))
            (fun _ _ _ _ _ => pg_tup (by rfl) (pgs_cons (pg_name (i := 14) scRi.nd rfl (.inl rfl)) (pgs_cons (pg_name (i := 15) scRi.nd rfl (.inl rfl)) pgs_nil))) (fun _ _ _ _ _ => pts_nil)
            (fun _ _ _ _ _ => pv 15)) pa_nil)))))
      (pss_cons (ps_for PassesOwn.never rfl (pi_range1 (by rfl) mr (pa_cons pe_int pa_nil)) (pg_name (i := 8) scRi.nd rfl (.inl rfl))
        (pss_cons (ps_set (i := 9) scRi.nd rfl (.inl rfl) (pe_lstB (pa_cons (pe_call GS hr1 (by rfl) mS kS bS .nil pass0 (pa_cons (pv 1) pa_nil)) (pa_cons (pe_call GR hr2 (by rfl) mR kR bR .nil pass0 (pa_cons (pv 1) pa_nil)) (pa_cons (pe_call GN hr2 (by rfl) mN kN bN .nil pass0 (pa_cons (pv 1) pa_nil)) pa_nil)))))
        (pss_cons (ps_if (PW.pt (pw_or (pt_not (pt_val (pe_callG GA hg hr1 (by rfl) mA kA bA (pa_cons (pe_call GF hr2 (by rfl) mF kF bF .nil pass0 (pa_cons (pv 1) pa_nil)) (pa_cons (pv 2) pa_nil)))))
            (pw_or (pt_not (pt_val (pe_callG GA hg hr1 (by rfl) mA kA bA (pa_cons (pv 9) (pa_cons (pv 7) pa_nil)))))
            (pw_or1 (pt_cmpR op_isnot_bl (pe_call GI hr (by rfl) mI kI bI .nil pass0 (pa_cons (pv 1) pa_nil)) pe_bl (nomark _)))))) (pss_one (ps_ret pe_bl)) pss_nil)
        (pss_cons (ps_expr (pe_bm PySem.F.plainAttrs_list PySem.F.slot_list_append PySem.F.type_list_append mt_append (pe_ix (r := rIxL K) ix_list (pv 9) (pe_op op_modN (pe_callTy call_int1 (by rfl) mi (by decide +kernel) (pa_cons (pv 8) pa_nil)) pe_int) (fun _ _ => rfl)) (pa_cons pe_str pa_nil)))
        (pss_one (ps_for PassesOwn.never rfl (pi_range2 (by rfl) mr (pa_cons (pe_un un_neg pe_int) (pa_cons (pe_op op_add (pe_callB call_len_seq (by rfl) ml PySem.boot_len (pa_cons (pv 3) pa_nil)) pe_int) pa_nil))) (pg_name (i := 10) scRi.nd rfl (.inl rfl))
          (pss_cons (ps_set (i := 11) scRi.nd rfl (.inl rfl) (pe_call GU hr2 (by rfl) mU kU bU .nil pass0 (pa_cons (pv 0) pa_nil)))
          (pss_cons (ps_set (i := 12) scRi.nd rfl (.inl rfl) (pe_ifExp (pt_chain op_le op_lt pe_int (pv 10) (pe_callB call_len_seq (by rfl) ml PySem.boot_len (pa_cons (pv 3) pa_nil))) (pe_call GP hr2 (by rfl) mP kP bP .nil pass0 (pa_cons (pv 2) (pa_cons (pv 10) (pa_cons (pv 11) pa_nil)))) (pe_tup (pa_cons pe_str (pa_cons (pv 10) pa_nil)))))
          (pss_one (ps_if (pt_not (pt_val (pe_callG GA hg hr1 (by rfl) mA kA bA (pa_cons (pe_call GW hr (by rfl) mW kW bW .nil pass0 (pa_cons (pv 1) (pa_cons (pv 10) (pa_cons (pv 11) pa_nil)))) (pa_cons (pv 12) pa_nil))))) (pss_one (ps_ret pe_bl)) pss_nil))))))))) )
      (pss_one (ps_ret (pe_cmpR op_eq (pe_callB (call_reprD hg hr.units) (by rfl) mp (by decide +kernel) (pa_cons (pv 1) pa_nil)) (pv 4) (nomark _)))))))))), ?_⟩
    obtain ⟨ob, hob⟩ := Bag.at_b B
    have fu3 := F3.st su sm
    have fv3 := F3.loose (st_tup sv) fu3 fv
    refine ⟨_, rfl, b, u, d, rfl, hu, ou, su, fu, ⟨_, hob⟩, fun H1 p3 ys s1 n3 e3 hy => ?_⟩
    have hv1 := hv.mono fun c o _ e => s1 c o e
    refine ⟨_, rfl, b, v, d', rfl, hv1, fv3.wide.show_, fv3.wide.line, fv3.wide.low, ?_⟩
    dsimp only [gName]
    refine ⟨_, _, rfl, ?_⟩
    have hu1 := hu.mono (b := b) fun c o _ e => s1 c o e
    refine cut3 (fun σ' H' => ∃ n, σ' = [some (.ref b), some v, some u, some (.ref p3), some (.str d'.shown), some (.ref n), none, none, none, none, none, none, none, none, none, none, none] ∧ Same H1 H' ∧ H' n = some (.lst ((setsOf d).map V.str))) ?_ ?_
    rotate_left
    · intro kk
      obtain ⟨a, xs, ds, rfl, ab, ed, e1, hx⟩ := hu1.tup_of (st_tup su)
      have sh := st_shape su
      cases sh with
      | skip =>
        cases ed
        obtain ⟨x0, rfl⟩ := one_of hx.len
        obtain ⟨_, ee, h0⟩ := hx.one
        cases ee
        cases h0
        refine ⟨_, rfl, a, _, _, _, rfl, rfl, SqT.of e1, atI_nat (j := 0) rfl, rfl, _, rfl, iteF ⟨Nat.zero_le _, fun n nn => ?_⟩⟩
        have w1 := same_upd (o := .lst []) nn
        dsimp only [gName]
        refine ⟨_, rfl, a, _, _, _, rfl, rfl, SqT.of (w1 _ _ e1), atI_nat (j := 0) rfl, by show 2 ≤ sizeLine; decide, fun t nt => ⟨t, _, rfl, .inr (SqT.of upd_same), rfl, rfl, _, rfl, ?_⟩⟩
        have w2 := same_upd (o := .tup [.str "most", .str "least"]) nt
        refine iteF ?_
        refine ⟨_, rfl, a, _, _, _, rfl, rfl, SqT.of (w2 _ _ (w1 _ _ e1)), atI_nat (j := 0) rfl, rfl, _, rfl, iteF ⟨_, rfl, ?_⟩⟩
        exact kk _ _ ⟨n, rfl, w1.trans w2, w2 _ _ upd_same⟩
      | @set zp hp =>
        cases ed
        obtain ⟨x0, x1, rfl⟩ := two_of hx.len
        obtain ⟨_, _, ee, h0, g1⟩ := hx.two
        cases ee
        cases h0
        have hall := sets_all hp
        obtain ⟨ap, ys0, items, rfl, rfl, ep, hy0⟩ : ∃ ap ys0 items, x1 = .ref ap ∧ zp = .tuple items ∧ H1 ap = some (.tup ys0) ∧ DqAll H1 b ys0 items := by
          cases g1 with
          | lst e n m h => simp [frozenD, fz] at fu
          | tup e n h => exact ⟨_, _, _, rfl, rfl, e, h⟩
          | _ => cases row_sets hp
        have hl : items.length ≤ 20 := sm.1
        have hlen := hy0.len
        refine ⟨_, rfl, a, _, _, _, rfl, rfl, SqT.of e1, atI_nat (j := 0) rfl, rfl, _, rfl, iteT ?_⟩
        refine ⟨_, rfl, a, _, _, _, rfl, rfl, SqT.of e1, atI_nat (j := 1) rfl, ap, rfl, ⟨_, SqT.of ep⟩, fun D hD => ?_⟩
        refine lc_tup (K := K) (a := ap) (xs := ys0) (fun i H' => Same H1 H' ∧ H' D = some (.lst (((items.take i).map headS).map V.str))) ⟨same_upd hD, upd_same⟩ (fun i H' _ h => SqT.of (h.1 _ _ ep)) ?_ ?_
        · rintro i x H' hxi ⟨s', e'⟩
          obtain ⟨dx, hdi, hdx⟩ := hy0.at_ hxi
          obtain ⟨zx, zy, zc, rfl⟩ := trip_shape (List.all_eq_true.mp hall dx (List.mem_of_getElem? hdi))
          obtain ⟨ae, rfl, _, e4⟩ := hdx.trip
          have hi : i < items.length := (List.getElem?_eq_some_iff.mp hdi).1
          refine ⟨ae, _, rfl, SqT.of (s' _ _ e4), rfl, _, _, rfl, _, _, rfl, _, _, rfl, rfl, rfl, _, rfl, _, e', ?_, fun c o e => ?_, ?_⟩
          · rw [List.length_map, List.length_map, List.length_take]
            exact small60 (by omega)
          · rw [upd_ne (ne_of_none e hD)]
            exact s' c o e
          · rw [upd_same, take_map_snoc hdi, List.map_append]
            rfl
        · rintro H2 ⟨s2, e2⟩
          rw [hlen, List.take_length] at e2
          have e12 := s2 _ _ e1
          dsimp only [gName]
          refine ⟨_, rfl, a, _, _, _, rfl, rfl, SqT.of e12, atI_nat (j := 0) rfl, by show 2 ≤ sizeLine; decide, fun t nt => ⟨t, _, rfl, .inr (SqT.of upd_same), rfl, rfl, _, rfl, ?_⟩⟩
          have w2 := same_upd (o := .tup [.str "most", .str "least"]) nt
          refine iteF ?_
          refine ⟨_, rfl, a, _, _, _, rfl, rfl, SqT.of (w2 _ _ e12), atI_nat (j := 0) rfl, rfl, _, rfl, iteF ⟨_, rfl, ?_⟩⟩
          exact kk _ _ ⟨D, rfl, s2.trans w2, w2 _ _ e2⟩
      | @most zw zx zp hw h2 h3 h4 =>
        cases ed
        obtain ⟨x0, x1, x2, rfl⟩ := three_of hx.len
        obtain ⟨_, _, _, ee, h0, g1, g2⟩ := hx.three
        cases ee
        cases h0
        cases g1
        have n1 : decide (V.str zw = V.str "set") = false := by
          rw [str_dec]
          rcases hw with rfl | rfl <;> decide +kernel
        have n2 : decide (V.str zw = V.str "call") = false := by
          rw [str_dec]
          rcases hw with rfl | rfl <;> decide +kernel
        have n3 : inV (V.str zw) [V.str "most", V.str "least"] = true := by
          rcases hw with rfl | rfl <;> decide +kernel
        refine ⟨_, rfl, a, _, _, _, rfl, rfl, SqT.of e1, atI_nat (j := 0) rfl, rfl, _, rfl, ?_⟩
        rw [n1]
        refine iteF ⟨Nat.zero_le _, fun n nn => ?_⟩
        have w1 := same_upd (o := .lst []) nn
        dsimp only [gName]
        refine ⟨_, rfl, a, _, _, _, rfl, rfl, SqT.of (w1 _ _ e1), atI_nat (j := 0) rfl, by show 2 ≤ sizeLine; decide, fun t nt => ⟨t, _, rfl, .inr (SqT.of upd_same), rfl, rfl, _, rfl, ?_⟩⟩
        have w2 := same_upd (o := .tup [.str "most", .str "least"]) nt
        have e12 := w2 _ _ (w1 _ _ e1)
        show if inV (V.str zw) [V.str "most", V.str "least"] = true then _ else _
        rw [n3]
        refine iteT ⟨_, rfl, a, _, _, _, rfl, rfl, SqT.of e12, atI_nat (j := 1) rfl, by show 1 ≤ sizeLine; decide, fun n2' nn2 => ?_⟩
        have w3 := same_upd (o := .lst [.str zx]) nn2
        dsimp only [gName]
        refine ⟨_, rfl, a, _, _, _, rfl, rfl, SqT.of (w3 _ _ e12), atI_nat (j := 0) rfl, rfl, _, rfl, ?_⟩
        rw [n2]
        refine iteF ⟨_, rfl, ?_⟩
        exact kk _ _ ⟨n2', rfl, (w1.trans w2).trans w3, upd_same⟩
      | @call zx zp zr h2 h3 h4 =>
        cases ed
        obtain ⟨x0, xr, rfl⟩ : ∃ x0 xr, xs = x0 :: xr := by
          cases xs with
          | nil => cases hx
          | cons x xs => exact ⟨_, _, rfl⟩
        cases hx with
        | cons h0 hx =>
          cases h0
          obtain ⟨x1, x2, x3, rfl⟩ := three_of hx.len
          obtain ⟨_, _, _, ee, g1, g2, g3⟩ := hx.three
          cases ee
          obtain ⟨hrw, hall⟩ := row_names h4
          obtain ⟨ap, ys0, items, rfl, hdd, hrow, hy0⟩ := g3.row_of (K := K) hrw
          have ei := rows_items hdd
          rw [ei] at hall
          obtain rfl := hy0.names hall
          refine ⟨_, rfl, a, _, _, _, rfl, rfl, SqT.of e1, atI_nat (j := 0) rfl, rfl, _, rfl, iteF ⟨Nat.zero_le _, fun n nn => ?_⟩⟩
          have w1 := same_upd (o := .lst []) nn
          dsimp only [gName]
          refine ⟨_, rfl, a, _, _, _, rfl, rfl, SqT.of (w1 _ _ e1), atI_nat (j := 0) rfl, by show 2 ≤ sizeLine; decide, fun t nt => ⟨t, _, rfl, .inr (SqT.of upd_same), rfl, rfl, _, rfl, ?_⟩⟩
          have w2 := same_upd (o := .tup [.str "most", .str "least"]) nt
          have e12 := w2 _ _ (w1 _ _ e1)
          refine iteF ?_
          refine ⟨_, rfl, a, _, _, _, rfl, rfl, SqT.of e12, atI_nat (j := 0) rfl, rfl, _, rfl, iteT ?_⟩
          have hrow2 : SqL K _ ap _ ∨ SqT K _ ap _ := hrow.imp (fun h => h.same (w1.trans w2)) fun h => h.same (w1.trans w2)
          refine ⟨_, rfl, a, _, _, _, rfl, rfl, SqT.of e12, atI_nat (j := 3) rfl, ap, _, rfl, hrow2, fun l nl => ?_⟩
          have w3 := same_upd (o := .lst ((items.map strS).map V.str)) nl
          refine kk _ _ ⟨l, rfl, (w1.trans w2).trans w3, ?_⟩
          rw [upd_same]
          show _ = some (HO.lst (((itemsD zr).map strS).map V.str))
          rw [ei]
    · rintro σ' H2 ⟨n, rfl, s12, en⟩
      have sl : (setsOf d).length ≤ 20 := setsOf_len su sm
      have item : ∀ {i : Nat} {x : V}, ys[i]? = some x → ∃ (e0 : PyData) (ae : Addr), (partsOf d)[i]? = some e0 ∧ x = .ref ae ∧ H1 ae = some (.tup [.str (srcS e0), .int (lastI e0)]) := fun {i x} hxi => by
        obtain ⟨e, hdi, hdx⟩ := hy.at_ hxi
        rw [List.getElem?_map] at hdi
        cases e0 : (partsOf d)[i]? with
        | none => rw [e0] at hdi; cases hdi
        | some e1 =>
          rw [e0] at hdi
          obtain rfl := Option.some.inj hdi
          obtain ⟨ae, rfl, _, e4⟩ := Dq.pair hdx
          exact ⟨e1, ae, rfl, rfl, del_sub _ _ e4⟩
      have yl : ys.length = (partsOf d).length := by rw [hy.len, List.length_map]
      have pl : (partsOf d).length ≤ 20 := sm.1
      have e32 := s12 _ _ e3
      refine ⟨_, rfl, p3, rfl, ⟨_, SqL.of e32⟩, fun D hD => ?_⟩
      refine lc_list (K := K) (a := p3) (xs := ys) (fun i H' => Same H2 H' ∧ H' D = some (.lst (((((partsOf d).take i).map srcS).filter neE).map V.str))) ⟨same_upd hD, upd_same⟩ (fun i H' _ h => SqL.of (h.1 _ _ e32)) ?_ ?_
      · rintro i x H' hxi ⟨s', e'⟩
        obtain ⟨e0, ae, hdi, rfl, e4⟩ := item hxi
        have hi : i < (partsOf d).length := (List.getElem?_eq_some_iff.mp hdi).1
        have tk : (((partsOf d).take (i + 1)).map srcS).filter neE = (((partsOf d).take i).map srcS).filter neE ++ (if neE (srcS e0) = true then [srcS e0] else []) := by
          rw [take_map_snoc hdi, filter_snoc]
        refine ⟨ae, _, rfl, SqT.of (s' _ _ (s12 _ _ e4)), rfl, _, _, rfl, _, _, rfl, rfl, rfl, _, rfl, rfl, _, rfl, ?_⟩
        by_cases hz : srcS e0 = ""
        · rw [show (!decide (V.str (srcS e0) = V.str "")) = false from by rw [str_dec, decide_eq_true hz]; rfl]
          refine iteF ⟨s', ?_⟩
          rw [tk, if_neg (by unfold neE; simpa using hz), List.append_nil]
          exact e'
        · rw [show (!decide (V.str (srcS e0) = V.str "")) = true from by rw [str_dec, decide_eq_false hz]; rfl]
          refine iteT ⟨_, rfl, _, e', ?_, fun c o e => ?_, ?_⟩
          · rw [List.length_map]
            refine small60 (Nat.le_trans (List.length_filter_le _ _) ?_)
            rw [List.length_map, List.length_take]
            omega
          · rw [upd_ne (ne_of_none e hD)]
            exact s' c o e
          · rw [upd_same, tk, if_pos (by unfold neE; simpa using hz), List.map_append]
            rfl
      rintro H3 ⟨s23, eD⟩
      rw [yl, List.take_length] at eD
      have rl : (((partsOf d).map srcS).filter neE).length ≤ 20 := Nat.le_trans (List.length_filter_le _ _) (by rw [List.length_map]; exact pl)
      obtain ⟨rd, erd⟩ : ∃ rd, rd = ((partsOf d).map srcS).filter neE := ⟨_, rfl⟩
      have erd2 : readsOf d = dedup rd := by rw [erd]; rfl
      rw [← erd] at eD rl
      dsimp only [gName]
      have s03 := s12.trans s23
      refine ⟨_, rfl, n, _, rfl, .inl (SqL.of (s23 _ _ en)), by omega, fun zs1 q1 perm1 srt1 nq1 wq1 => ?_⟩
      have t1 := same_upd (o := .lst (zs1.map V.str)) nq1
      have eq1 := (upd_same : (upd H3 q1 (.lst (zs1.map V.str))) q1 = some (.lst (zs1.map V.str)))
      have eD4 := t1 _ _ eD
      generalize upd H3 q1 (.lst (zs1.map V.str)) = H4 at t1 eq1 eD4 ⊢
      refine ⟨_, rfl, D, _, rfl, .inl (SqL.of eD4), _, rfl, by omega, by rw [List.length_map]; omega, fun D2 hD2 => ?_⟩
      refine lc_range (lo := 0) (n := ((((rd.map V.str).length : Nat) : Int)).toNat) (fun i H' => Same H4 H' ∧ H' D2 = some (.lst ((dedup (rd.take i)).map V.str))) ⟨same_upd hD2, upd_same⟩ ?_ ?_
      · rintro i H' hi ⟨s', e'⟩
        have hi' : i < rd.length := by rw [List.length_map] at hi; omega
        have hzi := List.getElem?_eq_getElem hi'
        have hv : (rd.map V.str)[i]? = some (.str rd[i]) := by rw [List.getElem?_map, hzi]; rfl
        simp only [Int.zero_add]
        refine ⟨rfl, ⟨_, rfl, _, rfl, D, _, (i : Int), _, rfl, rfl, SqL.of (s' _ _ eD4), atI_nat hv, ?_⟩⟩
        refine ⟨_, rfl, _, rfl, _, rfl, D, _, rfl, SqL.of (s' _ _ eD4), fun p np => ?_⟩
        have w1 := same_upd (o := .lst (cutV (rd.map V.str) none (some (i : Int)))) np
        refine ⟨p, _, rfl, .inl (SqL.of upd_same), rfl, ?_, ?_⟩
        · rw [cut_to, ← List.map_take]
          exact flat_strs _
        have ei : inV (.str rd[i]) (cutV (rd.map V.str) none (some (i : Int))) = decide (rd[i] ∈ rd.take i) := by
          rw [cut_to, ← List.map_take, inV_strs]
        have tk : rd.take (i + 1) = rd.take i ++ [rd[i]] := by
          rw [List.take_add_one, hzi]
          rfl
        refine ⟨_, rfl, ?_⟩
        rw [ei]
        by_cases hz : rd[i] ∈ rd.take i
        · rw [decide_eq_true hz]
          refine iteF ⟨s'.trans w1, ?_⟩
          rw [w1 _ _ e', tk, dedup_snoc]
          unfold insL
          rw [if_pos ((mem_dedup _ _).mpr hz)]
        · rw [decide_eq_false hz]
          refine iteT ⟨_, rfl, _, rfl, D, _, (i : Int), _, rfl, rfl, SqL.of (w1 _ _ (s' _ _ eD4)), atI_nat hv, _, w1 _ _ e', ?_, fun c o e => ?_, ?_⟩
          · rw [List.length_map]
            refine small60 (Nat.le_trans (dedup_le _) ?_)
            rw [List.length_take]
            omega
          · rw [upd_ne (ne_of_none e hD2)]
            exact w1 _ _ (s' c o e)
          · rw [upd_same, tk, dedup_snoc]
            unfold insL
            rw [if_neg (fun h => hz ((mem_dedup _ _).mp h)), List.map_append]
            rfl
      rintro H5 ⟨s45, eD2⟩
      rw [show ((((rd.map V.str).length : Nat) : Int)).toNat = rd.length from by rw [List.length_map]; omega, List.take_length] at eD2
      have dl := dedup_le rd
      refine ⟨D2, _, rfl, .inl (SqL.of eD2), by omega, fun zs2 q2 perm2 srt2 nq2 wq2 => ?_⟩
      have t2 := same_upd (o := .lst (zs2.map V.str)) nq2
      have eq2 := (upd_same : (upd H5 q2 (.lst (zs2.map V.str))) q2 = some (.lst (zs2.map V.str)))
      have eq15 := t2 _ _ (s45 _ _ eq1)
      generalize upd H5 q2 (.lst (zs2.map V.str)) = H6 at t2 eq2 eq15 ⊢
      have s16 : Same H1 H6 := (((s03.trans t1).trans s45).trans t2)
      have e36 := s16 _ _ e3
      refine ⟨_, rfl, p3, rfl, ⟨_, SqL.of e36⟩, fun D3 hD3 wD3 => ?_⟩
      refine lc_list (K := K) (a := p3) (xs := ys) (fun i H' => Same H6 H' ∧ H' D3 = some (.lst ((((partsOf d).take i).map lastI).map V.int))) ⟨same_upd hD3, upd_same⟩ (fun i H' _ h => SqL.of (h.1 _ _ e36)) ?_ ?_
      · rintro i x H' hxi ⟨s', e'⟩
        obtain ⟨e0, ae, hdi, rfl, e4⟩ := item hxi
        have hi : i < (partsOf d).length := (List.getElem?_eq_some_iff.mp hdi).1
        refine ⟨ae, _, rfl, SqT.of (s' _ _ (s16 _ _ e4)), rfl, _, _, rfl, _, _, rfl, rfl, rfl, _, rfl, _, e', ?_, fun c o e => ?_, ?_⟩
        · rw [List.length_map, List.length_map, List.length_take]
          exact small60 (by omega)
        · rw [upd_ne (ne_of_none e hD3)]
          exact s' c o e
        · rw [upd_same, take_map_snoc hdi, List.map_append]
          rfl
      rintro H7 ⟨s67, eD3⟩
      rw [yl, List.take_length] at eD3
      refine ⟨by show 3 ≤ sizeLine; decide, fun du ndu wdu => ?_⟩
      have t7 := same_upd (o := .lst [.ref q1, .ref q2, .ref D3]) ndu
      have edu := (upd_same : (upd H7 du (.lst [.ref q1, .ref q2, .ref D3])) du = some (.lst [.ref q1, .ref q2, .ref D3]))
      generalize upd H7 du (.lst [.ref q1, .ref q2, .ref D3]) = H8 at t7 edu ⊢
      have s18 : Same H1 H8 := (s16.trans s67).trans t7
      have s08 := s1.trans s18
      have ob8 := s08 _ _ hob
      have q1b : q1 ≠ b := (ne_of_none (s03 _ _ (s1 _ _ hob)) nq1).symm
      have q2b : q2 ≠ b := (ne_of_none (s45 _ _ (t1 _ _ (s03 _ _ (s1 _ _ hob)))) nq2).symm
      have D3b : D3 ≠ b := (ne_of_none (s16 _ _ (s1 _ _ hob)) hD3).symm
      have dub : du ≠ b := (ne_of_none (s67 _ _ (s16 _ _ (s1 _ _ hob))) ndu).symm
      obtain ⟨dueD, edue⟩ : ∃ dueD, dueD = PyData.list [.list (zs1.map .str), .list (zs2.map .str), .list ((numsOf d).map .int)] := ⟨_, rfl⟩
      have hdue : Dq H8 b (.ref du) dueD := by
        rw [edue]
        refine .lst edu dub wdu (.cons (.lst (t7 _ _ (s67 _ _ eq15)) q1b wq1 (DqAll.strs _ _ _)) (.cons (.lst (t7 _ _ (s67 _ _ eq2)) q2b wq2 (DqAll.strs _ _ _)) (.cons (.lst (t7 _ _ eD3) D3b wD3 (DqAll.ints _ _ _)) .nil)))
      have wdueD : Wide dueD := by
        rw [edue]
        exact due_wide su sm perm1 (erd2 ▸ perm2)
      have B8 := B.same s08
      clear s23 t1 s45 t2 s67 t7
      dsimp only [gName]
      refine ⟨3, rfl, by decide, by decide, ?_⟩
      refine for_range (lo := 0) (n := (3 : Int).toNat) (fun i σ H' => ∃ y8 y9 y10 y11 y12 : Option V, σ = [some (.ref b), some v, some u, some (.ref p3), some (.str d'.shown), some (.ref n), some (.ref D), some (.ref du), y8, y9, y10, y11, y12, none, none, none, none] ∧ Bag H' b ∧ Keep b H8 H')
        ⟨none, none, none, none, none, rfl, B8, Keep.refl⟩ ?_ ?_
      · rintro i σ G hi ⟨y8, y9, y10, y11, y12, rfl, BG, kG⟩
        have k0 : Keep b H G := (Keep.same s08).trans kG
        obtain ⟨og, hog⟩ := Bag.at_b BG
        have hvG := hv.mono k0
        dsimp only [gName]
        refine ⟨_, rfl, b, v, d', rfl, hvG, ov, sv, fun G1 r1 ys1 t1 nr1 wr1 pe1 so1 er1 => ?_⟩
        have hvG1 := hvG.mono (b := b) fun c o _ e => t1 c o e
        refine ⟨_, rfl, b, v, d', rfl, hvG1, ov, sv, ⟨_, t1 _ _ hog⟩, fun G2 r2 ys2 t2 nr2 wr2 pe2 so2 er2 => ?_⟩
        have hvG2 := hvG1.mono (b := b) fun c o _ e => t2 c o e
        refine ⟨_, rfl, b, v, d', rfl, hvG2, ov, sv, ⟨_, t2 _ _ (t1 _ _ hog)⟩, fun G3 r3 t3 nr3 wr3 er3 => ?_⟩
        have hvG3 := hvG2.mono (b := b) fun c o _ e => t3 c o e
        refine ⟨by show 3 ≤ sizeLine; decide, fun to nto wto => ?_⟩
        have t4 := same_upd (o := .lst [.ref r1, .ref r2, .ref r3]) nto
        have eto := (upd_same : (upd G3 to (.lst [.ref r1, .ref r2, .ref r3])) to = some (.lst [.ref r1, .ref r2, .ref r3]))
        generalize upd G3 to (.lst [.ref r1, .ref r2, .ref r3]) = G4 at t4 eto ⊢
        have hst := st_tup sv
        obtain rfl : ys1 = zs1 := sorted_same so1 srt1 pe1 perm1 (by rw [← sets_fz hst, fv])
        have epr : partsOf d' = partsOf d := by rw [← parts_fz hst, fv]
        obtain rfl : ys2 = zs2 := sorted_same so2 srt2 pe2 perm2 (by unfold readsOf; rw [epr, ← erd])
        have enm : numsOf d' = numsOf d := by unfold numsOf; rw [epr]
        rw [enm] at er3
        have r1b : r1 ≠ b := (ne_of_none hog nr1).symm
        have r2b : r2 ≠ b := (ne_of_none (t1 _ _ hog) nr2).symm
        have r3b : r3 ≠ b := (ne_of_none (t2 _ _ (t1 _ _ hog)) nr3).symm
        have tob : to ≠ b := (ne_of_none (t3 _ _ (t2 _ _ (t1 _ _ hog))) nto).symm
        have t04 := ((t1.trans t2).trans t3).trans t4
        have er1' := t4 _ _ (t3 _ _ (t2 _ _ er1))
        have er2' := t4 _ _ (t3 _ _ er2)
        have er3' := t4 _ _ er3
        have htold : Dq G4 b (.ref to) dueD := by
          rw [edue]
          exact .lst eto tob wto (.cons (.lst er1' r1b wr1 (DqAll.strs _ _ _)) (.cons (.lst er2' r2b wr2 (DqAll.strs _ _ _)) (.cons (.lst er3' r3b wr3 (DqAll.ints _ _ _)) .nil)))
        have hog4 := t04 _ _ hog
        have kG4 : Keep b H8 G4 := kG.trans (Keep.same t04)
        have hvG4 := hvG3.mono (b := b) fun c o _ e => t4 c o e
        have hu8 := hu.mono (b := b) fun c o _ e => s08 c o e
        dsimp only [gName]
        refine ⟨_, rfl, b, v, d', rfl, hvG4, ov, sv, ⟨_, hog4⟩, fun G5 f5 t5 hf5 => ?_⟩
        rw [fv] at hf5
        have k85 : Keep b H8 G5 := kG4.trans (Keep.same t5)
        refine ⟨_, rfl, b, _, _, d, rfl, hf5, hu8.mono k85, fu3.wide, _, rfl, iteF ?_⟩
        refine ⟨_, rfl, _, rfl, b, _, _, dueD, rfl, htold.mono (b := b) (fun c o _ e => t5 c o e), hdue.mono k85, wdueD, _, rfl, iteF ?_⟩
        have hvG5 := hvG4.mono (b := b) fun c o _ e => t5 c o e
        refine ⟨_, rfl, b, v, d', rfl, hvG5.x, ov, ⟨_, t5 _ _ hog4⟩, fun G6 t6 => ?_⟩
        rw [sv]
        refine ⟨_, _, rfl, rfl, _, rfl, ?_⟩
        refine iteF ?_
        have t46 := t5.trans t6
        have t06 := t04.trans t46
        obtain ⟨pp, ws, hpp, ppb, ppn, ppG, epp, wl⟩ : ∃ (pp : Addr) (ws : List V), ([.ref r1, .ref r2, .ref r3] : List V)[i]? = some (.ref pp) ∧ pp ≠ b ∧ (∀ a o, a ≠ b → H8 a = some o → a ≠ pp) ∧ (∀ a o, G a = some o → a ≠ pp) ∧ G6 pp = some (.lst ws) ∧ ws.length ≤ 20 := by
          have hi3 : i < 3 := hi
          have l1 : (ys1.map V.str).length ≤ 20 := by rw [List.length_map, perm1.length_eq]; exact sl
          have l2 : (ys2.map V.str).length ≤ 20 := by rw [List.length_map, perm2.length_eq]; omega
          have l3 : ((numsOf d).map V.int).length ≤ 20 := by
            unfold numsOf
            rw [List.length_map, List.length_map]
            exact pl
          match i, hi3 with
          | 0, _ => exact ⟨r1, _, rfl, r1b, fun a o n e => ne_of_none (kG _ _ n e) nr1, fun a o e => ne_of_none e nr1, t46 _ _ er1', l1⟩
          | 1, _ => exact ⟨r2, _, rfl, r2b, fun a o n e => ne_of_none (t1 _ _ (kG _ _ n e)) nr2, fun a o e => ne_of_none (t1 _ _ e) nr2, t46 _ _ er2', l2⟩
          | 2, _ => exact ⟨r3, _, rfl, r3b, fun a o n e => ne_of_none (t2 _ _ (t1 _ _ (kG _ _ n e))) nr3, fun a o e => ne_of_none (t2 _ _ (t1 _ _ e)) nr3, t46 _ _ er3', l3⟩
        have hmod : ((0 : Int) + (i : Int)).fmod 3 = (i : Int) := by
          have hi3 : i < 3 := hi
          match i, hi3 with
          | 0, _ => rfl
          | 1, _ => rfl
          | 2, _ => rfl
        refine ⟨_, rfl, _, rfl, .inl ⟨_, rfl, _, _, rfl, rfl, by show (3 : Int) ≠ 0; decide, ?_⟩⟩
        refine ⟨to, _, ((0 : Int) + (i : Int)).fmod 3, .ref pp, rfl, rfl, SqL.of (t46 _ _ eto), by rw [hmod]; exact atI_nat hpp, ?_⟩
        refine ⟨.inl ⟨rfl, _, SqL.of epp⟩, pp, _, _, rfl, rfl, epp, small60 (by omega), ?_⟩
        obtain ⟨c, BA⟩ := BG
        have ppc : pp ≠ c := by
          obtain ⟨cs, pq, sq, iq, BB⟩ := id BA
          exact (ppG _ _ BB.cells).symm
        have B7 := BagAt.bag ((BagAt.same BA t06).put (o := .lst (ws ++ [.str "zzzzzzzz"])) ppb ppc)
        have k87 : Keep b H8 (upd G6 pp (.lst (ws ++ [.str "zzzzzzzz"]))) := fun a o n e => by
          rw [upd_ne (ppn a o n e)]
          exact t06 _ _ (kG _ _ n e)
        generalize upd G6 pp (.lst (ws ++ [.str "zzzzzzzz"])) = G7 at B7 k87 ⊢
        clear t1 t2 t3 t4 t5 t6 t46 t06
        dsimp only [gName]
        have p3b : p3 ≠ b := (ne_of_none hob n3).symm
        have e38 := s18 _ _ e3
        refine ⟨_, rfl, _, rfl, p3, ys, rfl, .inl (SqL.of (k87 _ _ p3b e38)), _, _, rfl, rfl, _, _, rfl, ⟨by decide, by decide, by omega, by omega⟩, ?_⟩
        refine for_range (lo := -1) (n := ((((ys.length : Nat) : Int) + 1) - (-1)).toNat) (fun i σ H' => ∃ y8 y9 y10 y11 y12 : Option V, σ = [some (.ref b), some v, some u, some (.ref p3), some (.str d'.shown), some (.ref n), some (.ref D), some (.ref du), y8, y9, y10, y11, y12, none, none, none, none] ∧ Bag H' b ∧ Keep b H8 H')
          ⟨_, _, _, _, _, rfl, B7, k87⟩ ?_ ?_
        · rintro j σ M hj ⟨y8, y9, y10, y11, y12, rfl, BM, kM⟩
          obtain ⟨k, ek⟩ : ∃ k : Int, k = -1 + (j : Int) := ⟨_, rfl⟩
          rw [← ek]
          have kb : F0 (.int k) := by
            have h1 : j < (((ys.length : Nat) : Int) + 1 - (-1)).toNat := hj
            have h2 : (10 : Int) ^ 39 = 1000000000000000000000000000000000000000 := by decide
            exact ⟨by omega, by omega⟩
          clear ek
          dsimp only [gName]
          refine ⟨_, rfl, b, rfl, BM, fun z M1 z1 z2 B1 k1 _ => ?_⟩
          dsimp only [gName]
          have k01 : Keep b H8 M1 := kM.trans k1
          have hv8 := hv.mono (b := b) fun c o _ e => s08 c o e
          have e3M := k01 _ _ p3b e38
          obtain ⟨oM, hoM⟩ := Bag.at_b B1
          have hst := st_tup sv
          have epr : partsOf d' = partsOf d := by rw [← parts_fz hst, fv]
          have zf : F0 (.int z) := ⟨z1, z2⟩
          have miss : ∀ {M2 : Hp} {t : Addr}, ¬ (0 ≤ k ∧ k < (partsOf d).length) → M1 t = none → M2 = upd M1 t (.tup [.str "none", .int k]) → Keep b M1 M2 ∧ Bag M2 b ∧ Dq M2 b (.ref t) (.tuple [.str "none", .int k]) := fun {M2 t} _ nt e => by
            subst e
            exact ⟨Keep.new nt, B1.new nt, .tup upd_same (ne_of_none hoM nt).symm (.cons (.str _) (.cons (.int _) .nil))⟩
          have pln : (ys.length : Int) = (partsOf d).length := by rw [yl]
          have wn : Wide (.tuple [.str "none", .int k]) := F3.wide ⟨_, .inl rfl, by show 2 ≤ 4; decide, fun e he => by
            rcases List.mem_cons.mp he with rfl | he
            · exact .inl w_none
            · rw [List.mem_singleton.mp he]
              exact .inl kb⟩
          refine ⟨_, rfl, _, _, rfl, rfl, _, rfl, ?_⟩
          by_cases h0 : 0 ≤ k
          · rw [decide_eq_true h0]
            refine ⟨_, rfl, p3, ys, rfl, .inl (SqL.of e3M), _, _, rfl, rfl, _, rfl, ?_⟩
            by_cases h1 : k < (ys.length : Nat)
            · rw [decide_eq_true h1]
              obtain ⟨m, rfl⟩ : ∃ m : Nat, k = m := ⟨k.toNat, by omega⟩
              have hm : m < (partsOf d).length := by omega
              refine iteT ⟨_, rfl, _, rfl, _, rfl, b, u, d, m, z, rfl, (hu.mono (b := b) fun c o _ e => s08 c o e).mono k01, ou, su, fu, ⟨_, hoM⟩, hm, fun M2 pw t2 hd2 => ?_⟩
              dsimp only [gName]
              have k02 := k01.trans (Keep.same (p := b) t2)
              refine ⟨_, rfl, _, rfl, _, rfl, b, v, d', m, z, rfl, hv8.mono k02, ov, sv, ⟨_, t2 _ _ hoM⟩, fun m' hk' hm' M3 pr t3 hd3 => ?_, fun hk' => absurd ⟨h0, by rw [epr]; omega⟩ hk'⟩
              obtain rfl : m = m' := by omega
              rw [fv] at hd3
              refine ⟨_, rfl, b, _, _, _, rfl, hd3, hd2.mono (b := b) (fun c o _ e => t3 c o e), (fu3.put zf).wide, _, rfl, iteF ?_⟩
              exact ⟨_, _, _, _, _, rfl, (B1.same t2).same t3, k02.trans (Keep.same t3)⟩
            · rw [decide_eq_false h1]
              have hno : ¬ (0 ≤ k ∧ k < (partsOf d).length) := fun h => h1 (by omega)
              refine iteF ⟨_, rfl, by show 2 ≤ sizeLine; decide, fun t nt => ?_⟩
              obtain ⟨k12, B2, hd2⟩ := miss hno nt rfl
              dsimp only [gName]
              have k02 := k01.trans k12
              obtain ⟨o2, ho2⟩ := Bag.at_b B2
              refine ⟨_, rfl, _, rfl, _, rfl, b, v, d', k, z, rfl, hv8.mono k02, ov, sv, ⟨_, ho2⟩, fun m' hk' hm' => absurd ⟨h0, by rw [epr] at hm'; omega⟩ hno, fun _ M3 pr t3 hd3 => ?_⟩
              refine ⟨_, rfl, b, _, _, _, rfl, hd3, hd2.mono (b := b) (fun c o _ e => t3 c o e), wn, _, rfl, iteF ?_⟩
              exact ⟨_, _, _, _, _, rfl, B2.same t3, k02.trans (Keep.same t3)⟩
          · rw [decide_eq_false h0]
            have hno : ¬ (0 ≤ k ∧ k < (partsOf d).length) := fun h => h0 h.1
            refine ⟨_, rfl, iteF ⟨_, rfl, by show 2 ≤ sizeLine; decide, fun t nt => ?_⟩⟩
            obtain ⟨k12, B2, hd2⟩ := miss hno nt rfl
            dsimp only [gName]
            have k02 := k01.trans k12
            obtain ⟨o2, ho2⟩ := Bag.at_b B2
            refine ⟨_, rfl, _, rfl, _, rfl, b, v, d', k, z, rfl, hv8.mono k02, ov, sv, ⟨_, ho2⟩, fun m' hk' hm' => absurd (by omega) h0, fun _ M3 pr t3 hd3 => ?_⟩
            refine ⟨_, rfl, b, _, _, _, rfl, hd3, hd2.mono (b := b) (fun c o _ e => t3 c o e), wn, _, rfl, iteF ?_⟩
            exact ⟨_, _, _, _, _, rfl, B2.same t3, k02.trans (Keep.same t3)⟩
        · rintro σ M ⟨y8, y9, y10, y11, y12, rfl, BM, kM⟩
          exact ⟨_, _, _, _, _, rfl, BM, kM⟩
      · rintro σ G ⟨y8, y9, y10, y11, y12, rfl, BG, kG⟩
        have k0 : Keep b H G := (Keep.same s08).trans kG
        refine ⟨_, rfl, b, v, d', rfl, hv.mono k0, fv3.wide.show_, fv3.wide.line, fv3.wide.low, _, rfl, rfl, ?_⟩
        show Q (V.bl (decide (V.str d'.shown = V.str d'.shown))) G
        rw [decide_eq_true rfl]
        exact q G BG k0
end
end Fv


set_option Elab.async false
set_option linter.all false
set_option maxRecDepth 100000
set_option maxHeartbeats 4000000
namespace Fv
open PySem PySem.Spec PyProof.Rows L2
/-! ### Facts(["a"]) -/
abbrev sChk : Stmt := top 15
abbrev sAreFacts : Stmt := top 34
abbrev sChkSrc : Stmt := top 36
abbrev sTight : Stmt := top 37
abbrev sClosed : Stmt := top 38
abbrev sInit : Stmt := inClass (top 33) 0
/-- what is not come to -/
def tDead : TE := fun _ _ _ => False
def sDead : TS := fun _ _ _ => False
theorem pe_dead {X : Cx} {e : Expr} : PE X e tDead := ⟨fun _ _ _ _ _ _ h => False.elim h⟩
theorem pss_dead {X : Cx} {st : List Stmt} : PSs X st sDead := ⟨fun _ _ _ _ _ _ h => False.elim h⟩
def spChk : Sp := fun vs H Q _ => ∃ a, vs = [.ref a] ∧ H a = some (.lst [.bl true, .bl true]) ∧ ∀ H', Same H H' → Q .non H'
def spRowT (K : PySem.W.Frag) : Sp := fun vs H Q _ => ∃ a o, vs = [.ref a] ∧ K.lookup a = some o ∧ o.cls = .type "tuple" ∧ ∀ H', Same H H' → Q (.bl true) H'
def spAreF (K : PySem.W.Frag) : Sp := fun vs H Q _ => ∃ a o, vs = [.ref a] ∧ K.lookup a = some o ∧ o.cls = .type "tuple" ∧ (∀ H, SqT K H a []) ∧ ∀ H', Same H H' → Q (.bl true) H'
def spChkS (K : PySem.W.Frag) : Sp := fun vs H Q _ => ∃ n a, vs = [.ref n, .ref a] ∧ H n = some (.lst [.str "a"]) ∧ (∀ H, SqT K H a []) ∧ ∀ H', Same H H' → Q .non H'
def spTight (K : PySem.W.Frag) : Sp := fun vs H Q _ => ∃ a, vs = [.ref a] ∧ (∀ H, SqT K H a []) ∧ ∀ H' p, Same H H' → H p = none → H' p = some (.dK []) → Q (.ref p) H'
section
variable {P : Program} {w : World} {K : PySem.W.Frag} {mg : Str → Option Value} {base : Heap} {C : Addr}
theorem scCk : FnScope ["rights", "place", "right"] ["rights"] (defScope sChk) := ⟨rfl, rfl, rfl, by decide +kernel, rfl, by decide +kernel, by decide +kernel⟩
theorem ok_chk {f : Addr} {fd : FuncData} (F : Fun K "check_arguments" "check_arguments" sChk f fd) (me : mg "enumerate" = none) : FnOk P w K mg base CX0 1 f fd ["rights"] spChk := by
  refine F.ok scCk (fun vs H Q E h => ?_) (fun cdv A outer s H vs Q E hr h => ?_)
  · obtain ⟨a, rfl, _⟩ := h
    rfl
  · obtain ⟨a, rfl, ha, q⟩ := h
    refine ⟨_, pss_one (ps_for PassesOwn.never rfl (pi_enum (by rfl) me (pa_cons (pv 0) pa_nil)) (pg_tup (by rfl) (pgs_cons (pg_name (i := 1) scCk.nd rfl (.inl rfl)) (pgs_cons (pg_name (i := 2) scCk.nd rfl (.inl rfl)) pgs_nil)))
      (pss_one (ps_if (pt_not (pt_val (pv 2))) pss_dead pss_nil))), ?_⟩
    refine ⟨_, rfl, a, _, rfl, SqL.of ha, ?_⟩
    refine for_it (walk_enum (K := K) (a := a) (xs := [.bl true, .bl true])) (fun i σ H' => ∃ y1 y2 : Option V, σ = [some (.ref a), y1, y2] ∧ Same H H') ⟨none, none, rfl, fun _ _ e => e⟩ (fun i σ H' _ h => ?_) ?_ ?_
    · obtain ⟨_, _, _, s'⟩ := h
      exact SqL.of (s' _ _ ha)
    · rintro i x σ H' H2 hi ⟨y1, y2, rfl, s'⟩ ⟨T, vi, vx, rfl, nT, rfl, ei, ex⟩
      have sT := same_upd (o := .tup [vi, vx]) nT
      have hv : vx = .bl true := by
        match i, hi with
        | 0, _ => cases ex; rfl
        | 1, _ => cases ex; rfl
      subst hv
      refine ⟨T, _, rfl, SqT.of upd_same, rfl, _, _, rfl, _, _, rfl, rfl, ?_⟩
      refine ⟨_, rfl, _, rfl, iteF ?_⟩
      exact ⟨_, _, rfl, s'.trans sT⟩
    · rintro σ H' ⟨y1, y2, rfl, s'⟩
      exact q H' s'
theorem ok_isrowT {f : Addr} {fd : FuncData} (F : Fun K "is_row" "is_row" sIsRow f fd) (mq : mg "isinstance" = none) (ml : mg "list" = none) (mt : mg "tuple" = none) : FnOk P w K mg base CX0 1 f fd ["thing"] (spRowT K) := by
  refine F.ok sc5 (fun vs H Q E h => ?_) (fun cdv A outer s H vs Q E hr h => ?_)
  · obtain ⟨a, o, rfl, _⟩ := h
    rfl
  · obtain ⟨a, o, rfl, hk, hc, q⟩ := h
    refine ⟨_, pss_one (ps_ret (pe_callB call_isiT (by rfl) mq (by decide +kernel) (pa_cons (pv 0) (pa_cons (pe_tup (pa_cons (pe_bltn (v := .ty "list") (by rfl) ml boot_list rfl) (pa_cons (pe_bltn (v := .ty "tuple") (by rfl) mt boot_tuple rfl) pa_nil))) pa_nil)))), ?_⟩
    refine ⟨_, rfl, by show 2 ≤ sizeLine; decide, fun p np => ?_⟩
    exact ⟨_, _, _, _, _, _, rfl, upd_same, .cons (.ty "list") (.cons (.ty "tuple") .nil), .kTuple hk hc, kitAny_cons (r := true) (kit_list (.tuple [])) (fun _ => kitAny_cons (r := true) (kit_tup (.tuple [])) (fun e => by cases e) (fun _ => rfl)) (fun e => by cases e), q _ (same_upd np)⟩
theorem scAf : FnScope ["thing", "item"] ["thing"] (defScope sAreFacts) := ⟨rfl, rfl, rfl, by decide +kernel, rfl, by decide +kernel, by decide +kernel⟩
theorem ok_arefacts {f fR : Addr} {fd fdR : FuncData} (F : Fun K "_are_facts" "_are_facts" sAreFacts f fd)
    (GR : FnOk P w K mg base CX0 1 fR fdR ["thing"] (spRowT K)) (bR : Binds K fdR ["thing"] []) (mR : mg "is_row" = some (.ref fR)) (kR : PySem.W.keepIn K (.ref fR) = true)
    (ma : mg "all" = none) : FnOk P w K mg base CX0 2 f fd ["thing"] (spAreF K) := by
  refine F.ok scAf (fun vs H Q E h => ?_) (fun cdv A outer s H vs Q E hr h => ?_)
  · obtain ⟨a, o, rfl, _⟩ := h
    rfl
  · obtain ⟨a, o, rfl, hk, hc, ht, q⟩ := h
    refine ⟨_, pss_one (ps_ret (pe_and (pe_call GR hr (by rfl) mR kR bR .nil pass0 (pa_cons (pv 0) pa_nil))
      (pe_one (pe_callB (cr_all rfl) (by rfl) ma (by decide +kernel) (pa_cons
        (pe_lc (own := [("item", 1)]) (g := gName 1) (tt := tYes) rfl scAf.nd (pi_tup (pv 0)) (blkOk_by (N := ["thing", "item"]) (sc := defScope sAreFacts) (by decide +kernel))
        (fun _ _ _ _ _ => pg_name (i := 1) scAf.nd rfl (Or.inl rfl)) (fun _ _ _ _ _ => pts_nil) (fun _ _ _ _ _ => pe_dead)) pa_nil))))), ?_⟩
    refine ⟨_, rfl, a, o, rfl, hk, hc, fun H1 s1 => ⟨_, rfl, ?_⟩⟩
    refine iteT ⟨_, rfl, a, rfl, ⟨_, ht H1⟩, fun D hD => ?_⟩
    refine lc_tup (K := K) (a := a) (xs := []) (fun i H' => Same H1 H' ∧ H' D = some (.lst [])) ⟨same_upd hD, upd_same⟩ (fun i H' _ h => ht H') ?_ ?_
    · intro i x H' hxi
      cases hxi
    · rintro H2 ⟨s2, e2⟩
      exact ⟨D, [], rfl, SqL.of e2, q H2 (s1.trans s2)⟩
abbrev nCs : List Str := ["names", "facts", "known", "x", "y", "_", "source", "name"]
theorem scCs : FnScope nCs ["names", "facts"] (defScope sChkSrc) := ⟨rfl, rfl, rfl, by decide +kernel, rfl, by decide +kernel, by decide +kernel⟩
theorem ok_chks {f : Addr} {fd : FuncData} (F : Fun K "_check_sources" "_check_sources" sChkSrc f fd) : FnOk P w K mg base CX0 1 f fd ["names", "facts"] (spChkS K) := by
  refine F.ok scCs (fun vs H Q E h => ?_) (fun cdv A outer s H vs Q E hr h => ?_)
  · obtain ⟨n, a, rfl, _⟩ := h
    rfl
  · obtain ⟨n, a, rfl, hn, ht, q⟩ := h
    refine ⟨_, pss_cons (ps_setDc (i := 2) (own := [("name", 7)]) (g := gName 7) (tt := tYes) rfl scCs.nd rfl rfl (swD_true rfl rfl rfl (by decide +kernel)) (pi_list (pv 0)) (blkOk_by (N := nCs) (sc := defScope sChkSrc) (by decide +kernel))
        (fun _ _ _ _ _ => pg_name (i := 7) scCs.nd rfl (Or.inl rfl)) (fun _ _ _ _ _ => pts_nil) (fun _ _ _ _ _ => pv 7) (fun _ _ _ _ _ => pe_bl))
      (pss_one (ps_for PassesOwn.never rfl (pi_tup (pv 1)) (pg_tup (by rfl) (pgs_cons (pg_name (i := 3) scCs.nd rfl (.inl rfl)) (pgs_cons (pg_name (i := 4) scCs.nd rfl (.inl rfl)) (pgs_cons (pg_name (i := 5) scCs.nd rfl (.inl rfl)) pgs_nil)))) pss_dead)), ?_⟩
    refine ⟨_, rfl, n, rfl, ⟨_, SqL.of hn⟩, fun D hD => ?_⟩
    refine dc_it (walk_list (K := K) (a := n) (xs := [.str "a"])) (fun i H' => Same H H' ∧ H' D = some (.dK (if i = 0 then [] else [(Sum.inr "a", .bl true)]))) ⟨same_upd hD, upd_same⟩ (fun i H' _ h => SqL.of (h.1 _ _ hn)) ?_ ?_
    · rintro i x H' H2 hi ⟨s', e'⟩ ⟨rfl, hxi⟩
      obtain ⟨rfl, rfl⟩ : i = 0 ∧ x = .str "a" := by
        match i with
        | 0 => cases hxi; exact ⟨rfl, rfl⟩
        | i + 1 => cases hxi
      refine ⟨rfl, _, rfl, _, Sum.inr "a", rfl, e', by show 0 < sizeLine; decide, fun c o e => ?_, ?_⟩
      · rw [upd_ne (ne_of_none e hD)]
        exact s' c o e
      · rw [upd_same]
        rfl
    · rintro H1 ⟨s1, e1⟩
      dsimp only [gName]
      refine ⟨_, rfl, a, rfl, ⟨_, ht _⟩, ?_⟩
      refine for_tup (K := K) (a := a) (xs := []) (fun i σ H' => H' = H1) rfl (fun i σ H' _ h => ht H') ?_ ?_
      · intro i x σ H' hx
        cases hx
      · rintro σ H' rfl
        exact q _ s1
abbrev nTg : List Str := ["facts", "table", "x", "y", "c"]
theorem scTg : FnScope nTg ["facts"] (defScope sTight) := ⟨rfl, rfl, rfl, by decide +kernel, rfl, by decide +kernel, by decide +kernel⟩
theorem ok_tight {f : Addr} {fd : FuncData} (F : Fun K "_tightest" "_tightest" sTight f fd) : FnOk P w K mg base CX0 1 f fd ["facts"] (spTight K) := by
  refine F.ok scTg (fun vs H Q E h => ?_) (fun cdv A outer s H vs Q E hr h => ?_)
  · obtain ⟨a, rfl, _⟩ := h
    rfl
  · obtain ⟨a, rfl, ht, q⟩ := h
    refine ⟨_, pss_cons (ps_set (i := 1) scTg.nd rfl (.inl rfl) pe_dnewK)
      (pss_cons (ps_for PassesOwn.never rfl (pi_tup (pv 0)) (pg_tup (by rfl) (pgs_cons (pg_name (i := 2) scTg.nd rfl (.inl rfl)) (pgs_cons (pg_name (i := 3) scTg.nd rfl (.inl rfl)) (pgs_cons (pg_name (i := 4) scTg.nd rfl (.inl rfl)) pgs_nil)))) pss_dead)
      (pss_one (ps_ret (pv 1)))), ?_⟩
    intro p np
    have w1 := same_upd (o := .dK []) np
    dsimp only [gName]
    refine ⟨_, rfl, a, rfl, ⟨_, ht _⟩, ?_⟩
    refine for_tup (K := K) (a := a) (xs := []) (fun i σ H' => σ = [some (.ref a), some (.ref p), none, none, none] ∧ H' = upd H p (.dK [])) ⟨rfl, rfl⟩ (fun i σ H' _ h => ht H') ?_ ?_
    · intro i x σ H' hx
      cases hx
    · rintro σ H' ⟨rfl, rfl⟩
      exact ⟨_, rfl, q _ p w1 np upd_same⟩
abbrev nCd : List Str := ["facts", "table", "middle", "ahead", "behind", "known", "x", "y", "_"]
theorem scCd : FnScope nCd ["facts"] (defScope sClosed) := ⟨rfl, rfl, rfl, by decide +kernel, rfl, by decide +kernel, by decide +kernel⟩
theorem ok_closed {f fT : Addr} {fd fdT : FuncData} (F : Fun K "_closed" "_closed" sClosed f fd)
    (GT : FnOk P w K mg base CX0 1 fT fdT ["facts"] (spTight K)) (bT : Binds K fdT ["facts"] []) (mT : mg "_tightest" = some (.ref fT)) (kT : PySem.W.keepIn K (.ref fT) = true)
    (mo : mg "sorted" = none) : FnOk P w K mg base CX0 2 f fd ["facts"] (spTight K) := by
  refine F.ok scCd (fun vs H Q E h => ?_) (fun cdv A outer s H vs Q E hr h => ?_)
  · obtain ⟨a, rfl, _⟩ := h
    rfl
  · obtain ⟨a, rfl, ht, q⟩ := h
    refine ⟨_, pss_cons (ps_set (i := 1) scCd.nd rfl (.inl rfl) (pe_call GT hr (by rfl) mT kT bT .nil pass0 (pa_cons (pv 0) pa_nil)))
      (pss_cons (ps_for PassesOwn.never rfl (pi_list (pe_callB (r := rSortX P w) (call_sortX rfl) (by rfl) mo (by decide +kernel) (pa_cons
        (pe_op (op_meet0)
          (pe_lock (pe_scX (own := [("x", 6), ("_", 8)]) (g := gTup K 2 (gCons (gName 6) (gCons (gName 8) gNil))) (tt := tYes) rfl scCd.nd (pi_keys (pv 1)) (blkOk_by (N := nCd) (sc := defScope sClosed) (by decide +kernel))
            (fun _ _ _ _ _ => pg_tup (by rfl) (pgs_cons (pg_name (i := 6) scCd.nd rfl (.inl rfl)) (pgs_cons (pg_name (i := 8) scCd.nd rfl (.inl rfl)) pgs_nil))) (fun _ _ _ _ _ => pts_nil) (fun _ _ _ _ _ => pe_dead)))
          (pe_lock (pe_scX (own := [("_", 8), ("y", 7)]) (g := gTup K 2 (gCons (gName 8) (gCons (gName 7) gNil))) (tt := tYes) rfl scCd.nd (pi_keys (pv 1)) (blkOk_by (N := nCd) (sc := defScope sClosed) (by decide +kernel))
            (fun _ _ _ _ _ => pg_tup (by rfl) (pgs_cons (pg_name (i := 8) scCd.nd rfl (.inl rfl)) (pgs_cons (pg_name (i := 7) scCd.nd rfl (.inl rfl)) pgs_nil))) (fun _ _ _ _ _ => pts_nil) (fun _ _ _ _ _ => pe_dead)))) pa_nil))) (pg_name (i := 2) scCd.nd rfl (.inr rfl)) pss_dead)
      (pss_one (ps_ret (pv 1)))), ?_⟩
    refine ⟨_, rfl, a, rfl, ht, fun H1 p s1 np ep => ?_⟩
    dsimp only [gName]
    have sc0 : ∀ {H1 : Hp} {od : Obj} {g : TG} {vs : List Nat} {σ : L2.St} {Qd : Hp → Prop} {D : Addr}, H1 p = some (.frz od (.dK [])) → D ≠ p → (Qd (upd H1 D (TxtO P w D []))) →
      ∃ W : Nat → Nat → Hp → Prop, (∃ m, W 0 m (upd H1 D (TxtO P w D []))) ∧ ∀ i m H, W i m H →
      ((Itk p od []).stop i H ∧ Qd H) ∨ ((Itk p od []).go i H ∧ ∃ Nx : Hp → Prop, (∀ H', Nx H' → ∃ m', m' < m ∧ W (i + 1) m' H') ∧ ∀ x H', (Itk p od []).yld i H x H' → g x (wipe σ vs) H' fun σ2 H2 => wipe σ2 vs = wipe σ vs ∧ tYes σ2 H2 fun b H3 =>
        if b = true then tDead σ2 H3 fun y H4 => ∃ (z : Str) (L : List Str), y = .str z ∧ H4 D = some (TxtO P w D L) ∧ L.length + 1 < scanBound ∧ Nx (upd H4 D (TxtO P w D (insL L z))) else Nx H3) := fun {H1 od g vs σ Qd D} e n q => by
      refine sc_it (walk_keys (d := p) (o := od) (kvs := [])) (fun i H' => H' = upd H1 D (TxtO P w D [])) rfl (fun i H' _ h => ?_) ?_ ?_
      · rw [h, upd_ne n.symm]
        exact e
      · intro i x H H' hi
        exact absurd hi (Nat.not_lt_zero i)
      · rintro H' rfl
        exact q
    refine ⟨p, .dK [], ep, True.intro, fun od => ?_⟩
    refine ⟨_, rfl, p, od, rfl, .inl ⟨[], upd_same, fun D nD => ?_⟩⟩
    have Dp : D ≠ p := fun z => by
      rw [z, upd_same] at nD
      cases nD
    refine sc0 upd_same Dp ⟨by rw [upd_ne Dp.symm]; exact upd_same, ?_⟩
    have D1 : H1 D = none := by rw [upd_ne Dp] at nD; exact nD
    obtain ⟨H2, eH2⟩ : ∃ H2, H2 = upd (upd (upd H1 p (.frz od (.dK []))) D (TxtO P w D [])) p (.dK []) := ⟨_, rfl⟩
    rw [← eH2]
    have s2 : Same H1 H2 := fun c o e => by
      rw [eH2]
      by_cases z : c = p
      · subst z
        rw [upd_same, ← e, ep]
      · rw [upd_ne z, upd_ne (ne_of_none e D1), upd_ne z]
        exact e
    have eD2 : H2 D = some (TxtO P w D []) := by rw [eH2, upd_ne Dp, upd_same]
    have ep2 := s2 _ _ ep
    clear eH2 nD
    refine ⟨p, .dK [], ep2, True.intro, fun od2 => ?_⟩
    refine ⟨_, rfl, p, od2, rfl, .inl ⟨[], upd_same, fun D2 nD2 => ?_⟩⟩
    have D2p : D2 ≠ p := fun z => by
      rw [z, upd_same] at nD2
      cases nD2
    refine sc0 upd_same D2p ⟨by rw [upd_ne D2p.symm]; exact upd_same, ?_⟩
    have D21 : H2 D2 = none := by rw [upd_ne D2p] at nD2; exact nD2
    obtain ⟨H3, eH3⟩ : ∃ H3, H3 = upd (upd (upd H2 p (.frz od2 (.dK []))) D2 (TxtO P w D2 [])) p (.dK []) := ⟨_, rfl⟩
    rw [← eH3]
    have s3 : Same H2 H3 := fun c o e => by
      rw [eH3]
      by_cases z : c = p
      · subst z
        rw [upd_same, ← e, ep2]
      · rw [upd_ne z, upd_ne (ne_of_none e D21), upd_ne z]
        exact e
    have eD23 : H3 D2 = some (TxtO P w D2 []) := by rw [eH3, upd_ne D2p, upd_same]
    have DD : D ≠ D2 := ne_of_none eD2 D21
    refine ⟨D, D2, rfl, rfl, DD, s3 _ _ eD2, eD23, fun M nM => ?_⟩
    have s4 := same_upd (o := TxtO P w M []) nM
    refine ⟨M, [], rfl, upd_same, by decide, fun ys L perm srt nL wL => ?_⟩
    obtain rfl : ys = [] := List.perm_nil.mp perm
    have s5 := same_upd (o := .lst ([].map V.str)) nL
    have s15 := ((s2.trans s3).trans s4).trans s5
    refine ⟨L, rfl, ⟨_, SqL.of upd_same⟩, ?_⟩
    refine for_list (K := K) (a := L) (xs := []) (fun i σ H' => σ = [some (.ref a), some (.ref p), none, none, none, none, none, none, none] ∧ H' = upd (upd H3 M (TxtO P w M [])) L (.lst ([].map V.str))) ⟨rfl, rfl⟩ (fun i σ H' _ h => by rw [h.2]; exact SqL.of upd_same) ?_ ?_
    · intro i x σ H' hx
      cases hx
    · rintro σ H' ⟨rfl, rfl⟩
      exact ⟨_, rfl, q _ p (s1.trans s15) np (s15 _ _ ep)⟩
end
end Fv


set_option Elab.async false
set_option linter.all false
set_option maxRecDepth 100000
set_option maxHeartbeats 4000000
namespace Fv
open PySem PySem.Spec PyProof.Rows L2
def spIni (K : PySem.W.Frag) (C : Addr) : Sp := fun vs H Q _ => ∃ (x n a dx : Addr) (o : Obj), vs = [.ref x, .ref n, .ref a] ∧ H x = some (.ins C dx []) ∧ H n = some (.lst [.str "a"]) ∧ n ≠ x ∧ K.lookup a = some o ∧ o.cls = .type "tuple" ∧ (∀ H, SqT K H a []) ∧
  ∀ H' fs, H' x = some (.ins C dx fs) → (∀ c u, c ≠ x → H c = some u → H' c = some u) → Q .non H'
/-- what is asked of the class -/
structure FacC (K : PySem.W.Frag) (C : Addr) : Prop where
  cl : Cls K C
  n1 : NoAttr K C "_names"
  n2 : NoAttr K C "_table"
section
variable {P : Program} {w : World} {K : PySem.W.Frag} {mg : Str → Option Value} {base : Heap} {C : Addr}
theorem scIni : FnScope ["self", "names", "facts"] ["self", "names", "facts"] (defScope sInit) := ⟨rfl, rfl, rfl, by decide +kernel, rfl, by decide +kernel, by decide +kernel⟩
theorem ok_ini {f fC fM fA fS fD : Addr} {fd fdC fdM fdA fdS fdD : FuncData} {dvs : List V} (F : FunD K "__init__" "Facts.__init__" (defArgs sInit) (defBody sInit) (defScope sInit) dvs [] f fd) (T : FacC K C)
    (GC : FnOk P w K mg base CX0 1 fC fdC ["rights"] spChk) (bC : Binds K fdC ["rights"] []) (mC : mg "check_arguments" = some (.ref fC)) (kC : PySem.W.keepIn K (.ref fC) = true)
    (GM : FnOk P w K mg base CX0 2 fM fdM ["thing"] (spX C namesD)) (bM : Binds K fdM ["thing"] []) (mM : mg "are_names" = some (.ref fM)) (kM : PySem.W.keepIn K (.ref fM) = true)
    (GA : FnOk P w K mg base CX0 2 fA fdA ["thing"] (spAreF K)) (bA : Binds K fdA ["thing"] []) (mA : mg "_are_facts" = some (.ref fA)) (kA : PySem.W.keepIn K (.ref fA) = true)
    (GS : FnOk P w K mg base CX0 1 fS fdS ["names", "facts"] (spChkS K)) (bS : Binds K fdS ["names", "facts"] []) (mS : mg "_check_sources" = some (.ref fS)) (kS : PySem.W.keepIn K (.ref fS) = true)
    (GD : FnOk P w K mg base CX0 2 fD fdD ["facts"] (spTight K)) (bD : Binds K fdD ["facts"] []) (mD : mg "_closed" = some (.ref fD)) (kD : PySem.W.keepIn K (.ref fD) = true)
    (mo : mg "sorted" = none) : FnOk P w K mg base CX0 3 f fd ["self", "names", "facts"] (spIni K C) := by
  refine F.ok scIni (fun vs H Q E h => ?_) (fun cdv A outer s H vs Q E hr h => ?_)
  · obtain ⟨x, n, a, dx, o, rfl, _⟩ := h
    rfl
  · obtain ⟨x, n, a, dx, o, rfl, hx, hn, nx, hk, hc, ht, q⟩ := h
    have hr1 : Room 1 _ := hr.mono (by decide)
    refine ⟨_, pss_cons (ps_expr (pe_call GC hr1 (by rfl) mC kC bC .nil pass0 (pa_cons (pe_lst (pa_cons (pe_call GM hr (by rfl) mM kM bM .nil pass0 (pa_cons (pv 1) pa_nil)) (pa_cons (pe_call GA hr (by rfl) mA kA bA .nil pass0 (pa_cons (pv 2) pa_nil)) pa_nil))) pa_nil)))
      (pss_cons (ps_expr (pe_call GS hr1 (by rfl) mS kS bS .nil pass0 (pa_cons (pv 1) (pa_cons (pv 2) pa_nil))))
      (pss_cons (ps_fld (pv 0) (pe_callB (r := rSortB K) call_sortB (by rfl) mo (by decide +kernel) (pa_cons (pv 1) pa_nil)) rfl)
      (pss_one (ps_fld (pv 0) (pe_call GD hr (by rfl) mD kD bD .nil pass0 (pa_cons (pv 2) pa_nil)) rfl)))), ?_⟩
    have hdx : Dx C H x (.ref n) (.list [.str "a"]) := .lst hn nx (.cons (.str _) .nil)
    refine ⟨_, rfl, x, _, _, rfl, hdx, ⟨by decide, ⟨by decide, by decide⟩, True.intro⟩, ⟨_, hx⟩, fun H1 s1 => ?_⟩
    refine ⟨_, rfl, a, o, rfl, hk, hc, ht, fun H2 s2 => ⟨by show 2 ≤ sizeLine; decide, fun p np => ?_⟩⟩
    have hnm : namesD (.list [.str "a"]) = true := by decide +kernel
    rw [hnm]
    have s3 := same_upd (o := .lst [.bl true, .bl true]) np
    refine ⟨p, rfl, upd_same, fun H4 s4 => ?_⟩
    have s04 := ((s1.trans s2).trans s3).trans s4
    refine ⟨_, rfl, _, rfl, n, a, rfl, s04 _ _ hn, ht, fun H5 s5 => ?_⟩
    have s05 := s04.trans s5
    refine ⟨_, rfl, n, ["a"], rfl, .inl (SqL.of (s05 _ _ hn)), by decide, fun ys r perm srt nr wr => ?_⟩
    have s6 := same_upd (o := .lst (ys.map V.str)) nr
    have s06 := s05.trans s6
    refine ⟨_, rfl, x, C, dx, _, rfl, s06 _ _ hx, T.cl, T.n1, by decide, ?_⟩
    obtain ⟨H7, eH7⟩ : ∃ H7, H7 = upd (upd H5 r (.lst (ys.map V.str))) x (.ins C dx (putF "_names" (.ref r) [])) := ⟨_, rfl⟩
    rw [← eH7]
    have hx7 : H7 x = some (.ins C dx (putF "_names" (.ref r) [])) := by rw [eH7]; exact upd_same
    have k07 : ∀ c u, c ≠ x → H c = some u → H7 c = some u := fun c u n e => by
      rw [eH7, upd_ne n]
      exact s06 _ _ e
    clear eH7
    refine ⟨_, rfl, a, rfl, ht, fun H8 r2 s8 nr2 e8 => ?_⟩
    refine ⟨_, rfl, x, C, dx, _, rfl, s8 _ _ hx7, T.cl, T.n2, by show 1 < 1000; decide, ?_⟩
    exact q _ _ upd_same fun c u n e => by
      rw [upd_ne n]
      exact s8 _ _ (k07 c u n e)
end
end Fv


set_option Elab.async false
set_option linter.all false
set_option maxRecDepth 100000
set_option maxHeartbeats 4000000
namespace Fv
open PySem PySem.Spec PyProof.Rows L2
abbrev sLaw : Stmt := top 66
def okdB : PyData → Bool
  | .str z => okB z
  | .list ds => ds.all fun d => match d with | .str z => okB z | .int _ => true | _ => false
  | .tuple ds => ds.all fun d => match d with | .str z => okB z | .int _ => true | _ => false
  | _ => true
theorem odd_okD {n : Nat} {nm : Str} (hn : n < 40) (h : NameOk nm) : ∀ d ∈ oddD n nm, okD d := by
  intro d hd
  have hk : ∀ z : Str, okS z → okD (.str z) := fun z h => h
  unfold oddD at hd
  simp only [List.mem_cons, List.not_mem_nil, or_false] at hd
  rcases hd with rfl | rfl | rfl | rfl | rfl | rfl | rfl | rfl | rfl | rfl | rfl | rfl | rfl | rfl | rfl | rfl | rfl | rfl | rfl | rfl | rfl | rfl | rfl | rfl | rfl | rfl | rfl | rfl | rfl | rfl
  · exact True.intro
  · exact True.intro
  · exact True.intro
  · exact True.intro
  · exact True.intro
  · exact True.intro
  · exact True.intro
  · exact True.intro
  · (refine hk _ (okS_of ?_); decide +kernel)
  · (refine hk _ (okS_of ?_); decide +kernel)
  · exact hk _ h.ok
  · exact hk _ h.more
  · (refine hk _ (okS_of ?_); decide +kernel)
  · (refine hk _ (okS_of ?_); decide +kernel)
  · (refine hk _ (okS_of ?_); decide +kernel)
  · (refine hk _ (okS_of ?_); decide +kernel)
  · (refine hk _ (okS_of ?_); decide +kernel)
  · (refine hk _ (okS_of ?_); decide +kernel)
  · (refine hk _ (okS_of ?_); decide +kernel)
  · (refine hk _ (okS_of ?_); decide +kernel)
  · (refine hk _ (okS_of ?_); decide +kernel)
  · exact ⟨by decide, True.intro⟩
  · exact ⟨by decide, True.intro⟩
  · exact True.intro
  · exact ⟨by show 1 ≤ 60; decide, True.intro, True.intro⟩
  · exact ⟨by show 1 ≤ 60; decide, True.intro, True.intro⟩
  · exact ⟨by show 1 ≤ 60; decide, h.ok, True.intro⟩
  · exact True.intro
  · exact ⟨by show 1 ≤ 60; decide, h.ok, True.intro⟩
  · exact ⟨by show 3 ≤ 60; decide, okS_of (by decide +kernel), okS_of (by decide +kernel), True.intro, True.intro⟩
def spOdd2 : Sp := fun vs H Q _ => ∃ (b : Addr) (nm : Str), vs = [.ref b, .str nm] ∧ Bag H b ∧ NameOk nm ∧ ∀ (v : V) (d : PyData) (H' : Hp), Dq H' b v d → okD d → Bag H' b → Keep b H H' → (∀ c, BagAt H b c → BagAt H' b c) → Q v H'
def spLaw (K : PySem.W.Frag) : Sp := fun vs H Q _ => ∃ (a : Addr) (ns : List Int), vs = [.ref a] ∧ SqL K H a (ns.map V.int) ∧ ns.length ≤ 63 ∧ ∀ H', Q (.bl true) H'
abbrev nLaw : List Str := ["_law_script", "_law_bag_here", "_law_turn", "_law_statement_here", "_law_again", "_law_odd_here", "_law_thing"]
section
variable {P : Program} {w : World} {K : PySem.W.Frag} {mg : Str → Option Value} {base : Heap} {C : Addr}
theorem ok_odd2 {f fT : Addr} {fd fdT : FuncData} (F : Fun K "_law_odd" "_law_odd" sOdd f fd) (GT : FnOk P w K mg base CX0 1 fT fdT ["_law_bag_here", "_law_many"] spTake) (bT : Binds K fdT ["_law_bag_here", "_law_many"] []) (mT : mg "_law_take" = some (.ref fT)) (kT : PySem.W.keepIn K (.ref fT) = true)
    (mi : mg "int" = none) (ml : mg "len" = none) : FnOk P w K mg base CX0 2 f fd ["_law_bag_here", "_law_name_here"] spOdd2 := by
  refine F.ok scO (fun vs H Q E h => ?_) (fun cdv A outer s H vs Q E hr h => ?_)
  · obtain ⟨b, nm, rfl, _⟩ := h
    rfl
  · obtain ⟨b, nm, rfl, B, hnm, q⟩ := h
    refine ⟨_, pss_cons (ps_set (i := 2) scO.nd rfl (.inl rfl) (pe_callTy call_int_str (by rfl) mi (by decide +kernel) (pa_cons (pe_op op_add_str pe_str (pe_op op_zeros pe_str (pe_call GT hr (by rfl) mT kT bT .nil pass0 (pa_cons (pv 0) (pa_cons pe_int pa_nil))))) pa_nil)))
      (pss_cons (ps_set (i := 3) scO.nd rfl (.inl rfl) (pe_lstB (pa_cons pe_int (pa_cons pe_int (pa_cons (pe_un un_neg pe_int) (pa_cons (pv 2) (pa_cons (pe_un un_neg (pv 2)) (pa_cons pe_bl (pa_cons pe_bl (pa_cons pe_non (pa_cons pe_str (pa_cons pe_str (pa_cons (pv 1) (pa_cons (pe_op op_add_str (pv 1) pe_str) (pa_cons pe_str pa_nil)))))))))))))))
      (pss_cons (ps_aug (i := 3) scO.nd rfl (.inl rfl) (pe_lstB (pa_cons pe_str (pa_cons pe_str (pa_cons pe_str (pa_cons pe_str pa_nil))))) iop_ext)
      (pss_cons (ps_aug (i := 3) scO.nd rfl (.inl rfl) (pe_lstB (pa_cons pe_str (pa_cons pe_str (pa_cons pe_str (pa_cons pe_str (pa_cons (pe_lstB pa_nil) (pa_cons (pe_tup pa_nil) (pa_cons pe_dnewK (pa_cons (pe_lstB (pa_cons pe_int pa_nil)) (pa_cons (pe_tup (pa_cons pe_int pa_nil)) (pa_cons (pe_tup (pa_cons (pv 1) pa_nil))
          (pa_cons (pe_disp (pps_cons (pv 1) pe_int pps_nil) (by rfl) (by rfl) (fun z => by cases z) (by decide)) (pa_cons (pe_lstB (pa_cons (pv 1) pa_nil)) (pa_cons (pe_tup (pa_cons pe_str (pa_cons pe_str (pa_cons pe_int pa_nil)))) pa_nil)))))))))))))) iop_ext)
      (pss_one (ps_ret (pe_ix ix_list (pv 3) (pe_call GT hr (by rfl) mT kT bT .nil pass0 (pa_cons (pv 0) (pa_cons (pe_callB call_len_seq (by rfl) ml PySem.boot_len (pa_cons (pv 3) pa_nil)) pa_nil))) (fun _ _ => rfl))))))), ?_⟩
    refine ⟨_, rfl, b, 40, rfl, B, by decide, by decide, fun n H1 hn B1 k1 gs1 => ?_⟩
    have hn' : n < 40 := by omega
    obtain ⟨it, il⟩ := int_zeros n hn'
    refine ⟨n, rfl, rfl, by omega, _, _, rfl, rfl, Nat.le_trans (by rw [← strLen_append]; exact il) (by decide), _, _, rfl, it, il, ?_⟩
    refine ⟨_, rfl, _, rfl, _, rfl, _, rfl, _, rfl, _, rfl, _, _, rfl, rfl, ?_, by show 13 ≤ sizeLine; decide, fun p np mp => ?_⟩
    · have h1 := hnm.1
      have h2 : ("z" : Str).length = 1 := by decide +kernel
      have h3 : 101 ≤ sizeLine := by decide
      rw [h2]
      omega
    have pb : p ≠ b := by
      obtain ⟨o, e⟩ := B1.at_b
      exact (ne_of_none e np).symm
    dsimp only
    refine cutK (fun σ' H2 => σ' = [some (.ref b), some (.str nm), some (.int (ten n)), some (.ref p)] ∧ Same H1 H2 ∧ H2 p = some (.lst (odd17 n nm))) ?_ (fun k => ?_)
    · rintro σ' H2 ⟨rfl, s2, hp⟩
      have B2 : Bag H2 b := B1.same s2
      obtain ⟨ob, hb⟩ := B2.at_b
      refine ⟨_, rfl, Nat.zero_le _, fun a1 n1 m1 => ?_⟩
      refine ⟨Nat.zero_le _, fun a2 n2 => ?_⟩
      refine fun a3 n3 => ?_
      refine ⟨by show 1 ≤ sizeLine; decide, fun a4 n4 m4 => ?_⟩
      refine ⟨by show 1 ≤ sizeLine; decide, fun a5 n5 => ?_⟩
      refine ⟨_, rfl, by show 1 ≤ sizeLine; decide, fun a6 n6 => ?_⟩
      refine fun a7 n7 => ?_
      refine ⟨_, rfl, upd_same, [(Sum.inr nm, .int 1)], rfl, by show 1 ≤ 15; decide, ?_⟩
      refine ⟨_, rfl, by show 1 ≤ sizeLine; decide, fun a8 n8 m8 => ?_⟩
      refine ⟨by show 3 ≤ sizeLine; decide, fun a9 n9 => ?_⟩
      refine ⟨by show 13 ≤ sizeLine; decide, fun p3 n10 _ => ?_⟩
      have t1 := same_upd (o := .lst []) n1
      have t2 := same_upd (o := .tup []) n2
      have t3 := same_upd (o := .dK []) n3
      have t4 := same_upd (o := .lst [.int 1]) n4
      have t5 := same_upd (o := .tup [.int 0]) n5
      have t6 := same_upd (o := .tup [.str nm]) n6
      have t7 := same_twice (o := .dK []) (u := .dK [(Sum.inr nm, .int 1)]) n7
      have t8 := same_upd (o := .lst [.str nm]) n8
      have t9 := same_upd (o := .tup [.str "", .str "", .int 0]) n9
      have t10 := same_upd (o := .lst [.str "plain", .str "high", .str "low", .str "Plain", .ref a1, .ref a2, .ref a3, .ref a4, .ref a5, .ref a6, .ref a7, .ref a8, .ref a9]) n10
      have p0 : ∃ u, H2 p = some u := ⟨_, hp⟩
      have p1 := there t1 p0
      have p2 := there t2 p1
      have p3' := there t3 p2
      have p4 := there t4 p3'
      have p5 := there t5 p4
      have p6 := there t6 p5
      have p7 := there t7 p6
      have p8 := there t8 p7
      have c0 : ∃ u, H2 b = some u := ⟨_, hb⟩
      have c1 := there t1 c0
      have c2 := there t2 c1
      have c3 := there t3 c2
      have c4 := there t4 c3
      have c5 := there t5 c4
      have c6 := there t6 c5
      have c7 := there t7 c6
      have c8 := there t8 c7
      have hp9 := t9 _ _ (t8 _ _ (t7 _ _ (t6 _ _ (t5 _ _ (t4 _ _ (t3 _ _ (t2 _ _ (t1 _ _ hp))))))))
      have pp3 := ne_of_none hp9 n10
      refine ⟨p, p3, _, _, rfl, rfl, by rw [upd_ne pp3]; exact hp9, upd_same, by show 30 ≤ sizeLine; decide, ?_⟩
      have K9 : Keep p _ (upd _ p (.lst (odd30 n nm a1 a2 a3 a4 a5 a6 a7 a8 a9))) := (Keep.same (p := p) t10).trans Keep.upd
      have K8 := (Keep.same (p := p) t9).trans K9
      have K7 := (Keep.same (p := p) t8).trans K8
      have K6 := (Keep.same (p := p) t7).trans K7
      have K5 := (Keep.same (p := p) t6).trans K6
      have K4 := (Keep.same (p := p) t5).trans K5
      have K3 := (Keep.same (p := p) t4).trans K4
      have K2 := (Keep.same (p := p) t3).trans K3
      have K1 := (Keep.same (p := p) t2).trans K2
      have K0 := (Keep.same (p := p) t1).trans K1
      obtain ⟨g1, b1⟩ := item n1 p0 c0 K1
      obtain ⟨g2, b2⟩ := item n2 p1 c1 K2
      obtain ⟨g3, b3⟩ := item n3 p2 c2 K3
      obtain ⟨g4, b4⟩ := item n4 p3' c3 K4
      obtain ⟨g5, b5⟩ := item n5 p4 c4 K5
      obtain ⟨g6, b6⟩ := item n6 p5 c5 K6
      have b7 : a7 ≠ b := by
        obtain ⟨u, e⟩ := c6
        exact (ne_of_none e n7).symm
      have g7 := K7 a7 _ (by
        obtain ⟨u, e⟩ := p6
        exact (ne_of_none e n7).symm) upd_same
      obtain ⟨g8, b8⟩ := item n8 p7 c7 K8
      obtain ⟨g9, b9⟩ := item n9 p8 c8 K9
      have sf : Same H1 _ := fun a o e => K0 a o (ne_of_none e np) (s2 a o e)
      have Bf := B1.same sf
      refine ⟨_, rfl, _, rfl, _, rfl, p, _, rfl, .inl (SqL.of upd_same), b, 30, rfl, Bf, by decide, by decide, fun r H' r1 B' k' gs2 => ?_⟩
      have hD := odd_all (n := n) (nm := nm) g1 b1 m1 g2 b2 g3 b3 g4 b4 m4 g5 b5 g6 b6 g7 b7 g8 b8 m8 g9 b9
      have hr30 : r < (odd30 n nm a1 a2 a3 a4 a5 a6 a7 a8 a9).length := by show r < 30; omega
      obtain ⟨d, md, dq⟩ := hD.get (List.getElem?_eq_getElem hr30)
      refine ⟨p, odd30 n nm a1 a2 a3 a4 a5 a6 a7 a8 a9, r, _, rfl, rfl, SqL.of (k' p _ pb upd_same), atI_nat (List.getElem?_eq_getElem hr30), ?_⟩
      refine q _ d H' (dq.mono k') (odd_okD hn' hnm d md) B' ((k1.trans (Keep.same sf)).trans k') fun c hc => gs2 c ((gs1 c hc).same sf)
    · refine ⟨_, rfl, by show 4 ≤ sizeLine; decide, fun p2 np2 _ => ?_⟩
      have pp2 : p ≠ p2 := ne_of_none upd_same np2
      refine ⟨p, p2, _, _, rfl, rfl, by rw [upd_ne pp2]; exact upd_same, upd_same, by show 17 ≤ sizeLine; decide, ?_⟩
      refine k _ _ ⟨rfl, fun a o e => ?_, upd_same⟩
      have z1 : a ≠ p := ne_of_none e np
      have z2 : a ≠ p2 := ne_of_none (by rw [upd_ne z1]; exact e) np2
      rw [upd_ne z1, upd_ne z2, upd_ne z1]
      exact e
theorem scLaw : FnScope nLaw ["_law_script"] (defScope sLaw) := ⟨rfl, rfl, rfl, by decide +kernel, rfl, by decide +kernel, by decide +kernel⟩
theorem ok_law {f fB fT fD fR fL fO fN fI fS fA fY iF : Addr} {fd fdB fdT fdD fdR fdL fdO fdN fdI fdS fdA fdY fdF : FuncData} {ad : Addr} {oe : Obj} (F : Fun K "law" "law" sLaw f fd)
    (GB : FnOk P w K mg base CX0 1 fB fdB ["_law_script"] (spBag K)) (bB : Binds K fdB ["_law_script"] []) (mB : mg "_law_bag" = some (.ref fB)) (kB : PySem.W.keepIn K (.ref fB) = true)
    (GT : FnOk P w K mg base CX0 1 fT fdT ["_law_bag_here", "_law_many"] spTake) (bT : Binds K fdT ["_law_bag_here", "_law_many"] []) (mT : mg "_law_take" = some (.ref fT)) (kT : PySem.W.keepIn K (.ref fT) = true)
    (GD : FnOk P w K mg base CX0 5 fD fdD ["_law_bag_here"] spDrawn) (bD : Binds K fdD ["_law_bag_here"] []) (mD : mg "_law_drawn" = some (.ref fD)) (kD : PySem.W.keepIn K (.ref fD) = true)
    (GR : FnG P w K mg base 6 fR fdR ["_law_bag_here", "_law_handed", "_law_statement_here"] spRight) (bR : BindG fdR ["_law_bag_here", "_law_handed", "_law_statement_here"]) (mR : mg "_law_right" = some (.ref fR)) (kR : PySem.W.keepIn K (.ref fR) = true)
    (GL : FnOk P w K mg base CX0 2 fL fdL ["_law_bag_here", "_law_statement_here"] spLoose) (bL : Binds K fdL ["_law_bag_here", "_law_statement_here"] []) (mL : mg "_law_loose" = some (.ref fL)) (kL : PySem.W.keepIn K (.ref fL) = true)
    (GO : FnOk P w K mg base CX0 2 fO fdO ["_law_bag_here", "_law_name_here"] spOdd2) (bO : Binds K fdO ["_law_bag_here", "_law_name_here"] []) (mO : mg "_law_odd" = some (.ref fO)) (kO : PySem.W.keepIn K (.ref fO) = true)
    (GN : FnOk P w K mg base CX0 3 fN fdN ["_law_bag_here", "_law_many"] spNames) (bN : Binds K fdN ["_law_bag_here", "_law_many"] []) (mN : mg "_law_names" = some (.ref fN)) (kN : PySem.W.keepIn K (.ref fN) = true)
    (GI : FnOk P w K mg base CX0 5 fI fdI ["thing"] (spX C stD)) (bI : Binds K fdI ["thing"] []) (mI : mg "is_statement" = some (.ref fI)) (kI : PySem.W.keepIn K (.ref fI) = true)
    (GS : FnOk P w K mg base CX0 2 fS fdS ["_law_bag_here", "_law_statement_here", "_law_odd_here"] (spSpoilt C)) (bS : Binds K fdS ["_law_bag_here", "_law_statement_here", "_law_odd_here"] []) (mS : mg "_law_spoilt" = some (.ref fS)) (kS : PySem.W.keepIn K (.ref fS) = true)
    (GA : FnG P w K mg base 1 fA fdA ["_law_found", "_law_due"] spAlike2) (bA : BindG fdA ["_law_found", "_law_due"]) (mA : mg "_law_alike" = some (.ref fA)) (kA : PySem.W.keepIn K (.ref fA) = true)
    (GY : FnOk P w K mg base CX0 5 fY fdY ["_law_thing"] (spX C stD)) (bY : Binds K fdY ["_law_thing"] []) (mY : mg "_law_is_statement" = some (.ref fY)) (kY : PySem.W.keepIn K (.ref fY) = true)
    (MK : Mk K C iF) (GF : FnOk P w K mg base CX0 3 iF fdF ["self", "names", "facts"] (spIni K C)) (bF : Binds K fdF ["self", "names", "facts"] [.ref ad]) (gC : mg "Facts" = some (.ref C)) (lk : K.lookup ad = some oe) (ct : oe.cls = .type "tuple") (ht : ∀ H, SqT K H ad [])
    (mr : mg "range" = none) (mi : mg "int" = none) : FnG P w K mg base 7 f fd ["_law_script"] (spLaw K) := by
  refine okG F scLaw (fun vs H Q E h => ?_) (fun cdv A outer s H vs Q E hg hr h => ?_)
  · obtain ⟨a, ns, rfl, _⟩ := h
    rfl
  · obtain ⟨a, ns, rfl, hS, hl, q⟩ := h
    have hr1 : Room 1 _ := hr.mono (by decide)
    have hr2 : Room 2 _ := hr.mono (by decide)
    have hr3 : Room 3 _ := hr.mono (by decide)
    have hr4 : Room 4 _ := hr.mono (by decide)
    have hr5 : Room 5 _ := hr.mono (by decide)
    refine ⟨_, pss_cons (ps_set (i := 1) scLaw.nd rfl (.inl rfl) (pe_call GB hr1 (by rfl) mB kB bB .nil pass0 (pa_cons (pv 0) pa_nil)))
      (pss_cons (ps_for PassesOwn.never rfl (pi_range1 (by rfl) mr (pa_cons pe_int pa_nil)) (pg_name (i := 2) scLaw.nd rfl (.inl rfl))
        (pss_cons (ps_set (i := 3) scLaw.nd rfl (.inl rfl) (pe_call GD hr5 (by rfl) mD kD bD .nil pass0 (pa_cons (pv 1) pa_nil)))
        (pss_cons (ps_if (pt_not (pt_val (pe_callG GR hg hr (by rfl) mR kR bR (pa_cons (pv 1) (pa_cons (pe_call GL hr2 (by rfl) mL kL bL .nil pass0 (pa_cons (pv 1) (pa_cons (pv 3) pa_nil))) (pa_cons (pv 3) pa_nil)))))) (pss_one (ps_ret pe_bl)) pss_nil)
        (pss_one (ps_for PassesOwn.never rfl (pi_range1 (by rfl) mr (pa_cons pe_int pa_nil)) (pg_name (i := 4) scLaw.nd rfl (.inl rfl))
          (pss_cons (ps_set (i := 5) scLaw.nd rfl (.inl rfl) (pe_ix (r := rIxL K) ix_list (pe_lst (pa_cons (pe_call GO hr2 (by rfl) mO kO bO .nil pass0 (pa_cons (pv 1) (pa_cons (pe_ix (r := rIxL K) ix_list (pe_call GN hr3 (by rfl) mN kN bN .nil pass0 (pa_cons (pv 1) (pa_cons pe_int pa_nil))) pe_int (fun _ _ => rfl)) pa_nil)))
                (pa_cons (pe_make MK GF hr4 (by rfl) gC bF (dvs := [.ref ad]) (.cons rfl .nil) pass0 (pa_cons (pe_lst (pa_cons pe_str pa_nil)) pa_nil)) pa_nil)))
              (pe_callTy call_int1 (by rfl) mi (by decide +kernel) (pa_cons (pe_cmpR op_eq (pe_call GT hr1 (by rfl) mT kT bT .nil pass0 (pa_cons (pv 1) (pa_cons pe_int pa_nil))) pe_int (nomark _)) pa_nil)) (fun _ _ => rfl)))
          (pss_cons (ps_set (i := 6) scLaw.nd rfl (.inl rfl) (pe_ifExp (pt_cmpR op_lt (pv 4) pe_int (nomark _)) (pe_call GS hr2 (by rfl) mS kS bS .nil pass0 (pa_cons (pv 1) (pa_cons (pv 3) (pa_cons (pv 5) pa_nil)))) (pv 5)))
          (pss_cons (ps_if (pt_not (pt_val (pe_callG GA hg hr1 (by rfl) mA kA bA (pa_cons (pe_call GI hr5 (by rfl) mI kI bI .nil pass0 (pa_cons (pv 6) pa_nil)) (pa_cons (pe_call GY hr5 (by rfl) mY kY bY .nil pass0 (pa_cons (pv 6) pa_nil)) pa_nil))))) (pss_one (ps_ret pe_bl)) pss_nil)
          (pss_one (ps_if (pt_not (pt_val (pe_callG GA hg hr1 (by rfl) mA kA bA (pa_cons (pe_call GI hr5 (by rfl) mI kI bI .nil pass0 (pa_cons (pv 6) pa_nil)) (pa_cons (pe_call GY hr5 (by rfl) mY kY bY .nil pass0 (pa_cons (pv 6) pa_nil)) pa_nil))))) (pss_one (ps_ret pe_bl)) pss_nil))))))))))
      (pss_one (ps_ret pe_bl))), ?_⟩
    refine ⟨_, rfl, a, ns, rfl, hS, hl, fun b H1 B1 s1 => ?_⟩
    dsimp only [gName]
    refine ⟨6, rfl, by decide, by decide, ?_⟩
    refine for_range (lo := 0) (n := (6 : Int).toNat) (fun i σ H' => ∃ y2 y3 y4 y5 y6 : Option V, σ = [some (.ref a), some (.ref b), y2, y3, y4, y5, y6] ∧ Bag H' b)
      ⟨none, none, none, none, none, rfl, B1⟩ ?_ ?_
    · rintro i σ G hi ⟨y2, y3, y4, y5, y6, rfl, BG⟩
      dsimp only [gName]
      refine ⟨_, rfl, b, rfl, BG, fun pd d G1 hd od sd fz sm BG1 k1 => ?_⟩
      dsimp only [gName]
      refine ⟨_, rfl, _, rfl, _, rfl, b, .ref pd, d, rfl, BG1, hd, od, sd, fz, fun pl d' G2 hd' od' sd' fd' BG2 k2 g2 => ?_⟩
      refine ⟨_, rfl, b, .ref pl, .ref pd, d, d', rfl, BG2, hd', od', sd', fd', hd.mono k2, od, sd, fz, sm, fun G3 BG3 k3 => ⟨_, rfl, iteF ?_⟩⟩
      have hd3 := (hd.mono k2).mono k3
      refine ⟨6, rfl, by decide, by decide, ?_⟩
      refine for_range (lo := 0) (n := (6 : Int).toNat) (fun i σ H' => ∃ y2 y4 y5 y6 : Option V, σ = [some (.ref a), some (.ref b), y2, some (.ref pd), y4, y5, y6] ∧ Bag H' b ∧ Keep b G3 H')
        ⟨_, _, _, _, rfl, BG3, Keep.refl⟩ ?_ ?_
      · rintro j σ M hj ⟨y2, y4, y5, y6, rfl, BM, kM⟩
        dsimp only [gName]
        refine ⟨_, rfl, _, rfl, b, 1, rfl, BM, by decide, by decide, fun pn zs M1 ez lz pnb zok BM1 k1 => ?_⟩
        obtain ⟨nm, rfl⟩ : ∃ nm, zs = [nm] := by
          match zs, lz with
          | [nm], _ => exact ⟨nm, rfl⟩
        have hnm := zok nm List.mem_cons_self
        have hnk : NameOk nm := ⟨by have := hnm.2.1; omega, fun c hc => abc_small c (hnm.2.2 c hc)⟩
        refine ⟨pn, _, _, .str nm, rfl, rfl, SqL.of ez, atI_nat (j := 0) rfl, ?_⟩
        refine ⟨b, nm, rfl, BM1, hnk, fun v dv M2 hv odv BM2 k2 _ => ?_⟩
        refine ⟨by show 1 ≤ sizeLine; decide, fun pa na => ?_⟩
        have BM2' := BM2.new (o := .lst [.str "a"]) na
        have kpa : Keep b M2 (upd M2 pa (.lst [.str "a"])) := Keep.new na
        have epa := (upd_same : (upd M2 pa (.lst [.str "a"])) pa = some (.lst [.str "a"]))
        generalize upd M2 pa (.lst [.str "a"]) = M2' at BM2' kpa epa ⊢
        intro x dx nx ndx nex
        have pax : pa ≠ x := ne_of_none epa nx
        have padx : pa ≠ dx := ne_of_none epa ndx
        refine ⟨x, pa, ad, dx, oe, rfl, upd_same, by rw [upd_ne pax, upd_ne padx]; exact epa, pax, lk, ct, ht, fun M3 fs ex keep => ⟨rfl, ?_⟩⟩
        have s23 : Same M2' M3 := fun c o e => keep c o (ne_of_none e nx) (by rw [upd_ne (ne_of_none e nx), upd_ne (ne_of_none e ndx)]; exact e)
        have BM3 := BM2'.same s23
        have k3 : Keep b M M3 := ((k1.trans k2).trans kpa).trans (Keep.same s23)
        have xb : x ≠ b := by
          obtain ⟨o, e⟩ := Bag.at_b BM2'
          exact (ne_of_none e nx).symm
        have hv3 := (hv.mono kpa).mono (Keep.same (p := b) s23)
        clear s23 keep
        refine ⟨by show 2 ≤ sizeLine; decide, fun W nW => ?_⟩
        have s4 := same_upd (o := .lst [v, .ref x]) nW
        have eW := (upd_same : (upd M3 W (.lst [v, .ref x])) W = some (.lst [v, .ref x]))
        generalize upd M3 W (.lst [v, .ref x]) = M4 at s4 eW ⊢
        have BM4 := BM3.same s4
        have Wb : W ≠ b := by
          obtain ⟨o, e⟩ := Bag.at_b BM3
          exact (ne_of_none e nW).symm
        refine ⟨_, rfl, b, 8, rfl, BM4, by decide, by decide, fun r M5 hr8 BM5 k5 _ => ⟨rfl, ?_⟩⟩
        have eW5 := k5 _ _ Wb eW
        have hv5 := (hv3.mono (Keep.same (p := b) s4)).mono k5
        have ex5 := k5 _ _ xb (s4 _ _ ex)
        have k05 : Keep b G3 M5 := (kM.trans k3).trans ((Keep.same s4).trans k5)
        obtain ⟨t, et⟩ : ∃ t : Bool, t = decide (V.int (r : Int) = V.int 0) := ⟨_, rfl⟩
        rw [← et]
        clear et
        obtain ⟨u, o, hu, ho, hat⟩ : ∃ (u : V) (o : PyData), Dx C M5 b u o ∧ okD o ∧ atI [v, .ref x] (if t = true then 1 else 0) = some u := by
          cases t with
          | true => exact ⟨.ref x, .none, .obj ex5 xb, True.intro, rfl⟩
          | false => exact ⟨v, dv, hv5.x, odv, rfl⟩
        refine .inr ⟨_, rfl, ?_⟩
        refine ⟨W, _, (if t = true then 1 else 0), u, rfl, rfl, SqL.of eW5, hat, ?_⟩
        dsimp only [gName]
        refine cutK (fun σ' H' => ∃ (z : V) (e : PyData), σ' = [some (.ref a), some (.ref b), y2, some (.ref pd), some (.int (0 + (j : Int))), some u, some z] ∧ Dx C H' b z e ∧ okD e ∧ Bag H' b ∧ Keep b G3 H') ?_ (fun kk => ?_)
        · rintro σ' M6 ⟨z, e, rfl, hz, oz, BM6, k06⟩
          obtain ⟨ob, hob⟩ := Bag.at_b BM6
          have two : ∀ {M7 : Hp}, Same M6 M7 → Dx C M7 b z e := fun {M7} s => hz.mono fun c o _ e => s c o e
          refine ⟨_, rfl, b, z, e, rfl, hz, oz, ⟨_, hob⟩, fun M7 s7 => ?_⟩
          refine ⟨_, rfl, b, z, e, rfl, two s7, oz, ⟨_, s7 _ _ hob⟩, fun M8 s8 => ?_⟩
          have t8 := s7.trans s8
          refine ⟨b, _, _, .bool (stD e), rfl, .bl _, .bl _, Wide.bool _, _, rfl, iteF ?_⟩
          refine ⟨_, rfl, b, z, e, rfl, two t8, oz, ⟨_, t8 _ _ hob⟩, fun M9 s9 => ?_⟩
          have t9 := t8.trans s9
          refine ⟨_, rfl, b, z, e, rfl, two t9, oz, ⟨_, t9 _ _ hob⟩, fun M10 s10 => ?_⟩
          have t10 := t9.trans s10
          refine ⟨b, _, _, .bool (stD e), rfl, .bl _, .bl _, Wide.bool _, _, rfl, iteF ?_⟩
          exact ⟨_, _, _, _, rfl, BM6.same t10, k06.trans (Keep.same t10)⟩
        · refine ⟨_, rfl, _, _, rfl, rfl, _, rfl, ite2 (fun _ => ?_) (fun _ => ?_)⟩
          · refine ⟨_, rfl, _, rfl, _, rfl, b, .ref pd, u, d, o, rfl, BM5, hd3.mono k05, od, sd, fz, sm, hu, ho, fun z e M6 hz oz BM6 k6 => ?_⟩
            exact kk _ _ ⟨z, e, rfl, hz, oz, BM6, k05.trans k6⟩
          · refine ⟨_, rfl, ?_⟩
            exact kk _ _ ⟨u, o, rfl, hu, ho, BM5, k05⟩
      · rintro σ M ⟨y2, y4, y5, y6, rfl, BM, kM⟩
        exact ⟨_, _, _, _, _, rfl, BM⟩
    · rintro σ G ⟨y2, y3, y4, y5, y6, rfl, BG⟩
      exact q G
end
end Fv


set_option Elab.async false
set_option linter.all false
set_option maxRecDepth 100000
set_option maxHeartbeats 4000000
namespace Fv
open PySem PySem.Spec PyProof.Rows L2
/-- what the written part says of the __init__ of an own error -/
structure IniF (K : PySem.W.Frag) (C f : Addr) (qual : Str) (st : Stmt) : Prop where
  ox : OexC K C
  fi : PySem.W.findIn K (.ref C) "__init__" = some (some (.ref f))
  tI : PySem.W.typeIn K (.ref f) = some (.type "function")
  fn : ∃ fd, Fun K "__init__" qual st f fd
/-- the own class's order of classes -/
def Mro (K : PySem.W.Frag) (C : Addr) (m : List Value) : Prop := ∃ cd, PySem.W.clsIn K C = some cd ∧ cd.mro = m
theorem Mro.sub {K : PySem.W.Frag} {C : Addr} {a0 : Value} {l0 : List Value} (h : Mro K C (a0 :: l0)) (b : Value) : PySem.W.subIn K (.ref C) b = some ((a0 :: l0).contains b) := by
  obtain ⟨cd, e, em⟩ := h
  show (PySem.W.clsIn K C).bind _ = _
  rw [e, Option.bind_some, em]
  rfl
theorem Mro.kit {K : PySem.W.Frag} {C : Addr} {a0 : Value} {l0 : List Value} (h : Mro K C (a0 :: l0)) {T : String} (hm : PySem.W.kitMeta T = true) : PySem.W.kitOne K (.ref C) (.type T) = some ((a0 :: l0).contains (.type T)) := by
  unfold PySem.W.kitOne
  have n : ((Value.ref C : Value) == .type T) = false := by
    rw [beq_eq_false_iff_ne]
    exact nofun
  rw [n, if_neg (by decide)]
  unfold PySem.W.kitCls
  dsimp only
  rw [if_pos hm, h.sub]
theorem Mro.exm {K : PySem.W.Frag} {C : Addr} {a0 : Value} {l0 : List Value} (h : Mro K C (a0 :: l0)) (hb : (a0 :: l0).contains (.type "BaseException") = true) (hs : (a0 :: l0).contains (.ref C) = true) (ht : PySem.W.typeIn K (.ref C) = some (.type "type")) : PySem.W.exmOne K (.ref C) (.ref C) = some true := by
  unfold PySem.W.exmOne
  rw [h.sub, hb, if_pos (by rfl)]
  unfold PySem.W.kitCls
  dsimp only
  have hi : (PySem.W.clsIn K C).isSome = true := by
    obtain ⟨cd, e, _⟩ := h
    rw [e]
    rfl
  rw [if_pos (by rw [hi, ht] <;> rfl), h.sub, hs]
theorem ini_binds {K : PySem.W.Frag} {T ad : Addr} {oT : Obj} {n : Nat} {kV dc pm cd ct : Value} {an : Option Addr} (lT : K.lookup T = some oT) (dT : oT.data = .seq #[.ref ad] n) :
    Binds K (PySem.W.fnOf "__init__" "Facts.__init__" (defArgs sInit) (defBody sInit) (defScope sInit) (.ref T) kV dc pm an cd ct) ["self", "names", "facts"] [.ref ad] := by
  intro s us hK hl
  have h2 : us.length = 2 := by
    rw [List.length_append] at hl
    have : us.length + 1 = 3 := hl
    omega
  match us, h2 with
  | [a, b], _ =>
    exact BindsTo.of_looks fun M => looks_items hK lT dT (KwChain.looks (D := T) hK (l := []) (fun q hq => by cases hq) rfl)
theorem all_mk {l : PySem.W.OpenLaw} {w : World} {K : PySem.W.Frag} {h : Heap} {mg : Str → Option Value} {fa : Addr} (X : K.In h) (G : h.Ns mainGlobals mg) (hfa : mg "law" = some (.ref fa))
    {C AE CE iE iF Tt ad aP : Addr} {oT oe : Obj} {oci kVi dci pmi cdi cti : Value} {odi ani : Option Addr} {sli : Array (Option Value)} {tL tN : Tok}
    {f0 f1 f2 f3 f4 f5 f6 f7 f8 f9 f10 f11 f12 f13 f14 f15 f16 f17 f18 f19 f20 f21 f22 f23 f24 f25 f26 f27 f28 f29 f30 f31 f32 f33 f34 f35 f36 f37 f38 f39 f40 f41 f42 f43 f44 f45 f46 f47 f48 : Addr}
    {od0 an0 od1 an1 od2 an2 od3 an3 od4 an4 od5 an5 od6 an6 od7 an7 od8 an8 od9 an9 od10 an10 od11 an11 od12 an12 od13 an13 od14 an14 od15 an15 od16 an16 od17 an17 od18 an18 od19 an19 od20 an20 od21 an21 od22 an22 od23 an23 od24 an24 od25 an25 od26 an26 od27 an27 od28 an28 od29 an29 od30 an30 od31 an31 od32 an32 od33 an33 od34 an34 od35 an35 od36 an36 od37 an37 od38 an38 od39 an39 od40 an40 od41 an41 od42 an42 od43 an43 od44 an44 od45 an45 od46 an46 od47 an47 od48 an48 : Option Addr} {sl0 sl1 sl2 sl3 sl4 sl5 sl6 sl7 sl8 sl9 sl10 sl11 sl12 sl13 sl14 sl15 sl16 sl17 sl18 sl19 sl20 sl21 sl22 sl23 sl24 sl25 sl26 sl27 sl28 sl29 sl30 sl31 sl32 sl33 sl34 sl35 sl36 sl37 sl38 sl39 sl40 sl41 sl42 sl43 sl44 sl45 sl46 sl47 sl48 : Array (Option Value)} {oc0 kV0 dc0 pm0 cd0 ct0 oc1 kV1 dc1 pm1 cd1 ct1 oc2 kV2 dc2 pm2 cd2 ct2 oc3 kV3 dc3 pm3 cd3 ct3 oc4 kV4 dc4 pm4 cd4 ct4 oc5 kV5 dc5 pm5 cd5 ct5 oc6 kV6 dc6 pm6 cd6 ct6 oc7 kV7 dc7 pm7 cd7 ct7 oc8 kV8 dc8 pm8 cd8 ct8 oc9 kV9 dc9 pm9 cd9 ct9 oc10 kV10 dc10 pm10 cd10 ct10 oc11 kV11 dc11 pm11 cd11 ct11 oc12 kV12 dc12 pm12 cd12 ct12 oc13 kV13 dc13 pm13 cd13 ct13 oc14 kV14 dc14 pm14 cd14 ct14 oc15 kV15 dc15 pm15 cd15 ct15 oc16 kV16 dc16 pm16 cd16 ct16 oc17 kV17 dc17 pm17 cd17 ct17 oc18 kV18 dc18 pm18 cd18 ct18 oc19 kV19 dc19 pm19 cd19 ct19 oc20 kV20 dc20 pm20 cd20 ct20 oc21 kV21 dc21 pm21 cd21 ct21 oc22 kV22 dc22 pm22 cd22 ct22 oc23 kV23 dc23 pm23 cd23 ct23 oc24 kV24 dc24 pm24 cd24 ct24 oc25 kV25 dc25 pm25 cd25 ct25 oc26 kV26 dc26 pm26 cd26 ct26 oc27 kV27 dc27 pm27 cd27 ct27 oc28 kV28 dc28 pm28 cd28 ct28 oc29 kV29 dc29 pm29 cd29 ct29 oc30 kV30 dc30 pm30 cd30 ct30 oc31 kV31 dc31 pm31 cd31 ct31 oc32 kV32 dc32 pm32 cd32 ct32 oc33 kV33 dc33 pm33 cd33 ct33 oc34 kV34 dc34 pm34 cd34 ct34 oc35 kV35 dc35 pm35 cd35 ct35 oc36 kV36 dc36 pm36 cd36 ct36 oc37 kV37 dc37 pm37 cd37 ct37 oc38 kV38 dc38 pm38 cd38 ct38 oc39 kV39 dc39 pm39 cd39 ct39 oc40 kV40 dc40 pm40 cd40 ct40 oc41 kV41 dc41 pm41 cd41 ct41 oc42 kV42 dc42 pm42 cd42 ct42 oc43 kV43 dc43 pm43 cd43 ct43 oc44 kV44 dc44 pm44 cd44 ct44 oc45 kV45 dc45 pm45 cd45 ct45 oc46 kV46 dc46 pm46 cd46 ct46 oc47 kV47 dc47 pm47 cd47 ct47 oc48 kV48 dc48 pm48 cd48 ct48 : Value}
    (eF : PySem.W.nsIn K mainGlobals "Facts" = some (some (.ref C)))
    (eN : PySem.W.nsIn K mainGlobals "NoEntry" = some (some (.ref CE)))
    (tC : Cls K C)
    (tM : Mro K C [.ref C, .type "object"])
    (tH : PySem.W.findIn K (.ref C) "__class__" = some (some (.builtin "object.__class__")))
    (hn : PySem.W.specialIn K (.builtin "object.__class__") "__get__" = some (some (.builtin "getset_descriptor.__get__")))
    (hk : PySem.W.takesIn K (.builtin "object.__class__") = some true)
    (g1 : PySem.W.findIn K (.ref C) "_names" = some none)
    (g2 : PySem.W.findIn K (.ref C) "_table" = some none)
    (mk : Mk K C iF)
    (li : K.lookup iF = some ⟨oci, odi, .func (PySem.W.fnOf "__init__" "Facts.__init__" (defArgs sInit) (defBody sInit) (defScope sInit) (.ref Tt) kVi dci pmi ani cdi cti), sli⟩)
    (ci : PySem.W.codeIn K cdi "Facts.__init__" = true)
    (ki : PySem.W.keepIn K (.ref iF) = true)
    (lT : K.lookup Tt = some oT)
    (dT : ∃ n, oT.data = .seq #[.ref ad] n)
    (lk : K.lookup ad = some oe)
    (ct : oe.cls = .type "tuple")
    (de : ∃ n, oe.data = .seq #[] n)
    (xE : ExcC K CE)
    (nE : PySem.W.findIn K (.ref CE) "many" = some none)
    (mE : Mro K CE [.ref CE, .ref AE, .type "ValueError", .type "Exception", .type "BaseException", .type "object"])
    (jE : IniF K CE iE "NoEntry.__init__" (inClass (top 7) 0))
    (cL : PySem.W.nsIn K mainGlobals "LETTERS" = some (some (.str abc tL)))
    (cN : PySem.W.nsIn K mainGlobals "LONGEST_NAME" = some (some (.int 8 tN)))
    (cP : PySem.W.nsIn K mainGlobals "PARTS" = some (some (.ref aP)))
    (p0 : KDct K w aP "set" (.int 1))
    (p1 : KDct K w aP "most" (.int 2))
    (p2 : KDct K w aP "least" (.int 2))
    (p3 : KDct K w aP "call" (.int 2))
    (a0 : PySem.W.nsIn K mainGlobals "is_integer" = some (some (.ref f0)))
    (l0 : K.lookup f0 = some ⟨oc0, od0, .func (PySem.W.fnOf "is_integer" "is_integer" (defArgs sIsInt) (defBody sIsInt) (defScope sIsInt) .none kV0 dc0 pm0 an0 cd0 ct0), sl0⟩)
    (c0 : PySem.W.codeIn K cd0 "is_integer" = true)
    (k0 : PySem.W.keepIn K (.ref f0) = true)
    (a1 : PySem.W.nsIn K mainGlobals "is_name" = some (some (.ref f1)))
    (l1 : K.lookup f1 = some ⟨oc1, od1, .func (PySem.W.fnOf "is_name" "is_name" (defArgs sIsName) (defBody sIsName) (defScope sIsName) .none kV1 dc1 pm1 an1 cd1 ct1), sl1⟩)
    (c1 : PySem.W.codeIn K cd1 "is_name" = true)
    (k1 : PySem.W.keepIn K (.ref f1) = true)
    (a2 : PySem.W.nsIn K mainGlobals "is_source" = some (some (.ref f2)))
    (l2 : K.lookup f2 = some ⟨oc2, od2, .func (PySem.W.fnOf "is_source" "is_source" (defArgs sIsSource) (defBody sIsSource) (defScope sIsSource) .none kV2 dc2 pm2 an2 cd2 ct2), sl2⟩)
    (c2 : PySem.W.codeIn K cd2 "is_source" = true)
    (k2 : PySem.W.keepIn K (.ref f2) = true)
    (a3 : PySem.W.nsIn K mainGlobals "check_arguments" = some (some (.ref f3)))
    (l3 : K.lookup f3 = some ⟨oc3, od3, .func (PySem.W.fnOf "check_arguments" "check_arguments" (defArgs sChk) (defBody sChk) (defScope sChk) .none kV3 dc3 pm3 an3 cd3 ct3), sl3⟩)
    (c3 : PySem.W.codeIn K cd3 "check_arguments" = true)
    (k3 : PySem.W.keepIn K (.ref f3) = true)
    (a4 : PySem.W.nsIn K mainGlobals "is_row" = some (some (.ref f4)))
    (l4 : K.lookup f4 = some ⟨oc4, od4, .func (PySem.W.fnOf "is_row" "is_row" (defArgs sIsRow) (defBody sIsRow) (defScope sIsRow) .none kV4 dc4 pm4 an4 cd4 ct4), sl4⟩)
    (c4 : PySem.W.codeIn K cd4 "is_row" = true)
    (k4 : PySem.W.keepIn K (.ref f4) = true)
    (a5 : PySem.W.nsIn K mainGlobals "are_names" = some (some (.ref f5)))
    (l5 : K.lookup f5 = some ⟨oc5, od5, .func (PySem.W.fnOf "are_names" "are_names" (defArgs sAreNames) (defBody sAreNames) (defScope sAreNames) .none kV5 dc5 pm5 an5 cd5 ct5), sl5⟩)
    (c5 : PySem.W.codeIn K cd5 "are_names" = true)
    (k5 : PySem.W.keepIn K (.ref f5) = true)
    (a6 : PySem.W.nsIn K mainGlobals "is_statement" = some (some (.ref f6)))
    (l6 : K.lookup f6 = some ⟨oc6, od6, .func (PySem.W.fnOf "is_statement" "is_statement" (defArgs sIsSt) (defBody sIsSt) (defScope sIsSt) .none kV6 dc6 pm6 an6 cd6 ct6), sl6⟩)
    (c6 : PySem.W.codeIn K cd6 "is_statement" = true)
    (k6 : PySem.W.keepIn K (.ref f6) = true)
    (a7 : PySem.W.nsIn K mainGlobals "frozen" = some (some (.ref f7)))
    (l7 : K.lookup f7 = some ⟨oc7, od7, .func (PySem.W.fnOf "frozen" "frozen" (defArgs sFrozen) (defBody sFrozen) (defScope sFrozen) .none kV7 dc7 pm7 an7 cd7 ct7), sl7⟩)
    (c7 : PySem.W.codeIn K cd7 "frozen" = true)
    (k7 : PySem.W.keepIn K (.ref f7) = true)
    (a8 : PySem.W.nsIn K mainGlobals "sets" = some (some (.ref f8)))
    (l8 : K.lookup f8 = some ⟨oc8, od8, .func (PySem.W.fnOf "sets" "sets" (defArgs sSets) (defBody sSets) (defScope sSets) .none kV8 dc8 pm8 an8 cd8 ct8), sl8⟩)
    (c8 : PySem.W.codeIn K cd8 "sets" = true)
    (k8 : PySem.W.keepIn K (.ref f8) = true)
    (a9 : PySem.W.nsIn K mainGlobals "reads" = some (some (.ref f9)))
    (l9 : K.lookup f9 = some ⟨oc9, od9, .func (PySem.W.fnOf "reads" "reads" (defArgs sReads) (defBody sReads) (defScope sReads) .none kV9 dc9 pm9 an9 cd9 ct9), sl9⟩)
    (c9 : PySem.W.codeIn K cd9 "reads" = true)
    (k9 : PySem.W.keepIn K (.ref f9) = true)
    (a10 : PySem.W.nsIn K mainGlobals "numbers" = some (some (.ref f10)))
    (l10 : K.lookup f10 = some ⟨oc10, od10, .func (PySem.W.fnOf "numbers" "numbers" (defArgs sNumbers) (defBody sNumbers) (defScope sNumbers) .none kV10 dc10 pm10 an10 cd10 ct10), sl10⟩)
    (c10 : PySem.W.codeIn K cd10 "numbers" = true)
    (k10 : PySem.W.keepIn K (.ref f10) = true)
    (a11 : PySem.W.nsIn K mainGlobals "with_number" = some (some (.ref f11)))
    (l11 : K.lookup f11 = some ⟨oc11, od11, .func (PySem.W.fnOf "with_number" "with_number" (defArgs sWith) (defBody sWith) (defScope sWith) .none kV11 dc11 pm11 an11 cd11 ct11), sl11⟩)
    (c11 : PySem.W.codeIn K cd11 "with_number" = true)
    (k11 : PySem.W.keepIn K (.ref f11) = true)
    (a12 : PySem.W.nsIn K mainGlobals "with_numbers" = some (some (.ref f12)))
    (l12 : K.lookup f12 = some ⟨oc12, od12, .func (PySem.W.fnOf "with_numbers" "with_numbers" (defArgs sWiths) (defBody sWiths) (defScope sWiths) .none kV12 dc12 pm12 an12 cd12 ct12), sl12⟩)
    (c12 : PySem.W.codeIn K cd12 "with_numbers" = true)
    (k12 : PySem.W.keepIn K (.ref f12) = true)
    (a13 : PySem.W.nsIn K mainGlobals "_parts" = some (some (.ref f13)))
    (l13 : K.lookup f13 = some ⟨oc13, od13, .func (PySem.W.fnOf "_parts" "_parts" (defArgs sParts) (defBody sParts) (defScope sParts) .none kV13 dc13 pm13 an13 cd13 ct13), sl13⟩)
    (c13 : PySem.W.codeIn K cd13 "_parts" = true)
    (k13 : PySem.W.keepIn K (.ref f13) = true)
    (a14 : PySem.W.nsIn K mainGlobals "_are_settings" = some (some (.ref f14)))
    (l14 : K.lookup f14 = some ⟨oc14, od14, .func (PySem.W.fnOf "_are_settings" "_are_settings" (defArgs sAreSettings) (defBody sAreSettings) (defScope sAreSettings) .none kV14 dc14 pm14 an14 cd14 ct14), sl14⟩)
    (c14 : PySem.W.codeIn K cd14 "_are_settings" = true)
    (k14 : PySem.W.keepIn K (.ref f14) = true)
    (a15 : PySem.W.nsIn K mainGlobals "_is_setting" = some (some (.ref f15)))
    (l15 : K.lookup f15 = some ⟨oc15, od15, .func (PySem.W.fnOf "_is_setting" "_is_setting" (defArgs sIsSetting) (defBody sIsSetting) (defScope sIsSetting) .none kV15 dc15 pm15 an15 cd15 ct15), sl15⟩)
    (c15 : PySem.W.codeIn K cd15 "_is_setting" = true)
    (k15 : PySem.W.keepIn K (.ref f15) = true)
    (a16 : PySem.W.nsIn K mainGlobals "_are_parts" = some (some (.ref f16)))
    (l16 : K.lookup f16 = some ⟨oc16, od16, .func (PySem.W.fnOf "_are_parts" "_are_parts" (defArgs sAreParts) (defBody sAreParts) (defScope sAreParts) .none kV16 dc16 pm16 an16 cd16 ct16), sl16⟩)
    (c16 : PySem.W.codeIn K cd16 "_are_parts" = true)
    (k16 : PySem.W.keepIn K (.ref f16) = true)
    (a17 : PySem.W.nsIn K mainGlobals "_is_part" = some (some (.ref f17)))
    (l17 : K.lookup f17 = some ⟨oc17, od17, .func (PySem.W.fnOf "_is_part" "_is_part" (defArgs sIsPart) (defBody sIsPart) (defScope sIsPart) .none kV17 dc17 pm17 an17 cd17 ct17), sl17⟩)
    (c17 : PySem.W.codeIn K cd17 "_is_part" = true)
    (k17 : PySem.W.keepIn K (.ref f17) = true)
    (a18 : PySem.W.nsIn K mainGlobals "_are_facts" = some (some (.ref f18)))
    (l18 : K.lookup f18 = some ⟨oc18, od18, .func (PySem.W.fnOf "_are_facts" "_are_facts" (defArgs sAreFacts) (defBody sAreFacts) (defScope sAreFacts) .none kV18 dc18 pm18 an18 cd18 ct18), sl18⟩)
    (c18 : PySem.W.codeIn K cd18 "_are_facts" = true)
    (k18 : PySem.W.keepIn K (.ref f18) = true)
    (a19 : PySem.W.nsIn K mainGlobals "_check_sources" = some (some (.ref f19)))
    (l19 : K.lookup f19 = some ⟨oc19, od19, .func (PySem.W.fnOf "_check_sources" "_check_sources" (defArgs sChkSrc) (defBody sChkSrc) (defScope sChkSrc) .none kV19 dc19 pm19 an19 cd19 ct19), sl19⟩)
    (c19 : PySem.W.codeIn K cd19 "_check_sources" = true)
    (k19 : PySem.W.keepIn K (.ref f19) = true)
    (a20 : PySem.W.nsIn K mainGlobals "_tightest" = some (some (.ref f20)))
    (l20 : K.lookup f20 = some ⟨oc20, od20, .func (PySem.W.fnOf "_tightest" "_tightest" (defArgs sTight) (defBody sTight) (defScope sTight) .none kV20 dc20 pm20 an20 cd20 ct20), sl20⟩)
    (c20 : PySem.W.codeIn K cd20 "_tightest" = true)
    (k20 : PySem.W.keepIn K (.ref f20) = true)
    (a21 : PySem.W.nsIn K mainGlobals "_closed" = some (some (.ref f21)))
    (l21 : K.lookup f21 = some ⟨oc21, od21, .func (PySem.W.fnOf "_closed" "_closed" (defArgs sClosed) (defBody sClosed) (defScope sClosed) .none kV21 dc21 pm21 an21 cd21 ct21), sl21⟩)
    (c21 : PySem.W.codeIn K cd21 "_closed" = true)
    (k21 : PySem.W.keepIn K (.ref f21) = true)
    (a22 : PySem.W.nsIn K mainGlobals "_law_bag" = some (some (.ref f22)))
    (l22 : K.lookup f22 = some ⟨oc22, od22, .func (PySem.W.fnOf "_law_bag" "_law_bag" (defArgs sBag) (defBody sBag) (defScope sBag) .none kV22 dc22 pm22 an22 cd22 ct22), sl22⟩)
    (c22 : PySem.W.codeIn K cd22 "_law_bag" = true)
    (k22 : PySem.W.keepIn K (.ref f22) = true)
    (a23 : PySem.W.nsIn K mainGlobals "_law_take" = some (some (.ref f23)))
    (l23 : K.lookup f23 = some ⟨oc23, od23, .func (PySem.W.fnOf "_law_take" "_law_take" (defArgs sTake) (defBody sTake) (defScope sTake) .none kV23 dc23 pm23 an23 cd23 ct23), sl23⟩)
    (c23 : PySem.W.codeIn K cd23 "_law_take" = true)
    (k23 : PySem.W.keepIn K (.ref f23) = true)
    (a24 : PySem.W.nsIn K mainGlobals "_law_alike" = some (some (.ref f24)))
    (l24 : K.lookup f24 = some ⟨oc24, od24, .func (PySem.W.fnOf "_law_alike" "_law_alike" (defArgs sAlike) (defBody sAlike) (defScope sAlike) .none kV24 dc24 pm24 an24 cd24 ct24), sl24⟩)
    (c24 : PySem.W.codeIn K cd24 "_law_alike" = true)
    (k24 : PySem.W.keepIn K (.ref f24) = true)
    (a25 : PySem.W.nsIn K mainGlobals "_law_mixed" = some (some (.ref f25)))
    (l25 : K.lookup f25 = some ⟨oc25, od25, .func (PySem.W.fnOf "_law_mixed" "_law_mixed" (defArgs sMixed) (defBody sMixed) (defScope sMixed) .none kV25 dc25 pm25 an25 cd25 ct25), sl25⟩)
    (c25 : PySem.W.codeIn K cd25 "_law_mixed" = true)
    (k25 : PySem.W.keepIn K (.ref f25) = true)
    (a26 : PySem.W.nsIn K mainGlobals "_law_names" = some (some (.ref f26)))
    (l26 : K.lookup f26 = some ⟨oc26, od26, .func (PySem.W.fnOf "_law_names" "_law_names" (defArgs sNames) (defBody sNames) (defScope sNames) .none kV26 dc26 pm26 an26 cd26 ct26), sl26⟩)
    (c26 : PySem.W.codeIn K cd26 "_law_names" = true)
    (k26 : PySem.W.keepIn K (.ref f26) = true)
    (a27 : PySem.W.nsIn K mainGlobals "_law_number" = some (some (.ref f27)))
    (l27 : K.lookup f27 = some ⟨oc27, od27, .func (PySem.W.fnOf "_law_number" "_law_number" (defArgs sNumber) (defBody sNumber) (defScope sNumber) .none kV27 dc27 pm27 an27 cd27 ct27), sl27⟩)
    (c27 : PySem.W.codeIn K cd27 "_law_number" = true)
    (k27 : PySem.W.keepIn K (.ref f27) = true)
    (a28 : PySem.W.nsIn K mainGlobals "_law_kinds" = some (some (.ref f28)))
    (l28 : K.lookup f28 = some ⟨oc28, od28, .func (PySem.W.fnOf "_law_kinds" "_law_kinds" (defArgs sKinds) (defBody sKinds) (defScope sKinds) .none kV28 dc28 pm28 an28 cd28 ct28), sl28⟩)
    (c28 : PySem.W.codeIn K cd28 "_law_kinds" = true)
    (k28 : PySem.W.keepIn K (.ref f28) = true)
    (a29 : PySem.W.nsIn K mainGlobals "_law_part" = some (some (.ref f29)))
    (l29 : K.lookup f29 = some ⟨oc29, od29, .func (PySem.W.fnOf "_law_part" "_law_part" (defArgs sPart) (defBody sPart) (defScope sPart) .none kV29 dc29 pm29 an29 cd29 ct29), sl29⟩)
    (c29 : PySem.W.codeIn K cd29 "_law_part" = true)
    (k29 : PySem.W.keepIn K (.ref f29) = true)
    (a30 : PySem.W.nsIn K mainGlobals "_law_statement" = some (some (.ref f30)))
    (l30 : K.lookup f30 = some ⟨oc30, od30, .func (PySem.W.fnOf "_law_statement" "_law_statement" (defArgs sSt) (defBody sSt) (defScope sSt) .none kV30 dc30 pm30 an30 cd30 ct30), sl30⟩)
    (c30 : PySem.W.codeIn K cd30 "_law_statement" = true)
    (k30 : PySem.W.keepIn K (.ref f30) = true)
    (a31 : PySem.W.nsIn K mainGlobals "_law_call" = some (some (.ref f31)))
    (l31 : K.lookup f31 = some ⟨oc31, od31, .func (PySem.W.fnOf "_law_call" "_law_call" (defArgs sCall) (defBody sCall) (defScope sCall) .none kV31 dc31 pm31 an31 cd31 ct31), sl31⟩)
    (c31 : PySem.W.codeIn K cd31 "_law_call" = true)
    (k31 : PySem.W.keepIn K (.ref f31) = true)
    (a32 : PySem.W.nsIn K mainGlobals "_law_odd" = some (some (.ref f32)))
    (l32 : K.lookup f32 = some ⟨oc32, od32, .func (PySem.W.fnOf "_law_odd" "_law_odd" (defArgs sOdd) (defBody sOdd) (defScope sOdd) .none kV32 dc32 pm32 an32 cd32 ct32), sl32⟩)
    (c32 : PySem.W.codeIn K cd32 "_law_odd" = true)
    (k32 : PySem.W.keepIn K (.ref f32) = true)
    (a33 : PySem.W.nsIn K mainGlobals "_law_name" = some (some (.ref f33)))
    (l33 : K.lookup f33 = some ⟨oc33, od33, .func (PySem.W.fnOf "_law_name" "_law_name" (defArgs sLName) (defBody sLName) (defScope sLName) .none kV33 dc33 pm33 an33 cd33 ct33), sl33⟩)
    (c33 : PySem.W.codeIn K cd33 "_law_name" = true)
    (k33 : PySem.W.keepIn K (.ref f33) = true)
    (a34 : PySem.W.nsIn K mainGlobals "_law_source" = some (some (.ref f34)))
    (l34 : K.lookup f34 = some ⟨oc34, od34, .func (PySem.W.fnOf "_law_source" "_law_source" (defArgs sLSource) (defBody sLSource) (defScope sLSource) .none kV34 dc34 pm34 an34 cd34 ct34), sl34⟩)
    (c34 : PySem.W.codeIn K cd34 "_law_source" = true)
    (k34 : PySem.W.keepIn K (.ref f34) = true)
    (a35 : PySem.W.nsIn K mainGlobals "_law_whole" = some (some (.ref f35)))
    (l35 : K.lookup f35 = some ⟨oc35, od35, .func (PySem.W.fnOf "_law_whole" "_law_whole" (defArgs sLWhole) (defBody sLWhole) (defScope sLWhole) .none kV35 dc35 pm35 an35 cd35 ct35), sl35⟩)
    (c35 : PySem.W.codeIn K cd35 "_law_whole" = true)
    (k35 : PySem.W.keepIn K (.ref f35) = true)
    (a36 : PySem.W.nsIn K mainGlobals "_law_row" = some (some (.ref f36)))
    (l36 : K.lookup f36 = some ⟨oc36, od36, .func (PySem.W.fnOf "_law_row" "_law_row" (defArgs sLRow) (defBody sLRow) (defScope sLRow) .none kV36 dc36 pm36 an36 cd36 ct36), sl36⟩)
    (c36 : PySem.W.codeIn K cd36 "_law_row" = true)
    (k36 : PySem.W.keepIn K (.ref f36) = true)
    (a37 : PySem.W.nsIn K mainGlobals "_law_pairs" = some (some (.ref f37)))
    (l37 : K.lookup f37 = some ⟨oc37, od37, .func (PySem.W.fnOf "_law_pairs" "_law_pairs" (defArgs sLPairs) (defBody sLPairs) (defScope sLPairs) .none kV37 dc37 pm37 an37 cd37 ct37), sl37⟩)
    (c37 : PySem.W.codeIn K cd37 "_law_pairs" = true)
    (k37 : PySem.W.keepIn K (.ref f37) = true)
    (a38 : PySem.W.nsIn K mainGlobals "_law_unlike" = some (some (.ref f38)))
    (l38 : K.lookup f38 = some ⟨oc38, od38, .func (PySem.W.fnOf "_law_unlike" "_law_unlike" (defArgs sLUnlike) (defBody sLUnlike) (defScope sLUnlike) .none kV38 dc38 pm38 an38 cd38 ct38), sl38⟩)
    (c38 : PySem.W.codeIn K cd38 "_law_unlike" = true)
    (k38 : PySem.W.keepIn K (.ref f38) = true)
    (a39 : PySem.W.nsIn K mainGlobals "_law_triples" = some (some (.ref f39)))
    (l39 : K.lookup f39 = some ⟨oc39, od39, .func (PySem.W.fnOf "_law_triples" "_law_triples" (defArgs sLTriples) (defBody sLTriples) (defScope sLTriples) .none kV39 dc39 pm39 an39 cd39 ct39), sl39⟩)
    (c39 : PySem.W.codeIn K cd39 "_law_triples" = true)
    (k39 : PySem.W.keepIn K (.ref f39) = true)
    (a40 : PySem.W.nsIn K mainGlobals "_law_is_statement" = some (some (.ref f40)))
    (l40 : K.lookup f40 = some ⟨oc40, od40, .func (PySem.W.fnOf "_law_is_statement" "_law_is_statement" (defArgs sLIsSt) (defBody sLIsSt) (defScope sLIsSt) .none kV40 dc40 pm40 an40 cd40 ct40), sl40⟩)
    (c40 : PySem.W.codeIn K cd40 "_law_is_statement" = true)
    (k40 : PySem.W.keepIn K (.ref f40) = true)
    (a41 : PySem.W.nsIn K mainGlobals "_law_spoilt" = some (some (.ref f41)))
    (l41 : K.lookup f41 = some ⟨oc41, od41, .func (PySem.W.fnOf "_law_spoilt" "_law_spoilt" (defArgs sSpoilt) (defBody sSpoilt) (defScope sSpoilt) .none kV41 dc41 pm41 an41 cd41 ct41), sl41⟩)
    (c41 : PySem.W.codeIn K cd41 "_law_spoilt" = true)
    (k41 : PySem.W.keepIn K (.ref f41) = true)
    (a42 : PySem.W.nsIn K mainGlobals "_law_drawn" = some (some (.ref f42)))
    (l42 : K.lookup f42 = some ⟨oc42, od42, .func (PySem.W.fnOf "_law_drawn" "_law_drawn" (defArgs sDrawn) (defBody sDrawn) (defScope sDrawn) .none kV42 dc42 pm42 an42 cd42 ct42), sl42⟩)
    (c42 : PySem.W.codeIn K cd42 "_law_drawn" = true)
    (k42 : PySem.W.keepIn K (.ref f42) = true)
    (a43 : PySem.W.nsIn K mainGlobals "_law_loose" = some (some (.ref f43)))
    (l43 : K.lookup f43 = some ⟨oc43, od43, .func (PySem.W.fnOf "_law_loose" "_law_loose" (defArgs sLoose) (defBody sLoose) (defScope sLoose) .none kV43 dc43 pm43 an43 cd43 ct43), sl43⟩)
    (c43 : PySem.W.codeIn K cd43 "_law_loose" = true)
    (k43 : PySem.W.keepIn K (.ref f43) = true)
    (a44 : PySem.W.nsIn K mainGlobals "_law_parted" = some (some (.ref f44)))
    (l44 : K.lookup f44 = some ⟨oc44, od44, .func (PySem.W.fnOf "_law_parted" "_law_parted" (defArgs sParted) (defBody sParted) (defScope sParted) .none kV44 dc44 pm44 an44 cd44 ct44), sl44⟩)
    (c44 : PySem.W.codeIn K cd44 "_law_parted" = true)
    (k44 : PySem.W.keepIn K (.ref f44) = true)
    (a45 : PySem.W.nsIn K mainGlobals "_law_put" = some (some (.ref f45)))
    (l45 : K.lookup f45 = some ⟨oc45, od45, .func (PySem.W.fnOf "_law_put" "_law_put" (defArgs sPut) (defBody sPut) (defScope sPut) .none kV45 dc45 pm45 an45 cd45 ct45), sl45⟩)
    (c45 : PySem.W.codeIn K cd45 "_law_put" = true)
    (k45 : PySem.W.keepIn K (.ref f45) = true)
    (a46 : PySem.W.nsIn K mainGlobals "_law_with" = some (some (.ref f46)))
    (l46 : K.lookup f46 = some ⟨oc46, od46, .func (PySem.W.fnOf "_law_with" "_law_with" (defArgs sLWith) (defBody sLWith) (defScope sLWith) .none kV46 dc46 pm46 an46 cd46 ct46), sl46⟩)
    (c46 : PySem.W.codeIn K cd46 "_law_with" = true)
    (k46 : PySem.W.keepIn K (.ref f46) = true)
    (a47 : PySem.W.nsIn K mainGlobals "_law_right" = some (some (.ref f47)))
    (l47 : K.lookup f47 = some ⟨oc47, od47, .func (PySem.W.fnOf "_law_right" "_law_right" (defArgs sRight) (defBody sRight) (defScope sRight) .none kV47 dc47 pm47 an47 cd47 ct47), sl47⟩)
    (c47 : PySem.W.codeIn K cd47 "_law_right" = true)
    (k47 : PySem.W.keepIn K (.ref f47) = true)
    (a48 : PySem.W.nsIn K mainGlobals "law" = some (some (.ref f48)))
    (l48 : K.lookup f48 = some ⟨oc48, od48, .func (PySem.W.fnOf "law" "law" (defArgs sLaw) (defBody sLaw) (defScope sLaw) .none kV48 dc48 pm48 an48 cd48 ct48), sl48⟩)
    (c48 : PySem.W.codeIn K cd48 "law" = true)
    (k48 : PySem.W.keepIn K (.ref f48) = true)
    (z0 : PySem.W.nsIn K mainGlobals "abs" = some none)
    (z1 : PySem.W.nsIn K mainGlobals "int" = some none)
    (z2 : PySem.W.nsIn K mainGlobals "len" = some none)
    (z3 : PySem.W.nsIn K mainGlobals "isinstance" = some none)
    (z4 : PySem.W.nsIn K mainGlobals "bool" = some none)
    (z5 : PySem.W.nsIn K mainGlobals "str" = some none)
    (z6 : PySem.W.nsIn K mainGlobals "all" = some none)
    (z7 : PySem.W.nsIn K mainGlobals "range" = some none)
    (z8 : PySem.W.nsIn K mainGlobals "repr" = some none)
    (z9 : PySem.W.nsIn K mainGlobals "list" = some none)
    (z10 : PySem.W.nsIn K mainGlobals "tuple" = some none)
    (z11 : PySem.W.nsIn K mainGlobals "sorted" = some none)
    (z12 : PySem.W.nsIn K mainGlobals "enumerate" = some none)
    (z13 : PySem.W.nsIn K mainGlobals "zip" = some none) :
    ∃ fd : FuncData, (∀ (s : Shared) (v : Value), BindsTo s fd ⟨[v], []⟩ [("_law_script", v)]) ∧ ∀ base : Heap, K.In base → base.Ns mainGlobals mg → FnG l.prog w K mg base 7 fa fd ["_law_script"] (spLaw K) := by
  have e := hfa.symm.trans (PySem.W.mg_of X G a48)
  cases e
  have F0 := fun_mk (st := sIsInt) l0 c0 k0
  have b0 := F0.binds (ps := ["thing"]) fun _ _ _ _ _ _ us hl => match us, hl with | [_], _ => rfl
  have F1 := fun_mk (st := sIsName) l1 c1 k1
  have b1 := F1.binds (ps := ["thing"]) fun _ _ _ _ _ _ us hl => match us, hl with | [_], _ => rfl
  have F2 := fun_mk (st := sIsSource) l2 c2 k2
  have b2 := F2.binds (ps := ["thing"]) fun _ _ _ _ _ _ us hl => match us, hl with | [_], _ => rfl
  have F3 := fun_mk (st := sChk) l3 c3 k3
  have b3 := F3.binds (ps := ["rights"]) fun _ _ _ _ _ _ us hl => match us, hl with | [_], _ => rfl
  have F4 := fun_mk (st := sIsRow) l4 c4 k4
  have b4 := F4.binds (ps := ["thing"]) fun _ _ _ _ _ _ us hl => match us, hl with | [_], _ => rfl
  have F5 := fun_mk (st := sAreNames) l5 c5 k5
  have b5 := F5.binds (ps := ["thing"]) fun _ _ _ _ _ _ us hl => match us, hl with | [_], _ => rfl
  have F6 := fun_mk (st := sIsSt) l6 c6 k6
  have b6 := F6.binds (ps := ["thing"]) fun _ _ _ _ _ _ us hl => match us, hl with | [_], _ => rfl
  have F7 := fun_mk (st := sFrozen) l7 c7 k7
  have b7 := F7.binds (ps := ["statement"]) fun _ _ _ _ _ _ us hl => match us, hl with | [_], _ => rfl
  have F8 := fun_mk (st := sSets) l8 c8 k8
  have b8 := F8.binds (ps := ["statement"]) fun _ _ _ _ _ _ us hl => match us, hl with | [_], _ => rfl
  have F9 := fun_mk (st := sReads) l9 c9 k9
  have b9 := F9.binds (ps := ["statement"]) fun _ _ _ _ _ _ us hl => match us, hl with | [_], _ => rfl
  have F10 := fun_mk (st := sNumbers) l10 c10 k10
  have b10 := F10.binds (ps := ["statement"]) fun _ _ _ _ _ _ us hl => match us, hl with | [_], _ => rfl
  have F11 := fun_mk (st := sWith) l11 c11 k11
  have b11 := F11.binds (ps := ["statement", "at", "number"]) fun _ _ _ _ _ _ us hl => match us, hl with | [_, _, _], _ => rfl
  have F12 := fun_mk (st := sWiths) l12 c12 k12
  have b12 := F12.binds (ps := ["statement", "new"]) fun _ _ _ _ _ _ us hl => match us, hl with | [_, _], _ => rfl
  have F13 := fun_mk (st := sParts) l13 c13 k13
  have b13 := F13.binds (ps := ["statement"]) fun _ _ _ _ _ _ us hl => match us, hl with | [_], _ => rfl
  have F14 := fun_mk (st := sAreSettings) l14 c14 k14
  have b14 := F14.binds (ps := ["thing"]) fun _ _ _ _ _ _ us hl => match us, hl with | [_], _ => rfl
  have F15 := fun_mk (st := sIsSetting) l15 c15 k15
  have b15 := F15.binds (ps := ["thing"]) fun _ _ _ _ _ _ us hl => match us, hl with | [_], _ => rfl
  have F16 := fun_mk (st := sAreParts) l16 c16 k16
  have b16 := F16.binds (ps := ["thing"]) fun _ _ _ _ _ _ us hl => match us, hl with | [_], _ => rfl
  have F17 := fun_mk (st := sIsPart) l17 c17 k17
  have b17 := F17.binds (ps := ["thing"]) fun _ _ _ _ _ _ us hl => match us, hl with | [_], _ => rfl
  have F18 := fun_mk (st := sAreFacts) l18 c18 k18
  have b18 := F18.binds (ps := ["thing"]) fun _ _ _ _ _ _ us hl => match us, hl with | [_], _ => rfl
  have F19 := fun_mk (st := sChkSrc) l19 c19 k19
  have b19 := F19.binds (ps := ["names", "facts"]) fun _ _ _ _ _ _ us hl => match us, hl with | [_, _], _ => rfl
  have F20 := fun_mk (st := sTight) l20 c20 k20
  have b20 := F20.binds (ps := ["facts"]) fun _ _ _ _ _ _ us hl => match us, hl with | [_], _ => rfl
  have F21 := fun_mk (st := sClosed) l21 c21 k21
  have b21 := F21.binds (ps := ["facts"]) fun _ _ _ _ _ _ us hl => match us, hl with | [_], _ => rfl
  have F22 := fun_mk (st := sBag) l22 c22 k22
  have b22 := F22.binds (ps := ["_law_script"]) fun _ _ _ _ _ _ us hl => match us, hl with | [_], _ => rfl
  have F23 := fun_mk (st := sTake) l23 c23 k23
  have b23 := F23.binds (ps := ["_law_bag_here", "_law_many"]) fun _ _ _ _ _ _ us hl => match us, hl with | [_, _], _ => rfl
  have F24 := fun_mk (st := sAlike) l24 c24 k24
  have b24 := bindG_of F24 (ps := ["_law_found", "_law_due"]) fun _ _ _ _ _ _ us hl => match us, hl with | [_, _], _ => rfl
  have F25 := fun_mk (st := sMixed) l25 c25 k25
  have b25 := F25.binds (ps := ["_law_bag_here", "_law_things"]) fun _ _ _ _ _ _ us hl => match us, hl with | [_, _], _ => rfl
  have F26 := fun_mk (st := sNames) l26 c26 k26
  have b26 := F26.binds (ps := ["_law_bag_here", "_law_many"]) fun _ _ _ _ _ _ us hl => match us, hl with | [_, _], _ => rfl
  have F27 := fun_mk (st := sNumber) l27 c27 k27
  have b27 := F27.binds (ps := ["_law_bag_here"]) fun _ _ _ _ _ _ us hl => match us, hl with | [_], _ => rfl
  have F28 := fun_mk (st := sKinds) l28 c28 k28
  have b28 := F28.binds (ps := ["_law_bag_here", "_law_names_here"]) fun _ _ _ _ _ _ us hl => match us, hl with | [_, _], _ => rfl
  have F29 := fun_mk (st := sPart) l29 c29 k29
  have b29 := F29.binds (ps := ["_law_bag_here", "_law_kinds_here", "_law_kind"]) fun _ _ _ _ _ _ us hl => match us, hl with | [_, _, _], _ => rfl
  have F30 := fun_mk (st := sSt) l30 c30 k30
  have b30 := F30.binds (ps := ["_law_bag_here", "_law_kinds_here"]) fun _ _ _ _ _ _ us hl => match us, hl with | [_, _], _ => rfl
  have F31 := fun_mk (st := sCall) l31 c31 k31
  have b31 := F31.binds (ps := ["_law_bag_here", "_law_kinds_here", "_law_name_here", "_law_other"]) fun _ _ _ _ _ _ us hl => match us, hl with | [_, _, _, _], _ => rfl
  have F32 := fun_mk (st := sOdd) l32 c32 k32
  have b32 := F32.binds (ps := ["_law_bag_here", "_law_name_here"]) fun _ _ _ _ _ _ us hl => match us, hl with | [_, _], _ => rfl
  have F33 := fun_mk (st := sLName) l33 c33 k33
  have b33 := F33.binds (ps := ["_law_thing"]) fun _ _ _ _ _ _ us hl => match us, hl with | [_], _ => rfl
  have F34 := fun_mk (st := sLSource) l34 c34 k34
  have b34 := F34.binds (ps := ["_law_thing"]) fun _ _ _ _ _ _ us hl => match us, hl with | [_], _ => rfl
  have F35 := fun_mk (st := sLWhole) l35 c35 k35
  have b35 := F35.binds (ps := ["_law_thing"]) fun _ _ _ _ _ _ us hl => match us, hl with | [_], _ => rfl
  have F36 := fun_mk (st := sLRow) l36 c36 k36
  have b36 := F36.binds (ps := ["_law_thing"]) fun _ _ _ _ _ _ us hl => match us, hl with | [_], _ => rfl
  have F37 := fun_mk (st := sLPairs) l37 c37 k37
  have b37 := F37.binds (ps := ["_law_thing"]) fun _ _ _ _ _ _ us hl => match us, hl with | [_], _ => rfl
  have F38 := fun_mk (st := sLUnlike) l38 c38 k38
  have b38 := F38.binds (ps := ["_law_thing"]) fun _ _ _ _ _ _ us hl => match us, hl with | [_], _ => rfl
  have F39 := fun_mk (st := sLTriples) l39 c39 k39
  have b39 := F39.binds (ps := ["_law_thing"]) fun _ _ _ _ _ _ us hl => match us, hl with | [_], _ => rfl
  have F40 := fun_mk (st := sLIsSt) l40 c40 k40
  have b40 := F40.binds (ps := ["_law_thing"]) fun _ _ _ _ _ _ us hl => match us, hl with | [_], _ => rfl
  have F41 := fun_mk (st := sSpoilt) l41 c41 k41
  have b41 := F41.binds (ps := ["_law_bag_here", "_law_statement_here", "_law_odd_here"]) fun _ _ _ _ _ _ us hl => match us, hl with | [_, _, _], _ => rfl
  have F42 := fun_mk (st := sDrawn) l42 c42 k42
  have b42 := F42.binds (ps := ["_law_bag_here"]) fun _ _ _ _ _ _ us hl => match us, hl with | [_], _ => rfl
  have F43 := fun_mk (st := sLoose) l43 c43 k43
  have b43 := F43.binds (ps := ["_law_bag_here", "_law_statement_here"]) fun _ _ _ _ _ _ us hl => match us, hl with | [_, _], _ => rfl
  have F44 := fun_mk (st := sParted) l44 c44 k44
  have b44 := F44.binds (ps := ["_law_statement_here"]) fun _ _ _ _ _ _ us hl => match us, hl with | [_], _ => rfl
  have F45 := fun_mk (st := sPut) l45 c45 k45
  have b45 := F45.binds (ps := ["_law_statement_here", "_law_at", "_law_number_here"]) fun _ _ _ _ _ _ us hl => match us, hl with | [_, _, _], _ => rfl
  have F46 := fun_mk (st := sLWith) l46 c46 k46
  have b46 := F46.binds (ps := ["_law_statement_here", "_law_at", "_law_number_here"]) fun _ _ _ _ _ _ us hl => match us, hl with | [_, _, _], _ => rfl
  have F47 := fun_mk (st := sRight) l47 c47 k47
  have b47 := bindG_of F47 (ps := ["_law_bag_here", "_law_handed", "_law_statement_here"]) fun _ _ _ _ _ _ us hl => match us, hl with | [_, _, _], _ => rfl
  have F48 := fun_mk (st := sLaw) l48 c48 k48
  obtain ⟨nT, dT⟩ := dT
  obtain ⟨ne, de⟩ := de
  have FI : FunD K "__init__" "Facts.__init__" (defArgs sInit) (defBody sInit) (defScope sInit) [.ref ad] [] iF _ := ⟨⟨oci, odi, .ref Tt, kVi, dci, pmi, ani, cdi, cti, sli, rfl, li, ci, .inr ⟨nofun, Tt, oT, [.ref ad], nT, rfl, lT, dT, .cons rfl .nil⟩, .inl rfl⟩, ki⟩
  have bI := ini_binds (kV := kVi) (dc := dci) (pm := pmi) (cd := cdi) (ct := cti) (an := ani) lT dT
  have ht : ∀ H, SqT K H ad [] := fun H => .inr ⟨oe, #[], ne, lk, ct, de, by show 0 ≤ sizeLine; decide, .nil⟩
  have pP : ∀ z : Str, z = "most" ∨ z = "least" ∨ z = "call" → KDct K w aP z (.int 2) := fun z hz => by
    rcases hz with rfl | rfl | rfl
    · exact p1
    · exact p2
    · exact p3
  obtain ⟨fdE, FE⟩ := jE.fn
  have hoI : PySem.W.mroIn K C (.type "object") = some true := (tM.sub _).trans (by
    congr 1)
  have tF : KFn K C := ⟨tC, tH, hn, hk, hoI, tM.kit (by decide +kernel), tM.kit (by decide +kernel), tM.kit (by decide +kernel), tM.kit (by decide +kernel), tM.kit (by decide +kernel)⟩
  have tG : FacC K C := ⟨tC, g1, g2⟩
  have xx : PySem.W.exmOne K (.ref CE) (.ref CE) = some true := mE.exm (by rfl) (by rw [List.contains_cons, beq_self_eq_true]; rfl) jE.ox.tyC
  have CC : CatchC K mg "NoEntry" "many" CE := ⟨xE, nE, xx, PySem.W.mg_of X G eN⟩
  refine ⟨PySem.W.fnOf "law" "law" (defArgs sLaw) (defBody sLaw) (defScope sLaw) .none kV48 dc48 pm48 an48 cd48 ct48, fun s v => .of_eq rfl, fun base _ _ => ?_⟩
  have G0 := ok_isint (P := l.prog) (w := w) (base := base) tF F0 (PySem.W.mg_none_of X G z3) (PySem.W.mg_none_of X G z1) (PySem.W.mg_none_of X G z4)
  have G1 := ok_isname (P := l.prog) (w := w) (base := base) tF F1 (PySem.W.mg_none_of X G z3) (PySem.W.mg_none_of X G z5) (PySem.W.mg_none_of X G z2) (PySem.W.mg_none_of X G z6) (PySem.W.mg_of X G cL) (PySem.W.mg_of X G cN)
  have G2 := ok_issource (P := l.prog) (w := w) (base := base) tF F2 G1 b1 (PySem.W.mg_of X G a1) k1 (PySem.W.mg_none_of X G z3) (PySem.W.mg_none_of X G z5) (PySem.W.mg_none_of X G z2)
  have G3 := ok_chk (P := l.prog) (w := w) (base := base) F3 (PySem.W.mg_none_of X G z12)
  have G4 := ok_isrow (P := l.prog) (w := w) (base := base) tF F4 (PySem.W.mg_none_of X G z3) (PySem.W.mg_none_of X G z9) (PySem.W.mg_none_of X G z10)
  have GRT := ok_isrowT (P := l.prog) (w := w) (base := base) F4 (PySem.W.mg_none_of X G z3) (PySem.W.mg_none_of X G z9) (PySem.W.mg_none_of X G z10)
  have G5 := ok_arenames (P := l.prog) (w := w) (base := base) F5 G4 b4 (PySem.W.mg_of X G a4) k4 G1 b1 (PySem.W.mg_of X G a1) k1 (PySem.W.mg_none_of X G z6) (PySem.W.mg_none_of X G z2)
  have G17 := ok_ispart (P := l.prog) (w := w) (base := base) tF F17 G2 b2 (PySem.W.mg_of X G a2) k2 G0 b0 (PySem.W.mg_of X G a0) k0 (PySem.W.mg_none_of X G z3) (PySem.W.mg_none_of X G z10) (PySem.W.mg_none_of X G z2)
  have G15 := ok_issetting (P := l.prog) (w := w) (base := base) tF F15 G1 b1 (PySem.W.mg_of X G a1) k1 G2 b2 (PySem.W.mg_of X G a2) k2 G0 b0 (PySem.W.mg_of X G a0) k0 (PySem.W.mg_none_of X G z3) (PySem.W.mg_none_of X G z10) (PySem.W.mg_none_of X G z2)
  have G16 := ok_areparts (P := l.prog) (w := w) (base := base) F16 G4 b4 (PySem.W.mg_of X G a4) k4 G17 b17 (PySem.W.mg_of X G a17) k17 (PySem.W.mg_none_of X G z6)
  have G14 := ok_aresettings (P := l.prog) (w := w) (base := base) F14 G4 b4 (PySem.W.mg_of X G a4) k4 G15 b15 (PySem.W.mg_of X G a15) k15 (PySem.W.mg_none_of X G z6) (PySem.W.mg_none_of X G z2)
  have G6 := ok_isst (P := l.prog) (w := w) (base := base) tF F6 G1 b1 (PySem.W.mg_of X G a1) k1 G16 b16 (PySem.W.mg_of X G a16) k16 G14 b14 (PySem.W.mg_of X G a14) k14 G5 b5 (PySem.W.mg_of X G a5) k5 (PySem.W.mg_none_of X G z3) (PySem.W.mg_none_of X G z10) (PySem.W.mg_none_of X G z5) (PySem.W.mg_none_of X G z2)
  have G7 := ok_frozen (P := l.prog) (w := w) (base := base) F7 G4 b4 (PySem.W.mg_of X G a4) k4 (PySem.W.mg_none_of X G z10)
  have G8 := ok_sets (P := l.prog) (w := w) (base := base) F8 (PySem.W.mg_none_of X G z11)
  have G13 := ok_parts (P := l.prog) (w := w) (base := base) (C := C) F13 (PySem.W.mg_of X G cP) p0 pP (PySem.W.mg_none_of X G z10)
  have G9 := ok_reads (P := l.prog) (w := w) (base := base) F9 G13 b13 (PySem.W.mg_of X G a13) k13 (PySem.W.mg_none_of X G z11)
  have G10 := ok_numbersB (P := l.prog) (w := w) (base := base) F10 G13 b13 (PySem.W.mg_of X G a13) k13
  have OE := own_noentry (P := l.prog) (w := w) (base := base) FE jE.ox nE (PySem.W.mg_of X G eN) jE.fi jE.tI
  have G12 := ok_withs (P := l.prog) (w := w) (base := base) F12 G7 b7 (PySem.W.mg_of X G a7) k7 (PySem.W.mg_of X G cP) p0 pP (PySem.W.mg_none_of X G z10) (PySem.W.mg_none_of X G z13)
  have G11 := ok_with (P := l.prog) (w := w) (base := base) F11 OE G10 b10 (PySem.W.mg_of X G a10) k10 G12 b12 (PySem.W.mg_of X G a12) k12 (PySem.W.mg_none_of X G z2)
  have G18 := ok_arefacts (P := l.prog) (w := w) (base := base) F18 GRT b4 (PySem.W.mg_of X G a4) k4 (PySem.W.mg_none_of X G z6)
  have G19 := ok_chks (P := l.prog) (w := w) (base := base) (mg := mg) F19
  have G20 := ok_tight (P := l.prog) (w := w) (base := base) (mg := mg) F20
  have G21 := ok_closed (P := l.prog) (w := w) (base := base) F21 G20 b20 (PySem.W.mg_of X G a20) k20 (PySem.W.mg_none_of X G z11)
  have GIN := ok_ini (P := l.prog) (w := w) (base := base) FI tG G3 b3 (PySem.W.mg_of X G a3) k3 G5 b5 (PySem.W.mg_of X G a5) k5 G18 b18 (PySem.W.mg_of X G a18) k18 G19 b19 (PySem.W.mg_of X G a19) k19 G21 b21 (PySem.W.mg_of X G a21) k21 (PySem.W.mg_none_of X G z11)
  have G22 := ok_bag (P := l.prog) (w := w) (base := base) F22 (PySem.W.mg_none_of X G z0)
  have G23 := ok_take (P := l.prog) (w := w) (base := base) F23 (PySem.W.mg_none_of X G z1) (PySem.W.mg_none_of X G z2)
  have G24 := ok_alike2 (P := l.prog) (w := w) (base := base) F24 (PySem.W.mg_none_of X G z8)
  have G25 := ok_mixed (P := l.prog) (w := w) (base := base) F25 G23 b23 (PySem.W.mg_of X G a23) k23 (PySem.W.mg_none_of X G z2)
  have G26 := ok_names (P := l.prog) (w := w) (base := base) F26 G23 b23 (PySem.W.mg_of X G a23) k23 (PySem.W.mg_none_of X G z7) (PySem.W.mg_none_of X G z2) (PySem.W.mg_none_of X G z1)
  have G27 := ok_number (P := l.prog) (w := w) (base := base) F27 G23 b23 (PySem.W.mg_of X G a23) k23 (PySem.W.mg_none_of X G z1)
  have G28 := ok_kinds (P := l.prog) (w := w) (base := base) F28 G23 b23 (PySem.W.mg_of X G a23) k23
  have G29 := ok_part (P := l.prog) (w := w) (base := base) F29 G23 b23 (PySem.W.mg_of X G a23) k23 G27 b27 (PySem.W.mg_of X G a27) k27 (PySem.W.mg_none_of X G z11) (PySem.W.mg_none_of X G z2)
  have G30 := ok_st (P := l.prog) (w := w) (base := base) F30 G23 b23 (PySem.W.mg_of X G a23) k23 G29 b29 (PySem.W.mg_of X G a29) k29 G25 b25 (PySem.W.mg_of X G a25) k25 (PySem.W.mg_none_of X G z11) (PySem.W.mg_none_of X G z2) (PySem.W.mg_none_of X G z7) (PySem.W.mg_none_of X G z10)
  have G31 := ok_calld (P := l.prog) (w := w) (base := base) (fT := f23) (fdT := fdE) F31 G29 b29 (PySem.W.mg_of X G a29) k29 G25 b25 (PySem.W.mg_of X G a25) k25 (PySem.W.mg_none_of X G z11) (PySem.W.mg_none_of X G z10)
  have G32 := ok_odd2 (P := l.prog) (w := w) (base := base) F32 G23 b23 (PySem.W.mg_of X G a23) k23 (PySem.W.mg_none_of X G z1) (PySem.W.mg_none_of X G z2)
  have G33 := ok_lname (P := l.prog) (w := w) (base := base) tF F33 (PySem.W.mg_none_of X G z3) (PySem.W.mg_none_of X G z5) (PySem.W.mg_none_of X G z2)
  have G34 := ok_lsource (P := l.prog) (w := w) (base := base) tF F34 G33 b33 (PySem.W.mg_of X G a33) k33 (PySem.W.mg_none_of X G z3) (PySem.W.mg_none_of X G z5)
  have G35 := ok_lwhole (P := l.prog) (w := w) (base := base) tF F35 (PySem.W.mg_none_of X G z3) (PySem.W.mg_none_of X G z1) (PySem.W.mg_none_of X G z4)
  have G36 := ok_lrow (P := l.prog) (w := w) (base := base) tF F36 (PySem.W.mg_none_of X G z3) (PySem.W.mg_none_of X G z9) (PySem.W.mg_none_of X G z10)
  have G37 := ok_lpairs (P := l.prog) (w := w) (base := base) tF F37 G36 b36 (PySem.W.mg_of X G a36) k36 G34 b34 (PySem.W.mg_of X G a34) k34 G35 b35 (PySem.W.mg_of X G a35) k35 (PySem.W.mg_none_of X G z3) (PySem.W.mg_none_of X G z10) (PySem.W.mg_none_of X G z2)
  have G38 := ok_lunlike (P := l.prog) (w := w) (base := base) F38 (PySem.W.mg_none_of X G z7) (PySem.W.mg_none_of X G z2)
  have G39 := ok_ltriples (P := l.prog) (w := w) (base := base) tF F39 G36 b36 (PySem.W.mg_of X G a36) k36 G33 b33 (PySem.W.mg_of X G a33) k33 G38 b38 (PySem.W.mg_of X G a38) k38 G37 b37 (PySem.W.mg_of X G a37) k37 (PySem.W.mg_none_of X G z3) (PySem.W.mg_none_of X G z10) (PySem.W.mg_none_of X G z2)
  have G40 := ok_lisst (P := l.prog) (w := w) (base := base) tF F40 G36 b36 (PySem.W.mg_of X G a36) k36 G33 b33 (PySem.W.mg_of X G a33) k33 G38 b38 (PySem.W.mg_of X G a38) k38 G37 b37 (PySem.W.mg_of X G a37) k37 G39 b39 (PySem.W.mg_of X G a39) k39 (PySem.W.mg_none_of X G z3) (PySem.W.mg_none_of X G z10) (PySem.W.mg_none_of X G z5) (PySem.W.mg_none_of X G z2) (PySem.W.mg_none_of X G z9)
  have G41 := ok_spoilt (P := l.prog) (w := w) (base := base) (C := C) F41 G23 b23 (PySem.W.mg_of X G a23) k23 (PySem.W.mg_none_of X G z3) (PySem.W.mg_none_of X G z10) (PySem.W.mg_none_of X G z9) (PySem.W.mg_none_of X G z2)
  have G42 := ok_drawn (P := l.prog) (w := w) (base := base) F42 G23 b23 (PySem.W.mg_of X G a23) k23 G26 b26 (PySem.W.mg_of X G a26) k26 G28 b28 (PySem.W.mg_of X G a28) k28 G30 b30 (PySem.W.mg_of X G a30) k30 G25 b25 (PySem.W.mg_of X G a25) k25 G31 b31 (PySem.W.mg_of X G a31) k31 (PySem.W.mg_none_of X G z11) (PySem.W.mg_none_of X G z10)
  have G43 := ok_loose (P := l.prog) (w := w) (base := base) F43 G23 b23 (PySem.W.mg_of X G a23) k23 (PySem.W.mg_none_of X G z3) (PySem.W.mg_none_of X G z10) (PySem.W.mg_none_of X G z9)
  have G44 := ok_parted (P := l.prog) (w := w) (base := base) F44 (PySem.W.mg_none_of X G z9)
  have G45 := ok_put (P := l.prog) (w := w) (base := base) F45 G44 b44 (PySem.W.mg_of X G a44) k44 (PySem.W.mg_none_of X G z10) (PySem.W.mg_none_of X G z2) (PySem.W.mg_none_of X G z7)
  have G46 := ok_lwith (P := l.prog) (w := w) (base := base) F46 CC G11 b11 (PySem.W.mg_of X G a11) k11
  have G47 := ok_right (P := l.prog) (w := w) (base := base) (C := C) F47 G44 b44 (PySem.W.mg_of X G a44) k44 G24 b24 (PySem.W.mg_of X G a24) k24 G8 b8 (PySem.W.mg_of X G a8) k8 G9 b9 (PySem.W.mg_of X G a9) k9 G10 b10 (PySem.W.mg_of X G a10) k10 G7 b7 (PySem.W.mg_of X G a7) k7 G6 b6 (PySem.W.mg_of X G a6) k6 G27 b27 (PySem.W.mg_of X G a27) k27 G45 b45 (PySem.W.mg_of X G a45) k45 G46 b46 (PySem.W.mg_of X G a46) k46 (PySem.W.mg_none_of X G z8) (PySem.W.mg_none_of X G z9) (PySem.W.mg_none_of X G z11) (PySem.W.mg_none_of X G z7) (PySem.W.mg_none_of X G z2) (PySem.W.mg_none_of X G z1)
  exact ok_law F48 G22 b22 (PySem.W.mg_of X G a22) k22 G23 b23 (PySem.W.mg_of X G a23) k23 G42 b42 (PySem.W.mg_of X G a42) k42 G47 b47 (PySem.W.mg_of X G a47) k47 G43 b43 (PySem.W.mg_of X G a43) k43 G32 b32 (PySem.W.mg_of X G a32) k32 G26 b26 (PySem.W.mg_of X G a26) k26 G6 b6 (PySem.W.mg_of X G a6) k6 G41 b41 (PySem.W.mg_of X G a41) k41 G24 b24 (PySem.W.mg_of X G a24) k24 G40 b40 (PySem.W.mg_of X G a40) k40 mk GIN bI (PySem.W.mg_of X G eF) lk ct ht (PySem.W.mg_none_of X G z7) (PySem.W.mg_none_of X G z1)
end Fv


set_option Elab.async false
open PySem PySem.W PyProof.Rows
set_option maxRecDepth 100000 in
set_option maxHeartbeats 0 in
theorem PySem.Challenge.cw_farapart_k21_statements_holds : PySem.Challenge.rw_farapart_k21_statements.Holds := by
  w_on; o_law; k_head; (case hw => w_witness2)
  k_fill
  refine Fv.walk_G (l := PySem.Challenge.rw_farapart_k21_statements) (n := 63) (k := 7) (x := "_law_script") (sp := Fv.spLaw) rfl (by decide) rfl ⟨rfl, by decide, by decide⟩ (fun w h Y => PySem.W.kIn_of Y) ?F (fun K H a ns hl _ hS => ⟨a, ns, rfl, hS, hl, fun _ => rfl⟩)
  case F =>
    intro w mg fa h KX G hmg
    refine' Fv.all_mk KX G hmg ?eF ?eN ?tC ?tM ?tH ?hn ?hk ?g1 ?g2 ?mk ?li ?ci ?ki ?lT ?dT ?lk ?ct ?de ?xE ?nE ?mE ?jE ?cL ?cN ?cP ?p0 ?p1 ?p2 ?p3 ?a0 ?l0 ?c0 ?k0 ?a1 ?l1 ?c1 ?k1 ?a2 ?l2 ?c2 ?k2 ?a3 ?l3 ?c3 ?k3 ?a4 ?l4 ?c4 ?k4 ?a5 ?l5 ?c5 ?k5 ?a6 ?l6 ?c6 ?k6 ?a7 ?l7 ?c7 ?k7 ?a8 ?l8 ?c8 ?k8 ?a9 ?l9 ?c9 ?k9 ?a10 ?l10 ?c10 ?k10 ?a11 ?l11 ?c11 ?k11 ?a12 ?l12 ?c12 ?k12 ?a13 ?l13 ?c13 ?k13 ?a14 ?l14 ?c14 ?k14 ?a15 ?l15 ?c15 ?k15 ?a16 ?l16 ?c16 ?k16 ?a17 ?l17 ?c17 ?k17 ?a18 ?l18 ?c18 ?k18 ?a19 ?l19 ?c19 ?k19 ?a20 ?l20 ?c20 ?k20 ?a21 ?l21 ?c21 ?k21 ?a22 ?l22 ?c22 ?k22 ?a23 ?l23 ?c23 ?k23 ?a24 ?l24 ?c24 ?k24 ?a25 ?l25 ?c25 ?k25 ?a26 ?l26 ?c26 ?k26 ?a27 ?l27 ?c27 ?k27 ?a28 ?l28 ?c28 ?k28 ?a29 ?l29 ?c29 ?k29 ?a30 ?l30 ?c30 ?k30 ?a31 ?l31 ?c31 ?k31 ?a32 ?l32 ?c32 ?k32 ?a33 ?l33 ?c33 ?k33 ?a34 ?l34 ?c34 ?k34 ?a35 ?l35 ?c35 ?k35 ?a36 ?l36 ?c36 ?k36 ?a37 ?l37 ?c37 ?k37 ?a38 ?l38 ?c38 ?k38 ?a39 ?l39 ?c39 ?k39 ?a40 ?l40 ?c40 ?k40 ?a41 ?l41 ?c41 ?k41 ?a42 ?l42 ?c42 ?k42 ?a43 ?l43 ?c43 ?k43 ?a44 ?l44 ?c44 ?k44 ?a45 ?l45 ?c45 ?k45 ?a46 ?l46 ?c46 ?k46 ?a47 ?l47 ?c47 ?k47 ?a48 ?l48 ?c48 ?k48 ?z0 ?z1 ?z2 ?z3 ?z4 ?z5 ?z6 ?z7 ?z8 ?z9 ?z10 ?z11 ?z12 ?z13
    (case eF => k_is)
    (case eN => k_is)
    (case tC => exact ⟨by k_is, by k_is, by k_is, by k_is⟩)
    (case tM => exact ⟨_, by k_is, by rfl⟩)
    (case tH => k_is)
    (case hn => k_is)
    (case hk => k_is)
    (case g1 => k_is)
    (case g2 => k_is)
    (case mk => exact ⟨by k_is, by k_is, by k_is, by k_is⟩)
    (case li => k_is)
    (case ci => k_is)
    (case ki => k_is)
    (case lT => k_is)
    (case dT => exact ⟨_, rfl⟩)
    (case lk => k_is)
    (case ct => rfl)
    (case de => exact ⟨_, rfl⟩)
    (case xE => exact ⟨by k_is, by k_is, by k_is, by k_is, by k_is, by k_is, by k_is, by k_is⟩)
    (case nE => k_is)
    (case mE => exact ⟨_, by k_is, by rfl⟩)
    (case jE => exact ⟨⟨⟨_, _, _, _, _, _, _, _, _, _, _, _, _, _, _, by k_is, by decide +kernel⟩, by k_is, by k_is, by k_is, by k_is⟩, by k_is, by k_is, ⟨_, L2.fun_mk (by k_is) (by k_is) (by k_is)⟩⟩)
    (case cL => k_is)
    (case cN => k_is)
    (case cP => k_is)
    (case p0 => exact ⟨_, _, _, by k_is, by exact ⟨⟨_, _, rfl, rfl⟩, ⟨_, _, rfl, rfl⟩, ⟨_, _, rfl, rfl⟩, ⟨_, _, rfl, rfl⟩, True.intro⟩, by k_is, ⟨_, rfl⟩⟩)
    (case p1 => exact ⟨_, _, _, by k_is, by exact ⟨⟨_, _, rfl, rfl⟩, ⟨_, _, rfl, rfl⟩, ⟨_, _, rfl, rfl⟩, ⟨_, _, rfl, rfl⟩, True.intro⟩, by k_is, ⟨_, rfl⟩⟩)
    (case p2 => exact ⟨_, _, _, by k_is, by exact ⟨⟨_, _, rfl, rfl⟩, ⟨_, _, rfl, rfl⟩, ⟨_, _, rfl, rfl⟩, ⟨_, _, rfl, rfl⟩, True.intro⟩, by k_is, ⟨_, rfl⟩⟩)
    (case p3 => exact ⟨_, _, _, by k_is, by exact ⟨⟨_, _, rfl, rfl⟩, ⟨_, _, rfl, rfl⟩, ⟨_, _, rfl, rfl⟩, ⟨_, _, rfl, rfl⟩, True.intro⟩, by k_is, ⟨_, rfl⟩⟩)
    (case a0 => k_is)
    (case l0 => k_is)
    (case c0 => k_is)
    (case k0 => k_is)
    (case a1 => k_is)
    (case l1 => k_is)
    (case c1 => k_is)
    (case k1 => k_is)
    (case a2 => k_is)
    (case l2 => k_is)
    (case c2 => k_is)
    (case k2 => k_is)
    (case a3 => k_is)
    (case l3 => k_is)
    (case c3 => k_is)
    (case k3 => k_is)
    (case a4 => k_is)
    (case l4 => k_is)
    (case c4 => k_is)
    (case k4 => k_is)
    (case a5 => k_is)
    (case l5 => k_is)
    (case c5 => k_is)
    (case k5 => k_is)
    (case a6 => k_is)
    (case l6 => k_is)
    (case c6 => k_is)
    (case k6 => k_is)
    (case a7 => k_is)
    (case l7 => k_is)
    (case c7 => k_is)
    (case k7 => k_is)
    (case a8 => k_is)
    (case l8 => k_is)
    (case c8 => k_is)
    (case k8 => k_is)
    (case a9 => k_is)
    (case l9 => k_is)
    (case c9 => k_is)
    (case k9 => k_is)
    (case a10 => k_is)
    (case l10 => k_is)
    (case c10 => k_is)
    (case k10 => k_is)
    (case a11 => k_is)
    (case l11 => k_is)
    (case c11 => k_is)
    (case k11 => k_is)
    (case a12 => k_is)
    (case l12 => k_is)
    (case c12 => k_is)
    (case k12 => k_is)
    (case a13 => k_is)
    (case l13 => k_is)
    (case c13 => k_is)
    (case k13 => k_is)
    (case a14 => k_is)
    (case l14 => k_is)
    (case c14 => k_is)
    (case k14 => k_is)
    (case a15 => k_is)
    (case l15 => k_is)
    (case c15 => k_is)
    (case k15 => k_is)
    (case a16 => k_is)
    (case l16 => k_is)
    (case c16 => k_is)
    (case k16 => k_is)
    (case a17 => k_is)
    (case l17 => k_is)
    (case c17 => k_is)
    (case k17 => k_is)
    (case a18 => k_is)
    (case l18 => k_is)
    (case c18 => k_is)
    (case k18 => k_is)
    (case a19 => k_is)
    (case l19 => k_is)
    (case c19 => k_is)
    (case k19 => k_is)
    (case a20 => k_is)
    (case l20 => k_is)
    (case c20 => k_is)
    (case k20 => k_is)
    (case a21 => k_is)
    (case l21 => k_is)
    (case c21 => k_is)
    (case k21 => k_is)
    (case a22 => k_is)
    (case l22 => k_is)
    (case c22 => k_is)
    (case k22 => k_is)
    (case a23 => k_is)
    (case l23 => k_is)
    (case c23 => k_is)
    (case k23 => k_is)
    (case a24 => k_is)
    (case l24 => k_is)
    (case c24 => k_is)
    (case k24 => k_is)
    (case a25 => k_is)
    (case l25 => k_is)
    (case c25 => k_is)
    (case k25 => k_is)
    (case a26 => k_is)
    (case l26 => k_is)
    (case c26 => k_is)
    (case k26 => k_is)
    (case a27 => k_is)
    (case l27 => k_is)
    (case c27 => k_is)
    (case k27 => k_is)
    (case a28 => k_is)
    (case l28 => k_is)
    (case c28 => k_is)
    (case k28 => k_is)
    (case a29 => k_is)
    (case l29 => k_is)
    (case c29 => k_is)
    (case k29 => k_is)
    (case a30 => k_is)
    (case l30 => k_is)
    (case c30 => k_is)
    (case k30 => k_is)
    (case a31 => k_is)
    (case l31 => k_is)
    (case c31 => k_is)
    (case k31 => k_is)
    (case a32 => k_is)
    (case l32 => k_is)
    (case c32 => k_is)
    (case k32 => k_is)
    (case a33 => k_is)
    (case l33 => k_is)
    (case c33 => k_is)
    (case k33 => k_is)
    (case a34 => k_is)
    (case l34 => k_is)
    (case c34 => k_is)
    (case k34 => k_is)
    (case a35 => k_is)
    (case l35 => k_is)
    (case c35 => k_is)
    (case k35 => k_is)
    (case a36 => k_is)
    (case l36 => k_is)
    (case c36 => k_is)
    (case k36 => k_is)
    (case a37 => k_is)
    (case l37 => k_is)
    (case c37 => k_is)
    (case k37 => k_is)
    (case a38 => k_is)
    (case l38 => k_is)
    (case c38 => k_is)
    (case k38 => k_is)
    (case a39 => k_is)
    (case l39 => k_is)
    (case c39 => k_is)
    (case k39 => k_is)
    (case a40 => k_is)
    (case l40 => k_is)
    (case c40 => k_is)
    (case k40 => k_is)
    (case a41 => k_is)
    (case l41 => k_is)
    (case c41 => k_is)
    (case k41 => k_is)
    (case a42 => k_is)
    (case l42 => k_is)
    (case c42 => k_is)
    (case k42 => k_is)
    (case a43 => k_is)
    (case l43 => k_is)
    (case c43 => k_is)
    (case k43 => k_is)
    (case a44 => k_is)
    (case l44 => k_is)
    (case c44 => k_is)
    (case k44 => k_is)
    (case a45 => k_is)
    (case l45 => k_is)
    (case c45 => k_is)
    (case k45 => k_is)
    (case a46 => k_is)
    (case l46 => k_is)
    (case c46 => k_is)
    (case k46 => k_is)
    (case a47 => k_is)
    (case l47 => k_is)
    (case c47 => k_is)
    (case k47 => k_is)
    (case a48 => k_is)
    (case l48 => k_is)
    (case c48 => k_is)
    (case k48 => k_is)
    (case z0 => k_is)
    (case z1 => k_is)
    (case z2 => k_is)
    (case z3 => k_is)
    (case z4 => k_is)
    (case z5 => k_is)
    (case z6 => k_is)
    (case z7 => k_is)
    (case z8 => k_is)
    (case z9 => k_is)
    (case z10 => k_is)
    (case z11 => k_is)
    (case z12 => k_is)
    (case z13 => k_is)

