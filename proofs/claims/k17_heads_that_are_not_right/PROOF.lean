import PyProof.Rows.All
import KE.KSortTup
import KE.KDictOf
import KE.KNestM
import KE.KItemsList
import KE.KIsAll
import KE.KLam
import KE.KRevIter
import KE.KSortedM
import PyProof.StrWalks
import PyProof.SetKind
import PyProof.AttrMissHeap
import PyProof.DictUpdate
import KE.KUnpack
import PySem.Challenge.RW_lendrule_k17_heads_that_are_not_right
set_option maxHeartbeats 0
set_option Elab.async false
set_option linter.all false
set_option maxRecDepth 100000
noncomputable section
section
open PySem PySem.Spec PyProof.Rows
def DS:=@List.findIdx?_eq_some_iff_getElem
def DT:=@List.set_eq_take_append_cons_drop
def lJ:=@PyProof.Rows.slot_tuple_getitem
def DU:=@List.eraseIdx_eq_take_drop_succ
def DV:=@PyProof.Rows.callWith_builtin1
def iC:=@List.eq_nil_of_length_eq_zero
def DW:=@F.args_tuple_iterator_next_1
def DX:=@PySem.F.slot_dict_setdefault
def d7:=@PyProof.Rows.callWith_type1
def DY:=@F.entry_tuple_iterator_next
def DZ:=@Calls.Name_function_global
def tx:=@List.getElem?_append_right
def D0:=@List.getD_eq_getElem?_getD
def D1:=@PySem.F.args_object_init_3
def tD:=@F.slot_tuple_iterator_next
def nL:=@List.getElem?_append_left
def xG:=@F.slot_tuple_getattribute
def b8:=@List.getElem?_eq_some_iff
def fJ:=@List.getElem?_eq_none_iff
def xH:=@List.mem_or_eq_of_mem_set
def nN:=@Array.getElem?_eq_getElem
def tF:=@List.filterMap_cons_some
def bB:=@List.getElem?_eq_getElem
def tH:=@List.filterMap_cons_none
def xI:=@F.slot_list_getattribute
def xJ:=@PySem.F.args_tuple_add_2
def xK:=@PySem.F.args_tuple_mul_2
def iD:=@AutoSeq1.wpAny_loadPart'
def eS:=@wpAny_callSpecial?_slot
def nO:=@List.filter_cons_of_pos
def xM:=@PySem.F.entry_tuple_mul
def nP:=@PySem.F.plainAttrs_list
def xN:=@PySem.F.plainAttrs_dict
def xO:=@PySem.F.entry_tuple_add
def nQ:=@decide_eq_false_iff_not
def xP:=@F.plain_set_update_loop
def nR:=@List.filter_cons_of_neg
def tJ:=@List.drop_of_length_le
def eU:=@List.length_pos_of_mem
def jE:=@Array.getElem?_eq_none
def iE:=@Heap.get?_update_other
def xQ:=@PySem.F.slot_tuple_add
def xR:=@PySem.F.slot_tuple_mul
def gj:=@Option.map_eq_some_iff
def iF:=@List.take_of_length_le
def nS:=@List.getElem?_set_self
def ax:=@Heap.get?_push_of_some
def tK:=@builtinLookup_eq_fast
def tM:=@List.mem_iff_getElem?
def lK:=@List.getElem?_toArray
def xS:=@List.length_replicate
def nT:=@List.length_singleton
def nU:=@List.getElem?_eq_none
def iG:=@Heap.get?_update_self
def xT:=@wpAny_notOrdered_dict
def d8:=@List.mem_append_right
def xU:=@Array.getElem?_toList
def nV:=@List.length_filter_le
def nW:=@List.getElem?_of_mem
def iH:=@List.getElem?_set_ne
def nX:=@List.mem_append_left
def jF:=@Around.under_plainId
def b9:=@List.mem_cons_of_mem
def xV:=@wpAny_updateSeq_pair
def xW:=@Obj.data_mapDictKeys
def nY:=@Bool.and_eq_true_iff
def eV:=@List.mem_of_getElem?
def nZ:=@List.mem_of_mem_take
def fK:=@beq_eq_false_iff_ne
def dO:=@List.replicate_succ
def aZ:=@Heap.get?_push_size
def tN:=@F.plain_extend_loop
def iI:=@List.mem_map_of_mem
def xX:=@List.filterMap_cons
def lL:=@Array.length_toList
def xY:=@List.getElem?_range
def xZ:=@Heap.SameBut.update
def d9:=@PySem.mem_of_lookup
def x9:=@List.filter_sublist
def iJ:=@wpAny_Call_Name_kw
def bP:=@Nat.lt_of_lt_of_le
def bC:=@List.length_append
def bc:=@List.mem_singleton
def jG:=@Nat.lt_of_le_of_lt
def cz:=@List.mem_cons_self
def og:=@tupleKind_room_in1
def ya:=@wpAny_pyIter_tuple
def oh:=@List.mem_filterMap
def jH:=@wpAny_setField_rec
def cW:=@Bool.false_eq_true
def dP:=@Bool.false_ne_true
def gk:=@Int.emod_lt_of_pos
def iK:=@decide_eq_true_eq
def jI:=@List.map_inj_left
def oi:=@List.take_sublist
def jJ:=@wpAny_newObj_type
def eW:=@Function.comp_def
def yb:=@wpAny_dictEntries
def bV:=@List.size_toArray
def lM:=@F.args_zip_next_1
def gR:=@List.append_assoc
def lN:=@List.nodup_append
def tO:=@List.any_eq_false
def gm:=@List.length_range
def iL:=@wpAny_truthy_bool
def aX:=@List.getElem?_map
def yc:=@not_false_eq_true
def iM:=@Int.toNat_natCast
def yd:=@Bool.not_eq_true'
def gS:=@List.flatten_cons
def tP:=@List.reverse_cons
def lO:=@wpAny_pyIter_list
def ye:=@List.all_eq_false
def yf:=@List.getElem?_inj
def yg:=@List.pairwise_map
def cX:=@of_decide_eq_true
def gq:=@List.lookup_cons
def yh:=@List.getElem_mem
def br:=@List.length_cons
def yi:=@wpAny_pyIter_zip
def aC:=@Bool.and_eq_true
def yj:=@Option.getD_none
def tQ:=@List.length_drop
def yk:=@Nat.le_add_right
def yl:=@List.cons_append
def dn:=@List.all_eq_true
def lP:=@Nat.lt_succ_self
def bf:=@List.not_mem_nil
def ym:=@noFill_tuple_add
def tU:=@wpAny_isInstance
def oj:=@Around.in1_units
def tV:=@List.take_length
def om:=@Option.bind_some
def tW:=@List.any_eq_true
def cY:=@List.length_take
def yn:=@Heap.IsList.push
def tY:=@Heap.size_update
def lQ:=@F.entry_zip_next
def eX:=@wpAny_call_entry
def iN:=@beq_self_eq_true
def yo:=@List.mem_flatMap
def yp:=@Nat.le_of_not_lt
def oo:=@List.isEmpty_map
def yq:=@Nat.min_eq_right
def yr:=@Option.getD_some
def jK:=@List.foldl_cons
def eY:=@F.slot_zip_next
def dQ:=@Int.emod_nonneg
def oq:=@List.forIn_cons
def aV:=@decide_eq_false
def iO:=@codeAny_builtin
def bK:=@List.mem_append
def tZ:=@typeLookup_type
def ot:=@wpAny_ite_false
def yt:=@Heap.DictOf.new
def t5:=@wpAny_execs_nil
def bz:=@List.map_append
def ah:=@List.length_map
def jL:=@wpAny_passesOwn
def ou:=@Nat.min_eq_left
def lR:=@List.of_mem_zip
def oy:=@wpAny_updateSeq
def oA:=@List.find?_cons
def yu:=@List.range_succ
def yv:=@Option.map_some
def dR:=@List.nodup_cons
def cq:=@List.mem_filter
def oB:=@List.length_nil
def lS:=@List.length_set
def dS:=@List.nil_append
def eZ:=@List.append_nil
def lT:=@Bool.eq_iff_iff
def oE:=@List.length_zip
def t6:=@List.cons.injEq
def bI:=@Option.some.inj
def t7:=@isSubtype_stop
def jM:=@List.nodup_nil
def dB:=@List.mem_range
def t8:=@List.forIn_nil
def t9:=@Nat.mul_le_mul
def cQ:=@Heap.size_push
def aP:=@decide_eq_true
def fL:=@wpAny_seqItems
def dC:=@Nat.lt_irrefl
def jN:=@wpAny_attempt
def jO:=@Prod.mk.injEq
def jP:=@plainId_quiet
def jQ:=@Bool.true_and
def aF:=@List.mem_cons
def oF:=@List.map_drop
def cR:=@wpAny_holding
def jR:=@List.map_take
def gr:=@List.all_cons
def aA:=@List.map_cons
def ua:=@wpAny_standAt
def lU:=@List.any_cons
def ub:=@wpAny_onRaise
def iP:=@Paired.length
def gT:=@Nat.lt_trans
def lV:=@codeAny_mono
def aM:=@Nat.le_trans
def uc:=@Nat.sub_self
def bQ:=@List.mem_map
def bS:=@List.map_map
def lW:=@Nat.ne_of_gt
def bL:=@List.map_nil
def ud:=@Nat.le_of_lt
def aN:=@Nat.ne_of_lt
def iQ:=@Nat.le_of_eq
def jS:=@wpAny_typeOf
def az:=@Heap.lt_size
def lX:=@wpAny_letGo
def jT:=@sizeLine_eq
def cb:=@wpAny_field
def ao:=@Nat.le_refl
def fg:=@Nat.zero_le
def ai:=@wpAny_pure
def oG:=@strKind_is
def oH:=@wpAny_mono
def iR:=@wpAny_rule
def af:=@wpAny_bind
def oI:=@beq_iff_eq
def dD:=@call_meets
def oJ:=@typeIs_int
def aH:=@eq_of_beq
def fj:=@congrArg
def lY:=@tail_any
def cu:=@if_false
def bg:=@or_false
def dE:=@if_true
def bj:=@Ne.symm
end
namespace ZU
end ZU
section
namespace L2
open PySem PySem.Spec PyProof.Rows
abbrev cC:=Sum Int Str
inductive V where
 | aK | bl (b:Bool) | int (i:Int) | str (x:Str) | P9 (b:Array UInt8) | UH (b:UInt64) | ref (a:Addr) | ty (n:String)
 deriving DecidableEq
def RelV:V->Value->Prop
 | .aK,u=>u=Value.none
 | .bl b,u=>u=Value.bool b
 | .int i,u=>∃t,u=Value.int i t
 | .str x,u=>∃t,u=Value.str x t
 | .P9 b,u=>∃t,u=Value.bytes b t
 | .UH b,u=>∃t,u=Value.float b t
 | .ref a,u=>u=Value.ref a
 | .ty n,u=>u=Value.type n
abbrev Vals:List V->List Value->Prop:=Paired RelV
noncomputable def kV:cC->V
 | .inl i=>.int i
 | .inr x=>.str x
inductive HO where
 /-- a list -/
 | lst (xs:List V)
 /-- a tuple (never UI) -/
 | ag (xs:List V)
 /-- a dict Lg keys Vw ints and QA;one Lg keys Vw tuples of ints and QA (Lh empty one is ZV) -/
 | dK (kvs:List (cC×V)) | dT (xs:List (List cC×Addr×Value))
 /-- a set of ints: ak UJ,ak size -/
 | set (S:Int->Bool) (n:Nat)
 /-- an instance of Lh class at C,ak dict at dx,ak Mg -/
 | ins (C dx:Addr) (fs:List (Str×V))
 /-- Lh dict of Lh instance at x -/
 | own (x:Addr)
 /-- Lh dict of an Qa -/
 | xd (fs:List (Str×V))
 /-- a bound method,f of x -/
 | UK (f x:Addr)
 /-- a range D2 lo,lo+1,.. below hi -/
 | UL (lo hi:Int)
 /-- a QB ZW is Yt to Lh D2 (Lh Vx;a dict while a loop Yu it): ZX,never written while it is so -/
 | vD (o:Obj) (u:HO)
 /-- a code QC table -/
 | kn (q:Str)
 /-- any other QB,by what is true of ak one D2 (a def of Yv own: ZY a S n:=HO.ext λh=>..) -/
 | ext (φ:Heap->Prop)
abbrev Hp:=Addr->Option HO
def Rd(H:Hp)(a:Addr)(u:HO):Prop:=H a=some u\/∃o,H a=some (.vD o u)
noncomputable def cZ:List Str:=["arrivals","empties","needs","held"]
def fw(K:W.Frag)(H:Hp)(a:Addr)(xs:List V):Prop :=
 Rd H a (.ag xs) \/
  ∃(o:Obj) (ak:Array Value) (n:Nat),K.lookup a=some o/\o.cls=.type "tuple"/\(o.data=.seq ak n/\o.dict=none)/\ak.size<=sizeLine/\Vals xs ak.toList
def gC(K:W.Frag)(H:Hp)(a:Addr)(xs:List V):Prop :=
 Rd H a (.lst xs)\/∃(ak:List Value) (n:Nat),K.lookup a=some {cls:=.type "list",data:=.seq ak.toArray n}/\ak.length<=sizeLine/\Vals xs ak
structure BM (K:W.Frag) (C:Addr):Prop where
 pg:W.plainGet K C Str.empty=true
 hd:W.hasDictIn K C=true
 po:W.plainOver K C=true
 sa:W.findIn K (.ref C) "__setattr__"=some (some (.builtin "object.__setattr__"))
def gU(K:W.Frag)(C:Addr)(f:Str):Prop:=W.findIn K (.ref C) f=some none
section
variable {X:Cx} {CX:D3} {k:Nat} {f C:Addr} {fd:FuncData} {ps:List Str} {sp:Sp} {Li:List V} {ds:List Value} {E:XK} {x m:Str} {p pos kC:Pos} {e o:Expr} {es:List Expr} {ta:TE} {t:TA}
structure Mk (K:W.Frag) (C f:Addr):Prop where
 makes:W.makesIn K C=true
 init:W.findIn K (.ref C) "__init__"=some (some (.ref f))
 fn:W.isFn K (.ref f)=true
 kp:W.keepIn K (.ref C)=true
end
structure dg (N P:List Str) (sc:Scope):Prop where
 kind:sc.kind=.function
 co:sc.isCoroutine=false
 gen:sc.isGenerator=false
 nd:N.Nodup
 pre:N.take P.length=P
 par:∀x∈P,sc.names.lookup x=some .local\/sc.names.lookup x=some .cell
 nofree:∀y∈sc.names,y.2≠.free
noncomputable def fZ(s:Stmt):Arguments:=match s with
 | .FunctionDef _ a _ _ _ _ _ _ _ _=>a
 | _=>{posonlyargs:=[],args:=[],vararg:=none,kwonlyargs:=[],kw_defaults:=[],kwarg:=none,defaults:=[]}
noncomputable def dh(s:Stmt):List Stmt:=match s with
 | .FunctionDef _ _ b _ _ _ _ _ _ _=>b
 | _=>[]
noncomputable def ay(s:Stmt):Scope:=match s with
 | .FunctionDef _ _ _ _ _ _ sc _ _ _=>sc
 | _=>{kind:=.function,names:=[],isGenerator:=false,isCoroutine:=false}
structure BN (K:W.Frag) (x qual:Str) (st:Stmt) (f:Addr) (fd:FuncData):Prop where
 ex:∃(oc:Value) (od:Option Addr) (kV doc pm:Value) (an:Option Addr) (eA ct:Value) (xC:Array (Option Value)),
  fd=W.fnOf x qual (fZ st) (dh st) (ay st) .none kV doc pm an eA ct/\K.lookup f=some ⟨oc,od,.func fd,xC⟩/\W.codeIn K eA qual=true
 kp:W.keepIn K (.ref f)=true
section
variable {P:Program} {w:World} {K:W.Frag} {mg:Str->Option Value} {base:Heap}
def D4{st:Stmt}{oc:Value}{od an:Option Addr}{xC:Array (Option Value)}{kV doc pm eA ct:Value}(l:K.lookup f=some ⟨oc,od,.func (W.fnOf x qual (fZ st) (dh st) (ay st) .none kV doc pm an eA ct),xC⟩)
  (c:W.codeIn K eA qual=true) (k:W.keepIn K (.ref f)=true):BN K x qual st f (W.fnOf x qual (fZ st) (dh st) (ay st) .none kV doc pm an eA ct):=⟨⟨oc,od,kV,doc,pm,an,eA,ct,xC,rfl,l,c⟩,k⟩
end
section
variable {X:Cx} {ae:List (Addr×Obj)} {σ:St} {H:Hp} {s:Shared} {a b:Addr} {k:List cC} {v:V} {r:Value} {A:Around} {E:Value->Shared->Prop} {xs:List (List cC×Addr×Value)}
def ee(K:W.Frag)(H:Hp)(xs:List (List cC×Addr×Value)):Prop:=∀x∈xs,fw K H x.2.1 (x.1.map kV)
end
end L2
namespace L2.U
open PySem PySem.Spec PyProof.Rows
inductive Kd where
 | ag | lst | ins (C:Str) (ns:List Str) | eR (t:Bool) (ks:List (List cC))
inductive PV where
 | aK | bl (b:Bool) | int (i:Int) | str (x:Str) | ref (n:Nat) | fn (x:Str) | nd (k:Kd) (ps:List PV)
noncomputable abbrev PV.ag (ps:List PV):PV:=.nd .ag ps
structure Fz where
 F:Hp
 μ:List Addr
def ClsAt(K:W.Frag)(C:Str)(cls:Value):Prop:=W.nsIn K mainGlobals C=some (some cls)
def jU(K:W.Frag)(F H:Hp)(a:Addr)(x:Bool):Kd->List V->Prop
 | .ag,vs=>x=false/\fw K H a vs
 | .lst,vs=>if x=true then H a=some (.lst vs)else gC K H a vs
 | .ins C ns,vs=>∃Ca dx fs,ClsAt K C (.ref Ca)/\BM K Ca/\(∀f∈ns,gU K Ca f)/\H a=some (.ins Ca dx fs)/\fs.map (·.1)=ns/\fs.map (·.2)=vs
 | .eR false ks,vs=>∃kvs:List (cC×V),H a=some (.dK kvs)/\kvs.map (λy=>[y.1])=ks/\kvs.map (·.2)=vs
 | .eR true ks,vs=>∃xs,H a=some (.dT xs)/\ee K F xs/\xs.map (·.1)=ks/\Vals vs (xs.map (·.2.2))
mutual
def aY(K:W.Frag)(F:Fz):PV->V->Prop
 | .aK,v=>v=.aK
 | .bl b,v=>v=.bl b
 | .int i,v=>v=.int i
 | .str x,v=>v=.str x
 | .ref n,v=>∃a,F.μ[n]?=some a/\v=.ref a
 | .fn x,v=>∃a,v=.ref a/\W.nsIn K mainGlobals x=some (some (.ref a))
 | .nd k ps,v=>∃a vs,v=.ref a/\jU K F.F F.F a false k vs/\aq K F ps vs
def aq(K:W.Frag)(F:Fz):List PV->List V->Prop
 | [],vs=>vs=[]
 | p::ps,vs=>∃v r,vs=v::r/\aY K F p v/\aq K F ps r
end
section
variable {K:W.Frag} {F F':Fz}
def aq.nil:aq K F [] []:=by simp[aq]
def aq.cons(h:aY K F p v)(t:aq K F ps vs):aq K F (p::ps) (v::vs):=by
 simp only[aq];exact⟨v,vs,rfl,h,t⟩
def cy:aY K F .aK v↔v=.aK:=by simp only[aY]
def aQ:aY K F (.bl b) v↔v=.bl b:=by simp only[aY]
def au:aY K F (.int i) v↔v=.int i:=by simp only[aY]
def bh:aY K F (.str i) v↔v=.str i:=by simp only[aY]
def gV:aY K F (.nd k ps) v↔∃a vs,v=.ref a/\jU K F.F F.F a false k vs/\aq K F ps vs:=by simp only[aY]
def bu:aY K F (.ag ps) v↔∃a vs,v=.ref a/\fw K F.F a vs/\aq K F ps vs :=
 gV.trans ⟨(by rintro⟨a,vs,h1,h2,h3⟩;exact⟨a,vs,h1,h2.2,h3⟩),(by rintro⟨a,vs,h1,h2,h3⟩;exact⟨a,vs,h1,⟨rfl,h2⟩,h3⟩)⟩
end
structure Pg where
 defs:List (Str×Stmt)
 cons:List (Str×PV):=[]
 cw:List Str:=[]
 tabs:List (Str×List (Str×Str)):=[]
 c8:List (Str×List (Str×PV)):=[]
 cls:List (Str×Stmt):=[]
 flds:List Str:=[]
 qH:List Str:=[]
 QD:List (Str×List (Str×Nat)):=[]
def params(st:Stmt):List Str:=(fZ st).args.map λa=>a.arg
noncomputable def QE:NameKind->Bool
 | .local=>true
 | .cell=>true
 | _=>false
def bW(st:Stmt):List Str:=params st++((ay st).names.filter λy=>QE y.2&&!(params st).contains y.1).map λy=>y.1
structure D5 (K:W.Frag) (x:Str) (st:Stmt):Prop where
 ex:∃f fd,W.nsIn K mainGlobals x=some (some (.ref f))/\BN K x x st f fd/\∀us:List Value,us.length=(params st).length->bindArgs fd ⟨us,[]⟩=pure ((params st).zip us)
 sc:dg (bW st) (params st) (ay st)
def BO(K:W.Frag)(P:Params)(T:Str)(rows:List (Str×Str)):Prop :=
 ∃a es n,W.nsIn K mainGlobals T=some (some (.ref a))/\K.lookup a=some ⟨.type "dict",none,.dict es n,#[]⟩/\W.KeysLit P es.toList/\∀d∈rows,∃f,W.nsIn K a d.1=some (some (.ref f))/\W.nsIn K mainGlobals d.2=some (some (.ref f))
def Vy{K:W.Frag}{P:Params}{T:Str}{rows:List (Str×Str)}{a:Addr}{es:Array DictEntry}{n:Nat}(h1:W.nsIn K mainGlobals T=some (some (.ref a)))(h2:K.lookup a=some ⟨.type "dict",none,.dict es n,#[]⟩)(h3:W.KeysLit P es.toList)
  (h4:∀d∈rows,∃f,W.nsIn K a d.1=some (some (.ref f))/\W.nsIn K mainGlobals d.2=some (some (.ref f))):BO K P T rows:=⟨a,es,n,h1,h2,h3,h4⟩
noncomputable def Lj:PV->Value->Bool
 | .int i,.int j _=>i==j
 | .str x,.str y _=>x==y
 | .bl a,.bool b=>a==b
 | .aK,.none=>true
 | _,_=>false
def ue:List PV->List Value->Bool
 | [],[]=>true
 | p::r,u::q=>Lj p u&&ue r q
 | _,_=>false
def Mh{K:W.Frag}{p:PV}{u:Value}(h:Lj p u=true):∃v,RelV v u/\∀F,aY K F p v:=by
 cases p<;>cases u<;>first | exact absurd h dP | skip
 ·exact⟨.aK,rfl,λF=>cy.mpr rfl⟩
 ·cases aH h;exact⟨.bl _,rfl,λF=>aQ.mpr rfl⟩
 ·cases aH h;exact⟨.int _,⟨_,rfl⟩,λF=>au.mpr rfl⟩
 ·cases aH h;exact⟨.str _,⟨_,rfl⟩,λF=>bh.mpr rfl⟩
def Io{K:W.Frag}{ps:List PV}{us:List Value}(h:ue ps us=true):∃vs,Vals vs us/\∀F,aq K F ps vs:=by
 induction ps generalizing us with
 | nil=>cases us;exact⟨[],.nil,λ_=>.nil⟩;cases h
 | cons p r ih =>
  cases us with
  | nil=>cases h
  | cons u q =>
   have h:=nY.mp h;obtain⟨v,a,b⟩:=Mh (K:=K) h.1;obtain⟨vs,h1,h2⟩:=ih h.2;exact⟨v::vs,.cons a h1,λF=>.cons (b F) (h2 F)⟩
def Ip{K:W.Frag}{g:Addr}{x:Str}{a:Addr}{ps:List PV}{us:List Value}{n:Nat}{sl:Array (Option Value)}(h1:W.nsIn K g x=some (some (.ref a)))(h2:K.lookup a=some ⟨.type "tuple",none,.seq us.toArray n,sl⟩)(h3:ue ps us=true)(h4:us.length<=100) :
  ∃u v,W.nsIn K g x=some (some u)/\RelV v u/\∀F,aY K F (.ag ps) v:=by
 obtain⟨vs,r,b⟩:=Io h3;exact⟨_,.ref a,h1,rfl,λF=>bu.mpr ⟨a,vs,rfl,.inr ⟨_,us.toArray,n,h2,rfl,⟨rfl,rfl⟩,by rw[bV];exact aM h4 (by decide),by grind⟩,b F⟩⟩
def Iq{K:W.Frag}{g:Addr}{x:Str}{y:Str}{t:Tok}(a:W.nsIn K g x=some (some (.str y t))):∃u v,W.nsIn K g x=some (some u)/\RelV v u/\∀F,aY K F (.str y) v:=⟨_,.str y,a,⟨t,rfl⟩,λF=>bh.mpr rfl⟩
def Ir{K:W.Frag}{g:Addr}{x:Str}{i:Int}{t:Tok}(a:W.nsIn K g x=some (some (.int i t))):∃u v,W.nsIn K g x=some (some u)/\RelV v u/\∀F,aY K F (.int i) v:=⟨_,.int i,a,⟨t,rfl⟩,λF=>au.mpr rfl⟩
def vE(K:W.Frag)(P:Params)(T:Str)(rows:List (Str×PV)):Prop :=
 ∃a es n,(a==sysModules)=false/\W.nsIn K mainGlobals T=some (some (.ref a))/\K.lookup a=some ⟨.type "dict",none,.dict es n,#[]⟩/\W.KeysLit P es.toList/\∀d∈rows,∃u v,W.nsIn K a d.1=some (some u)/\RelV v u/\∀F,aY K F d.2 v
def Mi(K:W.Frag)(C:Str)(st:Stmt)(flds:List Str):Prop:=∃Ca f fd,W.nsIn K mainGlobals C=some (some (.ref Ca))/\Mk K Ca f/\BM K Ca/\(∀g∈flds,gU K Ca g)/\BN K "__init__" (C++".__init__") st f fd/\(∀us:List Value,us.length=(params st).length->bindArgs fd ⟨us,[]⟩=pure ((params st).zip us))/\dg (bW st) (params st) (ay st)
def Mj(K:W.Frag)(x:Str):Prop:=x∈cZ/\∃c T,W.tabIn K x=some (c,T)/\W.codeHdIn K c T=true
def D6(K:W.Frag):Prop:=∃bm o,W.nsIn K mainGlobals "__builtins__"=some (some (.ref bm))/\bm≠builtinsNs/\bm≠mainGlobals/\K.lookup bm=some o/\o.cls=.type "module"/\o.dict=some builtinsNs/\o.data=.plain
structure kD (K:W.Frag) (h:Heap):Prop where
 at_:∀x∈cZ,∀c T,W.tabIn K x=some (c,T)->W.codeHdIn K c T=true/\h.get? T=some {cls:=.none,data:=.fields #[]}/\K.lookup T=none
 nd:(cZ.filterMap λx=>(W.tabIn K x).map (·.2)).Nodup
def kD.keeps{K:W.Frag}{h h':Heap}(t:kD K h)(k:∀b o,h.get? b=some o->h'.get? b=some o):kD K h':=⟨λx hx c T e=>let ⟨h1,h2,h3⟩:=t.at_ x hx c T e;⟨h1,k _ _ h2,h3⟩,t.nd⟩
structure D7 (P:Pg) (w:World) (K:W.Frag):Prop where
 hd:∀d∈P.defs,D5 K d.1 d.2
 hc:∀d∈P.cons,∃u v,W.nsIn K mainGlobals d.1=some (some u)/\RelV v u/\∀F,aY K F d.2 v
 hb:∀x∈P.cw,W.nsIn K mainGlobals x=some none
 ht:∀d∈P.tabs,BO K w.params d.1 d.2
 hcl:∀d∈P.cls,Mi K d.1 d.2 P.flds
 hct:∀d∈P.c8,vE K w.params d.1 d.2
 Yw:∀x∈P.qH,Mj K x
 hbm:P.qH≠[]->D6 K
noncomputable def vF:Value->List Addr
 | .ref a=>[a]
 | _=>[]
def rh:Option Obj->List Addr
 | some ⟨_,_,.dict es _,_⟩=>es.toList.flatMap λe=>vF e.val
 | some ⟨_,_,.func fd,_⟩=>vF fd.code
 | some ⟨_,_,.cls cd,_⟩=>cd.ns::cd.mro.flatMap vF
 | _=>[]
noncomputable def BP:Obj->Bool
 | ⟨.none,none,.fields vs,sl⟩=>vs.isEmpty&&sl.isEmpty
 | _=>false
def fragOf(h:Heap):List Addr->W.Frag
 | []=>[]
 | a::r=>match h.get? a with
  | some o=>if BP o=true then fragOf h r else(a,o)::fragOf h r
  | none=>fragOf h r
theorem fA(h:Heap):∀(as:List Addr) (b:Addr) (o:Obj),(fragOf h as).lookup b=some o->h.get? b=some o/\BP o=false
 | [],_,_,e=>nomatch e
 | a::r,b,o,e=>by
  unfold fragOf at e;split at e
  ·rename_i o' ho;split at e
   ·exact fA h r b o e
   ·rename_i ht;rw[gq]at e;cases z:b==a with
    | true =>
     rw[z]at e;cases e;rw[aH z];exact⟨ho,by simpa using ht⟩
    | false =>
     rw[z]at e;exact fA h r b o e
  ·exact fA h r b o e
theorem BQ(h:Heap)(as:List Addr):(fragOf h as).In h:=λb o e=>(fA h as b o e).1
theorem Ap(h:Heap){b:Addr}{o:Obj}(h1:h.get? b=some o)(h2:BP o=false):∀as:List Addr,b∈as->(fragOf h as).lookup b=some o
 | a::r,hb=>by
  unfold fragOf;by_cases e:b=a
  ·subst e;rw[h1];show(if BP o=true then _ else _:W.Frag).lookup b=_
   rw[h2,if_neg dP,gq,iN]
  ·have ih:=Ap h h1 h2 r ((aF.mp hb).resolve_left e);split
   ·split
    ·exact ih
    ·rw[gq,fK.mpr e];exact ih
   ·exact ih
theorem lZ{h:Heap}{as bs:List Addr}{b:Addr}{o:Obj}(e:(fragOf h as).lookup b=some o)(hb:b∈bs):(fragOf h bs).lookup b=some o:=Ap h (fA h as b o e).1 (fA h as b o e).2 bs hb
noncomputable def ZZ:Option Obj->List Addr
 | some ⟨_,_,.cls cd,_⟩=>[cd.ns]
 | _=>[]
def Mm(h:Heap)(a:Addr):List Addr:=a::(rh (h.get? a)++(ZZ (h.get? a)).flatMap λb=>(rh (h.get? b)).flatMap λc=>c::rh (h.get? c))
def dG(h:Heap):W.Frag:=fragOf h (mainGlobals::(rh (h.get? mainGlobals)).flatMap (Mm h))
noncomputable def Iu(K:W.Frag)(x:Str):Option FuncData:=match W.nsIn K mainGlobals x with
 | some (some (.ref f))=>(match K.lookup f with
  | some ⟨_,_,.func fd,_⟩=>(match W.codeIn K fd.code x with
   | true=>some {fd with kwdefaults:=.none,doc:=.none,pyModule:=.none,annotations:=none,code:=.none,closureTuple:=.none}
   | false=>none)
  | _=>none)
 | _=>none
def D8(h:Heap)(x:Str):Option FuncData:=match W.nsIn (fragOf h [mainGlobals]) mainGlobals x with
 | some (some (.ref f))=>(match(fragOf h [f]).lookup f with
  | some ⟨_,_,.func fd,_⟩=>(match W.codeIn (fragOf h (vF fd.code)) fd.code x with
   | true=>some {fd with kwdefaults:=.none,doc:=.none,pyModule:=.none,annotations:=none,code:=.none,closureTuple:=.none}
   | false=>none)
  | _=>none)
 | _=>none
def D9{h:Heap}{x:Str}{v:FuncData}(e:D8 h x=some v):Iu (dG h) x=some v:=by
 unfold D8 at e;split at e
 ·rename_i f hf;split at e
  ·rename_i oc od fd xC hl;split at e
   ·rename_i hc;have hg:W.nsIn (dG h) mainGlobals x=some (some (.ref f))/\f∈rh (h.get? mainGlobals):=by
     unfold W.nsIn at hf ⊢;split at hf
     ·rename_i gc gd es gn gs hk;have k2:(dG h).lookup mainGlobals=_:=lZ hk cz;rw[k2,(fA _ _ _ _ hk).1];refine⟨hf,?_⟩;split at hf
      ·rename_i en Z2;have hv:en.val=.ref f:=bI (bI hf);exact yo.mpr ⟨en,List.mem_of_find?_eq_some Z2,by rw[hv];exact cz⟩
      ·split at hf<;>cases hf
     ·cases hf
    have mf:∀b∈Mm h f,b∈mainGlobals::(rh (h.get? mainGlobals)).flatMap (Mm h):=λb hb=>b9 _ (yo.mpr ⟨f,hg.2,hb⟩)
    have k3:(dG h).lookup f=some ⟨oc,od,.func fd,xC⟩:=lZ hl (mf f cz);have k4:W.codeIn (dG h) fd.code x=true:=by
     unfold W.codeIn at hc ⊢;split at hc
     ·rename_i c DK;split at hc
      ·rename_i cc cdd vs csl hk;have:(dG h).lookup c=_:=lZ hk (mf c (b9 _ (nX _ (by rw[(fA _ _ _ _ hl).1];show c∈vF fd.code;rw[DK];exact cz))))
       rw[this];exact hc
      ·cases hc
     ·cases hc
    unfold Iu;rw[hg.1];dsimp only
    rw[k3];dsimp only
    rw[k4];exact e
   ·cases e
  ·cases e
 ·cases e
def Ea(x:Str)(st:Stmt):FuncData:=W.fnOf x x (fZ st) (dh st) (ay st) .none .none .none .none none .none .none
def Iv{K:W.Frag}{x:Str}{st:Stmt}(h:Iu K x=some (Ea x st)):∃f fd,W.nsIn K mainGlobals x=some (some (.ref f))/\BN K x x st f fd:=by
 unfold Iu at h;split at h
 ·rename_i f hf;split at h
  ·rename_i oc od fd xC hl;split at h
   ·rename_i hc;have h:=bI h;obtain⟨a1,a2,a3,a4,a5,a6,a7,a8,a9,Z4,Z5,Z6,Z7,Z8,Z9⟩:=fd;unfold Ea at h;simp only[FuncData.mk.injEq]at h;obtain⟨e1,e2,e3,e4,e5,e6,e7,e8,-,-,-,-,-,-,Vz⟩:=h;subst e1 e2 e3 e4 e5 e6 e7 e8 Vz;exact⟨f,_,hf,D4 hl hc (by unfold W.keepIn;dsimp only;rw[hl])⟩
   ·cases h
  ·cases h
 ·cases h
def Aq(K:W.Frag)(g:Addr)(d:Str×PV):Bool:=match W.nsIn K g d.1 with
 | some (some (.int j _))=>(match d.2 with | .int i=>i==j | _=>false)
 | some (some (.str y _))=>(match d.2 with | .str x=>x==y | _=>false)
 | some (some (.ref a))=>(match K.lookup a with
  | some ⟨.type t,none,.seq us _,_⟩=>(match d.2 with | .nd .ag ps=>(t=="tuple")&&(ue ps us.toList&&decide (us.toList.length<=100)) | _=>false)
  | _=>false)
 | _=>false
def vG{K:W.Frag}{g:Addr}{x:Str}{p:PV}(h:Aq K g (x,p)=true):∃u v,W.nsIn K g x=some (some u)/\RelV v u/\∀F,aY K F p v:=by
 unfold Aq at h;dsimp only at h
 split at h
 ·rename_i j t hn;split at h
  ·obtain rfl:=aH h;exact Ir hn
  ·cases h
 ·rename_i y t hn;split at h
  ·obtain rfl:=aH h;exact Iq hn
  ·cases h
 ·rename_i a hn;split at h
  ·rename_i t dd us n sl hl;split at h
   ·rw[aC,aC]at h;obtain⟨h1,h2,h3⟩:=h;obtain rfl:=aH h1;obtain⟨us⟩:=us;exact Ip hn hl h2 (cX h3)
   ·cases h
  ·cases h
 ·cases h
noncomputable def Eb(K:W.Frag)(x:Str):Bool:=match W.nsIn K mainGlobals x with
 | some none=>true
 | _=>false
def Ec{K:W.Frag}{x:Str}(h:Eb K x=true):W.nsIn K mainGlobals x=some none:=by
 unfold Eb at h;split at h
 ·assumption
 ·cases h
abbrev OV:=Option (Option Value)
noncomputable def Ar(e:DictEntry):Option Str×Int:=(match e.key with
 | .str x _=>some x
 | _=>none,e.hash)
noncomputable def Ed(K:W.Frag)(a:Addr)(d:Str×Str):Bool:=match W.nsIn K a d.1,W.nsIn K mainGlobals d.2 with
 | some (some (.ref f)),some (some (.ref g))=>f==g
 | _,_=>false
def Ee(K:W.Frag)(T:Str)(rows:List (Str×Str)):Option (Value×Option Addr×Array (Option Value)×List (Option Str×Int)×Bool):=match W.nsIn K mainGlobals T with
 | some (some (.ref a))=>(match K.lookup a with
  | some ⟨c,dd,.dict es _,sl⟩=>some (c,dd,sl,es.toList.map Ar,rows.all (Ed K a))
  | _=>none)
 | _=>none
noncomputable def yw(P:Params)(rows:List (Str×Str)):Option (Value×Option Addr×Array (Option Value)×List (Option Str×Int)×Bool):=some (.type "dict",none,#[],rows.map (λd=>(some d.1,PyData.keyHash P d.1)),true)
theorem oK{β:Type}{P:Params}:∀{es:List DictEntry} {rows:List (Str×β)},es.map Ar=rows.map (λd=>(some d.1,PyData.keyHash P d.1))->W.KeysLit P es
 | [],_,_=>trivial
 | _::_,[],h=>by cases h
 | e::es,d::rows,h=>by
  rw[aA,aA,t6]at h;obtain⟨h1,h2⟩:=h;refine⟨?_,oK h2⟩;unfold Ar at h1;rw[jO]at h1;obtain⟨h3,h4⟩:=h1;split at h3
  ·grind
  ·cases h3
def Ef{K:W.Frag}{a:Addr}{d:Str×Str}(h:Ed K a d=true):∃f,W.nsIn K a d.1=some (some (.ref f))/\W.nsIn K mainGlobals d.2=some (some (.ref f)):=by
 unfold Ed at h;split at h
 ·grind
 ·cases h
def Eg{K:W.Frag}{P:Params}{T:Str}{rows:List (Str×Str)}(h:Ee K T rows=yw P rows):BO K P T rows:=by
 unfold Ee yw at h;split at h
 ·rename_i a hn;split at h
  ·rename_i c dd es n sl hl;have h:=bI h;simp only[jO]at h;obtain⟨rfl,rfl,rfl,h4,h5⟩:=h;exact Vy hn hl (oK h4) λd hd=>Ef (dn.mp h5 d hd)
  ·cases h
 ·cases h
abbrev Iw:=Option (Value×Option Addr×Array (Option Value)×List (Option Str×Int)×Bool)
noncomputable def yx(K:W.Frag)(f:Addr)(qual:Str):Option FuncData:=match K.lookup f with
 | some ⟨_,_,.func fd,_⟩=>(match W.codeIn K fd.code qual with
  | true=>some {fd with kwdefaults:=.none,doc:=.none,pyModule:=.none,annotations:=none,code:=.none,closureTuple:=.none}
  | false=>none)
 | _=>none
def Eh(x qual:Str)(st:Stmt):FuncData:=W.fnOf x qual (fZ st) (dh st) (ay st) .none .none .none .none none .none .none
def BR{K:W.Frag}{x qual:Str}{st:Stmt}{f:Addr}(h:yx K f qual=some (Eh x qual st)):∃fd,BN K x qual st f fd:=by
 unfold yx at h;split at h
 ·rename_i oc od fd xC hl;split at h
  ·rename_i hc;have h:=bI h;obtain⟨a1,a2,a3,a4,a5,a6,a7,a8,a9,Z4,Z5,Z6,Z7,Z8,Z9⟩:=fd;unfold Eh at h;simp only[FuncData.mk.injEq]at h;obtain⟨e1,e2,e3,e4,e5,e6,e7,e8,-,-,-,-,-,-,Vz⟩:=h;subst e1 e2 e3 e4 e5 e6 e7 e8 Vz;exact⟨_,D4 hl hc (by unfold W.keepIn;dsimp only;rw[hl])⟩
  ·cases h
 ·cases h
abbrev Mn:=Option (Bool×OV×List OV×Option FuncData)
def Ei(K:W.Frag)(flds:List Str)(C:Str):Mn:=match W.nsIn K mainGlobals C with
 | some (some (.ref a))=>(match W.findIn K (.ref a) "__init__" with
  | some (some (.ref f))=>some (W.makesIn K a&&(W.isFn K (.ref f)&&(W.keepIn K (.ref a)&&(W.plainGet K a Str.empty&&(W.hasDictIn K a&&W.plainOver K a)))),W.findIn K (.ref a) "__setattr__",flds.map (λg=>W.findIn K (.ref a) g),yx K f (C++".__init__"))
  | _=>none)
 | _=>none
def yy(flds:List Str)(C:Str)(st:Stmt):Mn:=some (true,some (some (.builtin "object.__setattr__")),flds.map (λ_=>some none),some (Eh "__init__" (C++".__init__") st))
noncomputable def uf:List Str->Bool
 | []=>true
 | x::r=>!r.contains x&&uf r
theorem rj:∀{l:List Str},uf l=true->l.Nodup
 | [],_=>jM
 | x::r,h=>by
  simp only[uf,aC,yd,List.contains_eq_mem,nQ]at h;exact dR.mpr ⟨h.1,rj h.2⟩
noncomputable def VA:Option NameKind->Bool
 | some .local=>true
 | some .cell=>true
 | _=>false
noncomputable def QF:NameKind->Bool
 | .free=>false
 | _=>true
noncomputable def QG:ScopeKind->Bool
 | .function=>true
 | _=>false
def Iy(st:Stmt):Bool:=QG (ay st).kind&&(!(ay st).isCoroutine&&(!(ay st).isGenerator&&(uf (bW st)&&((params st).all (λx=>VA ((ay st).names.lookup x))&&(ay st).names.all λy=>QF y.2))))
def Ej{st:Stmt}(h:Iy st=true):dg (bW st) (params st) (ay st):=by
 unfold Iy at h;rw[aC,aC,aC,aC,aC]at h;obtain⟨h1,h2,h3,h4,h5,h6⟩:=h;refine⟨?_,by grind,by grind,rj h4,?_,λx hx=>?_,λy hy=>?_⟩
 ·cases z:(ay st).kind<;>rw[z]at h1<;>first | rfl | cases h1
 ·exact List.take_left
 ·have k:=dn.mp h5 x hx;cases z:(ay st).names.lookup x with
  | none=>rw[z]at k;cases k
  | some b =>
   rw[z]at k;cases b<;>first | exact .inl rfl | exact .inr rfl | cases k
 ·have k:=dn.mp h6 y hy;intro z;rw[z]at k;cases k
def As(P:Pg):Prop:=∀(kV doc pm:Value) (an:Option Addr) (eA ct:Value) (u:Nat->Value),
 P.defs.map (λd=>bindArgs (W.fnOf d.1 d.1 (fZ d.2) (dh d.2) (ay d.2) .none kV doc pm an eA ct) ⟨(List.range (params d.2).length).map u,[]⟩)=P.defs.map λd=>pure ((params d.2).zip ((List.range (params d.2).length).map u))
def vH{us:List Value}{n:Nat}(h:us.length=n):(List.range n).map (λi=>us.getD i .none)=us:=by
 subst h;apply List.ext_getElem
 ·simp
 ·intro i h1 h2;simp[h2]
def Mo{K:W.Frag}{x:Str}{st:Stmt}{f:Addr}{fd:FuncData}{P:Pg}(hb:As P)(hd:(x,st)∈P.defs)(F:BN K x x st f fd)(us:List Value)(hl:us.length=(params st).length):bindArgs fd ⟨us,[]⟩=pure ((params st).zip us):=by
 obtain⟨oc,od,kV,doc,pm,an,eA,ct,xC,rfl,lk,DK⟩:=F.ex;have k:=jI.mp (hb kV doc pm an eA ct λi=>us.getD i .none) (x,st) hd
 dsimp only at k
 rw[vH hl]at k;exact k
def Iz(P:Pg):Prop:=∀(kV doc pm:Value) (an:Option Addr) (eA ct:Value) (u:Nat->Value),
 P.cls.map (λd=>bindArgs (W.fnOf "__init__" (d.1++".__init__") (fZ d.2) (dh d.2) (ay d.2) .none kV doc pm an eA ct) ⟨(List.range (params d.2).length).map u,[]⟩)=P.cls.map λd=>pure ((params d.2).zip ((List.range (params d.2).length).map u))
def El{K:W.Frag}{P:Pg}{C:Str}{st:Stmt}(Mp:Iy st=true)(hb:Iz P)(hd:(C,st)∈P.cls)(h:Ei K P.flds C=yy P.flds C st):Mi K C st P.flds:=by
 unfold Ei yy at h;split at h
 ·rename_i a hn;split at h
  ·rename_i f hf;have h:=bI h;simp only[jO,aC]at h;obtain⟨⟨h1,h2,h3,h4,h5,h6⟩,h7,h8,h9⟩:=h;obtain⟨fd,F⟩:=BR h9;refine⟨a,f,fd,hn,⟨h1,hf,h2,h3⟩,⟨h4,h5,h6,h7⟩,λg hg=>jI.mp h8 g hg,F,λus hl=>?_,Ej Mp⟩
   obtain⟨oc,od,kV,doc,pm,an,eA,ct,xC,rfl,lk,DK⟩:=F.ex;have k:=jI.mp (hb kV doc pm an eA ct λi=>us.getD i .none) (C,st) hd
   dsimp only at k
   rw[vH hl]at k;exact k
  ·cases h
 ·cases h
def yz(K:W.Frag)(h:Heap)(x:Str):Bool:=match W.tabIn K x with
 | none=>true
 | some (c,T)=>W.codeHdIn K c T&&(match h.get? T with
  | some o=>BP o
  | _=>false)
noncomputable def Mq(K:W.Frag):Bool:=match W.nsIn K mainGlobals "__builtins__" with
 | some (some (.ref bm))=>!(bm==builtinsNs)&&(!(bm==mainGlobals)&&(match K.lookup bm with
  | some ⟨.type m,some d,.plain,_⟩=>(m=="module")&&(d==builtinsNs)
  | _=>false))
 | _=>false
def Em(P:Pg)(K:W.Frag)(h:Heap):Bool:=cZ.all (yz K h)&&(decide (cZ.filterMap λx=>(W.tabIn K x).map (·.2)).Nodup&&((P.qH.isEmpty || Mq K)&&P.qH.all λx=>cZ.contains x&&(W.tabIn K x).isSome))
def rm{h:Heap}{x:Str}{c T:Addr}(e:yz (dG h) h x=true)(t:W.tabIn (dG h) x=some (c,T)):W.codeHdIn (dG h) c T=true/\h.get? T=some {cls:=.none,data:=.fields #[]}/\(dG h).lookup T=none:=by
 unfold yz at e;rw[t]at e;simp only[aC]at e;obtain⟨h1,h3⟩:=e;split at h3
 ·rename_i o ho;refine⟨h1,?_,?_⟩
  ·unfold BP at h3;split at h3
   ·grind
   ·cases h3
  ·cases k:(dG h).lookup T with
   | none=>rfl
   | some o' =>
    obtain⟨k1,k2⟩:=fA _ _ _ _ k;rw[ho]at k1;cases k1;rw[h3]at k2;cases k2
 ·cases h3
def IA{K:W.Frag}(e:Mq K=true):D6 K:=by
 unfold Mq at e;split at e
 ·rename_i bm hb;simp only[aC]at e;obtain⟨h1,h2,h3⟩:=e;split at h3
  ·rename_i m d sl z;rw[aC]at h3;obtain rfl:=aH h3.1;obtain rfl:=aH h3.2;exact⟨bm,_,hb,by grind,by grind,z,rfl,rfl,rfl⟩
  ·cases h3
 ·cases e
def En{P:Pg}{h:Heap}(e:Em P (dG h) h=true):kD (dG h) h/\(∀x∈P.qH,Mj (dG h) x)/\(P.qH≠[]->D6 (dG h)):=by
 unfold Em at e;simp only[aC]at e;obtain⟨h1,h2,h3,h4⟩:=e;have all:=dn.mp h1;refine⟨⟨λx hx c T t=>rm (all x hx) t,cX h2⟩,λx hx=>?_,λz=>?_⟩
 ·have:=dn.mp h4 x hx;rw[aC]at this;have hm:x∈cZ:=by grind
  cases t:W.tabIn (dG h) x with
  | none=>rw[t]at this;cases this.2
  | some cT=>exact⟨hm,cT.1,cT.2,t,(rm (all x hm) t).1⟩
 ·rcases Bool.or_eq_true_iff.mp h3 with y | y
  ·grind
  ·exact IA y
def yA(K:W.Frag)(T:Str)(rows:List (Str×PV)):Iw:=match W.nsIn K mainGlobals T with
 | some (some (.ref a))=>(match K.lookup a with
  | some ⟨c,dd,.dict es _,sl⟩=>some (c,dd,sl,es.toList.map Ar,!(a==sysModules)&&rows.all (Aq K a))
  | _=>none)
 | _=>none
noncomputable def ug(P:Params)(rows:List (Str×PV)):Iw:=some (.type "dict",none,#[],rows.map (λd=>(some d.1,PyData.keyHash P d.1)),true)
def BS{K:W.Frag}{P:Params}{T:Str}{rows:List (Str×PV)}(h:yA K T rows=ug P rows):vE K P T rows:=by
 unfold yA ug at h;split at h
 ·rename_i a hn;split at h
  ·rename_i c dd es n sl hl;have h:=bI h;simp only[jO]at h;obtain⟨rfl,rfl,rfl,h4,h5⟩:=h;rw[aC,yd]at h5;exact⟨a,es,n,h5.1,hn,hl,oK h4,λd hd=>vG (dn.mp h5.2 d hd)⟩
  ·cases h
 ·cases h
abbrev Mr:=List (Option FuncData)×Bool×List Iw×List Mn×List Iw
def yB(P:Pg)(K:W.Frag)(hp:Heap):Mr:=(P.defs.map (λd=>D8 hp d.1),P.cons.all (Aq K mainGlobals)&&(P.cw.all (Eb K)&&Em P K hp),P.tabs.map (λd=>Ee K d.1 d.2),P.cls.map (λd=>Ei K P.flds d.1),P.c8.map λd=>yA K d.1 d.2)
def yC(P:Pg)(w:World):Mr:=(P.defs.map (λd=>some (Ea d.1 d.2)),true,P.tabs.map (λd=>yw w.params d.2),P.cls.map (λd=>yy P.flds d.1 d.2),P.c8.map λd=>ug w.params d.2)
def BU{P:Pg}{w:World}(Mp:P.defs.all (λd=>Iy d.2)=true)(QH:As P)(Eo:P.cls.all (λd=>Iy d.2)=true)(Ep:Iz P){hp:Heap}(h:yB P (dG hp) hp=yC P w):D7 P w (dG hp)/\kD (dG hp) hp:=by
 unfold yB yC at h;simp only[jO]at h;obtain⟨h1,h2,h5,h6,h7⟩:=h;rw[aC,aC]at h2;obtain⟨l1,l2,l3⟩:=En h2.2.2;refine⟨⟨λd hd=>?_,λd hd=>vG (dn.mp h2.1 d hd),λx hx=>Ec (dn.mp h2.2.1 x hx),λd hd=>Eg (jI.mp h5 d hd),λd hd=>El (dn.mp Eo d hd) Ep hd (jI.mp h6 d hd),λd hd=>BS (jI.mp h7 d hd),l2,l3⟩,l1⟩
 obtain⟨f,fd,a,F⟩:=Iv (D9 (jI.mp h1 d hd));exact⟨⟨f,fd,a,F,λus hl=>Mo QH hd F us hl⟩,Ej (dn.mp Mp d hd)⟩
def IB(P:Pg)(Mp:P.defs.all (λd=>Iy d.2)=true)(QH:As P)(Eo:P.cls.all (λd=>Iy d.2)=true)(Ep:Iz P):W.Hook :=
 ⟨Mr,λs=>yB P (dG s.heap) s.heap,λw=>yC P w,λw h=>∃K:W.Frag,K.In h/\D7 P w K/\kD K h,λw s e=>⟨_,BQ _ _,BU Mp QH Eo Ep e⟩,λ_ _ _ ⟨K,a,b,c⟩ k=>⟨K,a.keeps k,b,c.keeps k⟩⟩
noncomputable def BV(p:Program)(row:String)(b:Bool)(N:Nat)(w:World):Option Shared:=(W.fencedOpening treeTable p w N).bind λs₀=>W.topFrom treeTable p (w.withFollow row b) N s₀
def BW{p q:Program}{loose:List Str}{Xt:Shared->Bool}{α:Type}{Yf:Shared->α}{Ya:World->α}{N:Nat}{g0:Bool}(row:String)
  (h1:∀w,(BV p row false N w).map (W.openSeen q loose (importedModules p.main.body) Xt g0)=some (W.openGood q loose)) (h2:∀w,(BV p row true N w).map (W.openSeen q loose (importedModules p.main.body) Xt g0)=some (W.openGood q loose))
  (h3:∀w,(BV p row false N w).map Yf=some (Ya (w.withFollow row false))) (h4:∀w,(BV p row true N w).map Yf=some (Ya (w.withFollow row true))):W.LeftO p q loose Xt Yf Ya N g0:=by
 refine W.LeftO.of_split row λw=>?_
 obtain⟨sA,a1,a2⟩:=gj.mp (h1 w);obtain⟨sB,b1,b2⟩:=gj.mp (h2 w);obtain⟨sC,c1,c2⟩:=gj.mp (h3 w);obtain⟨sD,d1,d2⟩:=gj.mp (h4 w);rw[a1]at c1;rw[b1]at d1;cases c1;cases d1;obtain⟨s0,f0,tA⟩:=Option.bind_eq_some_iff.mp a1;obtain⟨s1,f1,tB⟩:=Option.bind_eq_some_iff.mp b1;rw[f0]at f1;cases f1;rw[f0,yv,tA,tB,yv,yv,a2,b2,c2,d2]
end L2.U
noncomputable section
namespace L2.U
open PySem PySem.W
def topQ(p:Program)(w:World)(m:Nat)(Qb:Option Value):Nat->SharedT->Thread->Option SharedT
 | 0,_,_=>none
 | n+1,s,t=>match through t with
  | true=>some s
  | false=>match Fast.tw6613529449190102663 m Qb t with
   | false=>none
   | true=>match Fast.tw10156331382660048174 (Fast.tw11892475500146522536 Fast.tw14364793385576792824) p w s t with
    | some (s',t')=>topQ p w m Qb n s' t'
    | none=>none
theorem topQ_of{p:Program}{w:World}{m:Nat}{Qb:Option Value}:∀{n:Nat} {s r:SharedT} {t:Thread},topQ p w m Qb n s t=some r->topRun treeTable p w m Qb n s.abs t=some r.abs
 | 0,_,_,_,h=>by cases h
 | n+1,s,r,t,h=>by
  unfold topQ at h;unfold topRun;rw[<-Fast.te6613529449190102663,<-Fast.te10156331382660048174,<-Fast.te11892475500146522536,<-Fast.te14364793385576792824]at h;cases a:through t with
  | true=>rw[a]at h;cases h;rfl
  | false =>
   rw[a]at h;cases b:stepOk m Qb t with
   | false=>rw[b]at h;cases h
   | true =>
    rw[b]at h;cases c:stepT (denote treeTable) p w s t with
    | none=>rw[c]at h;cases h
    | some y=>rw[c]at h;rw[stepT_spec c];exact topQ_of h
noncomputable def QI(l:List Obj):BT:=(l.foldl (fun(x:BT×Nat) o=>(x.1.ins x.2 o,x.2+1)) (.nil,0)).1
theorem IC(P:Params):absHeap (QI (boot_heap P).objs.toList) (boot_heap P).objs.size (boot_heap P).life=boot_heap P:=by kernel_rfl
theorem ID(P:Params):(boot_heap P).isNs mainGlobals=true:=by kernel_rfl
def Er(p:Program)(row:String)(b:Bool)(N:Nat)(w:World)(os:OsState):Option SharedT :=
 topQ p (w.withFollow row b) (boot_heap w.params).objs.size ((boot_heap w.params).nsMap mainGlobals "__annotations__") N ⟨QI (boot_heap w.params).objs.toList,(boot_heap w.params).objs.size,(boot_heap w.params).life,.mk [],boot_drawn,boot_toks,os⟩ (topStub p)
def Qc(p:Program)(w:World)(s:SharedT):Bool:=staticsOk (importedModules p.main.body) (boot_heap w.params) s.abs.heap&&namesBound p s.abs.heap&&gensDone s.abs&&laidKept (boot_heap w.params) s.abs.heap
theorem nk{p:Program}{row:String}{b:Bool}{N:Nat}{w:World}{α:Type}{g:Shared->α}{a:α}(e:opening p=plainProg p.main.scope.names)(hN:Nat.ble 600 N=true)(f:∀s,fenceModules? p s=some s)
 (h:∀os,(Er p row b N w os).map (λs=>(Qc p w s,g s.abs))=some (true,a)):(BV p row b N w).map g=some a:=by
 obtain⟨⟨hp,gs,d,k,os⟩,h1,h2⟩:=gj.mp (boot_open e hN f w);obtain⟨rfl,rfl,rfl,rfl⟩:hp=boot_heap w.params/\gs=.mk []/\d=boot_drawn/\k=boot_toks:=by simpa using h2
 obtain⟨s,h3,h4⟩:=gj.mp (h os);have h5:=topQ_of h3;unfold SharedT.abs at h5;rw[IC]at h5;unfold BV;rw[h1];show Option.map g (topFrom treeTable p (w.withFollow row b) N _)=_;unfold topFrom;dsimp only
 rw[ID,h5];have h6:=(Prod.mk.inj h4).1;unfold Qc SharedT.abs at h6;show Option.map g (match staticsOk (importedModules p.main.body) (boot_heap w.params) (absHeap s.tree s.n s.life)&&namesBound p (absHeap s.tree s.n s.life)&&gensDone ⟨absHeap s.tree s.n s.life,s.gens,s.drawn,s.toks,s.os⟩&&laidKept (boot_heap w.params) (absHeap s.tree s.n s.life)with | true=>_ | false=>_)=_
 rw[h6];exact fj some (Prod.mk.inj h4).2
theorem Ms{p q:Program}{loose:List Str}{Xt:Shared->Bool}{α:Type}{Yf:Shared->α}{Ya:World->α}{N:Nat}{g0:Bool}(row:String)(e:opening p=plainProg p.main.scope.names)(hN:Nat.ble 600 N=true)(f:∀s,fenceModules? p s=some s)
 (h0:∀w os,(Er p row false N w os).map (λs=>(Qc p w s,openSeen q loose (importedModules p.main.body) Xt g0 s.abs,Yf s.abs))=some (true,openGood q loose,Ya (w.withFollow row false)))
 (h1:∀w os,(Er p row true N w os).map (λs=>(Qc p w s,openSeen q loose (importedModules p.main.body) Xt g0 s.abs,Yf s.abs))=some (true,openGood q loose,Ya (w.withFollow row true))):LeftO p q loose Xt Yf Ya N g0:=by
 have fs:∀{β γ δ:Type} {o:Option δ} {a:δ->β} {b:δ->γ} {x:β} {y:γ},o.map (λs=>(a s,b s))=some (x,y)->o.map a=some x/\o.map b=some y:=λ{_ _ _ o _ _ _ _} h=>by
  cases o with
  | none=>cases h
  | some s=>cases h;exact⟨rfl,rfl⟩
 exact BW row (λw=>(fs (nk e hN f λos=>h0 w os)).1) (λw=>(fs (nk e hN f λos=>h1 w os)).1) (λw=>(fs (nk e hN f λos=>h0 w os)).2) λw=>(fs (nk e hN f λos=>h1 w os)).2
end L2.U
namespace bZ
open PySem L2 L2.U
noncomputable def top(i:Nat):Stmt:=PySem.Challenge.pw_lendrule_k17_heads_that_are_not_right.main.body.getD i (.Pass ⟨0,0,0,0⟩)
def inC(i j:Nat):Stmt:=match top i with | .ClassDef _ _ _ b _ _ _ _ _ _ _=>b.getD j (.Pass ⟨0,0,0,0⟩) | s=>s
abbrev IE:Stmt:=inC 27 0
def aG:Pg where
 defs:=([("is_whole",8),("is_shape",9),("count_leaves",10),("count_in_parts",11),("leaves",12),("check_part",13),("part",14),("paths",15),("is_copied",16),("is_right",26),("is_tuple_from",28),("is_tuple_of",29),("is_name",30),("are_apart",31),("is_holder_kind",32),("is_kind",33),("is_holder",34),("shape_of",35),("has_kind",36),("is_head",37),("are_named",38),("is_result",39),("are_sources",40),("may_be_run",41),("is_spot",42),("is_path",43),("spot_shape",44),("is_at",45),("is_number_spot",46),("is_part_spot",47),("is_owned_part",48),("is_written_part",49),("may_be_written",50),("is_operand",51),("are_rows",52),("is_row",53),("is_put",54),("is_target",55),("is_set",56),("is_fill",57),("is_copy",58),("are_alike",59),("is_move",60),("is_drop",61),("is_lend",62),("is_sole",63),("is_call",64),("takes_back",65),("is_if",66),("is_jump",67),("is_go",68),("is_say",69),("is_give",70),("_law_cell_at",74),("_law_mixed",75),("_law_names",76),("_law_many",77),("_law_table",78),("_law_held",79),("_law_spots",80),("_law_menu",81),("_law_picked",82),("_law_numbers",83),("_law_operand",84),("_law_result",85),("_law_back",86),("_law_head",87),("_law_heads",88),("_law_call",89),("_law_lends",90),("_law_copied",91),("_law_things",92),("_law_plain_row",93),("_law_row",94),("_law_give",95),("_law_function",96),("_law_bad_name",97),("_law_bad_kind",98),("_law_fresh",99),("_law_let",100),("_law_rows",101),("_law_renamed",102),("_law_many_lets",103),("_law_small",104),("_law_sources",105),("_law_last",106),("_law_changed",107),("law",108)]:List (String×Nat)).map λd=>(d.1,top d.2)
 cons:=[("MOST_DEEP",.int 3),("MOST_LEAVES",.int 8),("MOST_PARTS",.int 4),("LONGEST_STRIP",.int 8),("MOST_SIGNS",.int 8),("MOST_FUNCTIONS",.int 6),("MOST_PARAMS",.int 4),("MOST_LETS",.int 8),("MOST_ROWS",.int 32),("HOLDER_WORDS",.ag [(.str "lent"),(.str "sole")]),("SIGNS",.ag [(.str "+"),(.str "-"),(.str "*")]),("NUM",.ag [(.str "num")])]
 cw:=["all","bool","dict","enumerate","int","isinstance","len","list","range","set","str","sum","tuple","zip"]
 tabs:=[("CHECKS",[("put","is_put"),("set","is_set"),("fill","is_fill"),("copy","is_copy"),("move","is_move"),("drop","is_drop"),("lend","is_lend"),("sole","is_sole"),("call","is_call"),("if","is_if"),("go","is_go"),("say","is_say"),("give","is_give")])]
 cls:=[("Scene",IE)]
 flds:=["kinds","result","size","heads"]
 c8:=[("LENGTHS",[("put",.int 3),("set",.int 5),("fill",.int 3),("copy",.int 3),("move",.int 3),("drop",.int 2),("lend",.int 3),("sole",.int 3),("call",.int 4),("if",.int 4),("go",.int 2),("say",.int 2),("give",.int 2)])]
 qH:=[]
 QD:=[("leaves",[("told",1)]),("paths",[("told",1)]),("_law_names",[("_law_found",1)]),("_law_spots",[("_law_found",1)]),("_law_picked",[("_law_found",1)]),("_law_numbers",[("_law_found",1)]),("_law_result",[("_law_sources_here",1)]),("_law_call",[("_law_args",1)]),("_law_lends",[("_law_found",1)]),("_law_function",[("_law_rows_here",1)]),("_law_renamed",[("_law_rows_here",1),("_law_found",1)]),("_law_small",[("_law_params",1)]),("_law_last",[("_law_some",1)])]
section
end
end bZ
set_option maxHeartbeats 0
set_option maxHeartbeats 0
namespace bZ
open PySem L2 L2.U
end bZ
set_option maxHeartbeats 0
set_option maxHeartbeats 0
set_option maxHeartbeats 0
set_option maxHeartbeats 0
set_option maxHeartbeats 0
set_option maxHeartbeats 0
set_option maxHeartbeats 0
set_option maxHeartbeats 0
set_option maxHeartbeats 0
namespace bZ
open PySem L2 L2.U
end bZ
set_option maxHeartbeats 0
set_option maxHeartbeats 0
set_option maxHeartbeats 0
set_option maxHeartbeats 0
set_option maxHeartbeats 0
set_option maxHeartbeats 2000000
set_option maxHeartbeats 2000000
set_option maxHeartbeats 2000000
set_option maxHeartbeats 4000000
noncomputable section
namespace bZ
open PySem L2 L2.U
theorem Mp:aG.defs.all (λd=>Iy d.2)=true:=by kernel_rfl
theorem QH:As aG:=by
 intro kV doc pm an eA ct u;kernel_rfl
theorem Eo:aG.cls.all (λd=>Iy d.2)=true:=by kernel_rfl
theorem Ep:Iz aG:=by
 intro kV doc pm an eA ct u;kernel_rfl
noncomputable abbrev pp:Program:=W.OpenLaw.prog PySem.Challenge.rw_lendrule_k17_heads_that_are_not_right
def qv:Program:=W.view pp [108]
def lo:List Str:=pp.boundNames.filter (· != "law")
def Xt(s:Shared):Bool:=W.xlAt qv [] s&&W.recOk (W.RowW.records (W.OpenRow.toRowW (W.OpenLaw.row PySem.Challenge.rw_lendrule_k17_heads_that_are_not_right))) s
abbrev hk:W.Hook:=IB aG Mp QH Eo Ep
theorem kq1(w:World)(os:OsState):(Er pp "special-get-raises" false 5000 w os).map (λs=>(Qc pp w s,W.openSeen qv lo (importedModules pp.main.body) Xt true s.abs,W.Hook.obs hk s.abs))=some (true,W.openGood qv lo,W.Hook.val hk (w.withFollow "special-get-raises" false)):=by kernel_rfl
theorem kq2(w:World)(os:OsState):(Er pp "special-get-raises" true 5000 w os).map (λs=>(Qc pp w s,W.openSeen qv lo (importedModules pp.main.body) Xt true s.abs,W.Hook.obs hk s.abs))=some (true,W.openGood qv lo,W.Hook.val hk (w.withFollow "special-get-raises" true)):=by kernel_rfl
theorem Yx:(W.OpenLaw.row PySem.Challenge.rw_lendrule_k17_heads_that_are_not_right).wellSaid=true:=by kernel_rfl
theorem ws:W.OpenLaw.wellSaid PySem.Challenge.rw_lendrule_k17_heads_that_are_not_right=true:=by
 unfold W.OpenLaw.wellSaid;rw[Yx];kernel_rfl
end bZ
open PySem PySem.W PyProof.Rows PySem.Calls
set_option maxRecDepth 100000 in
set_option maxHeartbeats 0 in
theorem bZ.iS(hc:∀d:DefRec,d.name="law"->d.params.defaults=[]->W.WalkO bZ.qv bZ.lo (XL bZ.qv []) (Hook.says bZ.hk) (W.OpenRow.toRowW (W.OpenLaw.row PySem.Challenge.rw_lendrule_k17_heads_that_are_not_right)) d [] (λf vs=>PySem.call f vs)):PySem.Challenge.rw_lendrule_k17_heads_that_are_not_right.Holds:=by
 w_on;refine W.holds_law bZ.ws λaad=>?_
 refine W.holds_open (q:=bZ.qv) (loose:=bZ.lo) (Xt:=bZ.Xt) (XP:=XL bZ.qv []) (Yf:=Hook.obs bZ.hk) (Ya:=Hook.val bZ.hk) (YP:=Hook.says bZ.hk) (N:=5000) (L2.U.Ms "special-get-raises" (by kernel_rfl) (by decide) (λ_=>rfl) bZ.kq1 bZ.kq2) (Hook.of _) (Hook.keeps _) (λs e=>xl_of s (nY.mp e).1) XL.keeps (by rfl) (by rfl) (by rfl) (λs e=>recFacts_of (nY.mp e).2) (by rfl) (by first | assumption | decide +kernel) (by decide +kernel) ⟨rfl,rfl,rfl,rfl,rfl,by decide +kernel⟩ ?hw (hc _ rfl rfl)
 case hw=>w_witness2
end
namespace L2
open PySem PySem.Spec PyProof.Rows
noncomputable def rn:cC->Value->Bool
 | .inl k,v=>Value.isInt k v
 | .inr x,v=>Value.isStrOf x v
noncomputable def VB(w:World):cC->Int
 | .inl k=>hashInt k
 | .inr x=>hashStr w x
theorem cg:∀{k:cC} {v:Value},rn k v=true->(∃i t,k=Sum.inl i/\v=Value.int i t)\/(∃x t,k=Sum.inr x/\v=Value.str x t)
 | .inl i,v,h=>by
  obtain⟨t,e⟩:=Value.isInt_shape h;exact .inl ⟨i,t,rfl,e⟩
 | .inr x,v,h=>by
  obtain⟨t,e⟩:=Value.isStrOf_shape h;exact .inr ⟨x,t,rfl,e⟩
def BX(i:Int)(t:Tok):rn (.inl i) (.int i t)=true:=by simp[rn,Value.isInt]
def BY(x:Str)(t:Tok):rn (.inr x) (.str x t)=true:=by simp[rn,Value.isStrOf]
def Mt(a b:Int):decide ((Sum.inl a:cC)=Sum.inl b)=(a==b):=by
 grind
def Mu(a b:Str):decide ((Sum.inr a:cC)=Sum.inr b)=decide (a=b):=by
 grind
def Mv(a:Int)(b:Str):decide ((Sum.inl a:cC)=Sum.inr b)=false:=by grind
def Mw(a:Str)(b:Int):decide ((Sum.inr a:cC)=Sum.inl b)=false:=by grind
def bD(prog:Program)(w:World):PySem.KeyKind prog w cC where
 is:=rn
 hash:=VB w
 inj:=λv a b ha hb=>by
  rcases cg ha with⟨i,t,rfl,rfl⟩ | ⟨x,t,rfl,rfl⟩
  ·rcases cg hb with⟨j,u,rfl,e⟩ | ⟨y,u,rfl,e⟩
   ·injection e with e1 _;rw[e1]
   ·exact nomatch e
  ·rcases cg hb with⟨j,u,rfl,e⟩ | ⟨y,u,rfl,e⟩
   ·exact nomatch e
   ·injection e with e1 _;rw[e1]
 byValue:=λk v h=>by
  rcases cg h with⟨i,t,rfl,rfl⟩ | ⟨x,t,rfl,rfl⟩<;>rfl
 pyHash:=λhv h=>by
  rcases cg hv with⟨i,t,rfl,rfl⟩ | ⟨x,t,rfl,rfl⟩
  ·exact wpAny_pyHash_int h
  ·exact wpAny_pyHash_str h
 eqBool:=λhu hv h=>by
  rcases cg hu with⟨i,t,rfl,rfl⟩ | ⟨x,t,rfl,rfl⟩
  ·rcases cg hv with⟨j,u,rfl,rfl⟩ | ⟨y,u,rfl,rfl⟩
   ·rw[Mt]at h;exact wpAny_eqBool_int h
   ·rw[Mv]at h;exact SeqAt.EqAt.int_str i t y u _ _ _ _ h
  ·rcases cg hv with⟨j,u,rfl,rfl⟩ | ⟨y,u,rfl,rfl⟩
   ·rw[Mw]at h;exact SeqAt.EqAt.str_int x t j u _ _ _ _ h
   ·rw[Mu]at h;exact wpAny_eqBool_str h
 «strs» := λk x t v h=>by
  rcases cg h with⟨i,u,rfl,e⟩ | ⟨y,u,rfl,e⟩
  ·exact nomatch e
  ·injection e with e1 _
   subst e1;cases v<;>rfl
def vI(prog:Program)(w:World)(i:Int)(t:Tok):(bD prog w).is (.inl i) (.int i t)=true:=BX i t
def vJ(prog:Program)(w:World)(x:Str)(t:Tok):(bD prog w).is (.inr x) (.str x t)=true:=BY x t
def Vals.length(r:Vals xs us):xs.length=us.length:=iP r
theorem Vals.get:∀{xs:List V} {us:List Value} {i:Nat} {x:V},Vals xs us->xs[i]?=some x->∃u,us[i]?=some u/\RelV x u
 | _,_,_,_,.nil,e=>by simp at e
 | _,_,0,_,.cons r _,e=>by grind
 | _,_,i+1,x,.cons _ t,e=>by
  obtain⟨u,h1,h2⟩:=Vals.get t (by simpa using e)
  exact⟨u,by grind,h2⟩
theorem Vals.set(r:RelV x u):∀{xs:List V} {us:List Value} (i:Nat),Vals xs us->Vals (xs.set i x) (us.set i u)
 | _,_,_,.nil=>.nil
 | _,_,0,.cons _ t=>.cons r t
 | _,_,i+1,.cons q t=>.cons q (Vals.set r i t)
theorem Vals.append:∀{xs ys:List V} {us ws:List Value},Vals xs us->Vals ys ws->Vals (xs++ys) (us++ws)
 | _,_,_,_,.nil,s=>s
 | _,_,_,_,.cons r t,s=>.cons r (Vals.append t s)
theorem Vals.take:∀{xs:List V} {us:List Value} (n:Nat),Vals xs us->Vals (xs.take n) (us.take n)
 | _,_,0,_=>.nil
 | _,_,_+1,.nil=>.nil
 | _,_,n+1,.cons r t=>.cons r (Vals.take n t)
theorem Vals.drop:∀{xs:List V} {us:List Value} (n:Nat),Vals xs us->Vals (xs.drop n) (us.drop n)
 | _,_,0,r=>r
 | _,_,_+1,.nil=>.nil
 | _,_,n+1,.cons _ t=>Vals.drop n t
def Vals.none_of:∀{xs:List V} {us:List Value} {i:Nat},Vals xs us->xs[i]?=none->us[i]?=none:=λ{xs us i} r e=>by
 have h1:=r.length;have h2:=fJ.mp e;exact fJ.mpr (by lia)
def uh:Option V->Option Value->Prop
 | some v,some u=>RelV v u
 | none,none=>True
 | _,_=>False
def KV{κ:Type}:List (κ×V)->List (κ×Value)->Prop:=Paired fun(p:κ×V) (q:κ×Value)=>p.1=q.1/\RelV p.2 q.2
noncomputable def cf(H:Hp)(a:Addr)(o:HO):Hp:=λb=>if b=a then some o else H b
def ar:cf H a o a=some o:=by unfold cf;rw[if_pos rfl]
def aI(h:b≠a):cf H a o b=H b:=by unfold cf;rw[if_neg h]
def cH{H:Hp}{a b:Addr}{o:HO}(h:H a=some o)(h':H b=none):a≠b:=by
 grind
def mV(h:Heap)(a:Addr)(ak:Array Value):Prop:=∃o,h.get? a=some o/\o.cls=.type "tuple"/\(∃n,o.data=.seq ak n)/\o.dict=none
def mV.new(h:Heap)(ak:Array Value):mV (h.push {cls:=.type "tuple",data:=.seq ak}) h.objs.size ak:=⟨_,aZ _ rfl,rfl,⟨_,rfl⟩,rfl⟩
def mV.is(t:mV h a ak):IsTup h a ak:=let ⟨o,e,c,n,_⟩:=t;⟨o,e,c,n⟩
section
variable (P:Program) (w:World)
def eG(H:Hp)(h:Heap)(a:Addr):HO->Prop
 | .lst xs=>xs.length<=sizeLine/\∃(ak:List Value) (n:Nat),Vals xs ak/\h.get? a=some {cls:=.type "list",data:=.seq ak.toArray n}
 | .ag xs=>xs.length<=sizeLine/\∃ak:List Value,Vals xs ak/\mV h a ak.toArray
 | .dK kvs=>kvs.length<=sizeLine/\(a==sysModules)=false/\∃vs,KV kvs vs/\h.DictOf (bD P w) a vs
 | .dT xs=>xs.length<=sizeLine/\(a==sysModules)=false/\∃o es ep,h.get? a=some o/\o.ExactDict/\o.data=.dict es ep/\es.toList=xs.map (entryOfKey (tupleKind (bD P w)))/\(xs.map (·.1)).Nodup
 | .set S n=>h.SetOf (intKind P w) a S n
 | .ins C dx fs=>H dx=some (.own a)/\fs.length<=1000/\dx≠a/\h.get? a=some (W.instObj C dx) /\
   ∃mA,h.Ns1 dx mA/\(∀f,uh (fs.lookup f) (mA f))/\PySem.Within mA (fs.map (·.1))
 | .own _=>∃o,h.get? a=some o
 | .xd fs=>∃mA,h.Ns1 a mA/\∀f,uh (fs.lookup f) (mA f)
 | .UL lo hi=>∃t u v,h.get? a=some {cls:=.type "range",data:=.fields #[.int lo t,.int hi u,.int 1 v]}
 | .vD o u=>h.get? a=some o/\eG H h a u
 | .kn q=>∃ps:Array Value,h.get? a=some {cls:=.none,data:=.fields ps}/\TriplesOk ps.toList/\∀(pos:Pos) (cv:Value),codeAmong pos ps.toList=some cv ->
   ∃(c:Addr) (oc:Obj) (u:HO) (vs:Array Value) (t:Tok),cv=.ref c/\H c=some (.vD oc u)/\oc.data=.fields vs/\vs[1]?=some (.str q t)
 | .UK f x=>h.get? a=some (W.methodObj (.ref f) (.ref x))
 | .ext φ=>φ h/\(∃o,h.get? a=some o)/\∀h1 h2:Heap,φ h1->(∀o,h1.get? a=some o->h2.get? a=some o)->φ h2
def ko(H:Hp)(h:Heap):Prop:=∀a o,H a=some o->eG P w H h a o
end
section
variable {P:Program} {w:World} {H H':Hp} {h h':Heap} {a:Addr} {o:HO}
def eG.lt(x:eG P w H h a o):a<h.objs.size:=by
 cases o with
 | lst xs=>obtain⟨_,_,_,_,e⟩:=x;exact az e
 | ag xs=>obtain⟨_,_,_,p⟩:=x;exact p.is.lt
 | dK kvs=>obtain⟨_,_,_,_,o,_,_,e,_⟩:=x;exact az e
 | dT kvs=>obtain⟨_,_,o,_,_,e,_⟩:=x;exact az e
 | set S n=>obtain⟨o,_,_,_,e,_⟩:=x;exact az e
 | ins C dx fs=>obtain⟨_,_,_,e,_⟩:=x;exact az e
 | own y=>obtain⟨_,e⟩:=x;exact az e
 | xd fs=>obtain⟨_,⟨_,_,_,e,_⟩,_⟩:=x;exact az e
 | UL lo hi=>obtain⟨_,_,_,e⟩:=x;exact az e
 | vD ob u=>obtain⟨e,_⟩:=x;exact az e
 | kn q=>obtain⟨_,e,_⟩:=x;exact az e
 | UK f y=>exact az (x)
 | ext φ=>obtain⟨_,⟨_,e⟩,_⟩:=x;exact az e
def eG.vK(x:eG P w H h a o)(k:∀b u,(b=a\/H b=some (.own a))->h.get? b=some u->h'.get? b=some u)
  (ho:∀b,H b=some (.own a)->H' b=some (.own a)) (ht:∀b xs,H b=some (.ag xs)->H' b=some (.ag xs)) (hz:∀b ob u,H b=some (.vD ob u)->H' b=some (.vD ob u)):eG P w H' h' a o:=by
 induction o with
 | lst xs=>obtain⟨z,ak,n,r,e⟩:=x;exact⟨z,ak,n,r,k _ _ (.inl rfl) e⟩
 | ag xs=>obtain⟨z,ak,r,ob,e,c⟩:=x;exact⟨z,ak,r,ob,k _ _ (.inl rfl) e,c⟩
 | dK kvs=>obtain⟨z,y,vs,r,ob,es,ep,e,c⟩:=x;exact⟨z,y,vs,r,ob,es,ep,k _ _ (.inl rfl) e,c⟩
 | dT kvs=>obtain⟨z,y,ob,es,ep,e,c⟩:=x;exact⟨z,y,ob,es,ep,k _ _ (.inl rfl) e,c⟩
 | set S n=>obtain⟨ob,es,ep,t,e,c⟩:=x;exact⟨ob,es,ep,t,k _ _ (.inl rfl) e,c⟩
 | ins C dx fs =>
  obtain⟨d,z,ne,e,mA,⟨od,es,ep,e2,c⟩,r⟩:=x;exact⟨ho _ d,z,ne,k _ _ (.inl rfl) e,mA,⟨od,es,ep,k _ _ (.inr d) e2,c⟩,r⟩
 | own y=>obtain⟨ob,e⟩:=x;exact⟨ob,k _ _ (.inl rfl) e⟩
 | xd fs=>obtain⟨mA,⟨od,es,ep,e,c⟩,r⟩:=x;exact⟨mA,⟨od,es,ep,k _ _ (.inl rfl) e,c⟩,r⟩
 | UL lo hi=>obtain⟨t,u,v,e⟩:=x;exact⟨t,u,v,k _ _ (.inl rfl) e⟩
 | vD ob u ih=>obtain⟨e,q⟩:=x;exact⟨k _ _ (.inl rfl) e,ih q⟩
 | kn q =>
  obtain⟨ps,e,t,c⟩:=x;exact⟨ps,k _ _ (.inl rfl) e,t,λpos cv z=>let ⟨c,oc,u,vs,tk,h1,h2,h3⟩:=c pos cv z;⟨c,oc,u,vs,tk,h1,hz _ _ _ h2,h3⟩⟩
 | UK f y =>
  have e:=x;exact k a _ (.inl rfl) e
 | ext φ=>obtain⟨p,⟨o,e⟩,st⟩:=x;exact⟨st _ _ p λo q=>k _ _ (.inl rfl) q,⟨o,k _ _ (.inl rfl) e⟩,st⟩
def ko.lt(x:ko P w H h)(e:H a=some o):a<h.objs.size:=(x a o e).lt
def ko.fresh(x:ko P w H h)(e:h.objs.size<=a):H a=none:=by
 cases q:H a with
 | none=>rfl
 | some u=>exact absurd (bP (x.lt q) e) (dC _)
def ko.kept(x:ko P w H h)(k:∀b u,h.get? b=some u->h'.get? b=some u):ko P w H h':=λa o e =>
 (x a o e).vK (λb u _ q=>k b u q) (λ_ q=>q) (λ_ _ q=>q) λ_ _ _ q=>q
def ko.laid(x:ko P w H h)(k:∀b u,h.get? b=some u->h'.get? b=some u)(hp:h.objs.size<=a)(new:eG P w (cf H a o) h' a o):ko P w (cf H a o) h':=λb u e=>by
 have hn:=x.fresh hp;by_cases hb:b=a
 ·subst hb;rw[ar]at e;cases e;exact new
 ·rw[aI hb]at e;exact(x b u e).vK (λc v _ q=>k c v q) (λc q=>by rw[aI (cH q hn)];exact q) (λc xs q=>by rw[aI (cH q hn)];exact q) λc ob v q=>by rw[aI (cH q hn)];exact q
end
def Rd.ok(r:Rd H a u)(x:ko P w H h):eG P w H h a u:=by
 rcases r with r | ⟨o,r⟩
 ·exact x a u r
 ·obtain⟨_,q⟩:=x a _ r;exact q
def UM:Option HO->Prop
 | some (.lst _)=>True
 | some (.dK _)=>True
 | some (.dT _)=>True
 | some (.set _ _)=>True
 | some (.ins _ _ _)=>True
 | some (.ext _)=>True
 | _=>False
section
variable {P:Program} {w:World} {H:Hp} {h h':Heap} {x e:Addr} {o':HO}
def ko.write(ok:ko P w H h)(mu:UM (H x))(he:e=x\/H e=some (.own x))(k:∀b u,b≠e->h.get? b=some u->h'.get? b=some u)(Qd:∃u,h'.get? e=some u)
  (new:eG P w (cf H x o') h' x o'):ko P w (cf H x o') h':=λb u q=>by
 have QJ:∀c y,H c=some (.own y)->c≠x:=λc y r z=>by subst z;rw[r]at mu;exact mu
 have VC:∀c xs,H c=some (.ag xs)->c≠x:=λc xs r z=>by subst z;rw[r]at mu;exact mu
 have VD:∀c ob v,H c=some (.vD ob v)->c≠x:=λc ob v r z=>by subst z;rw[r]at mu;exact mu
 by_cases hb:b=x
 ·subst hb;rw[ar]at q;cases q;exact new
 ·rw[aI hb]at q;by_cases Mx:b=e
  ·have q':H b=some (.own x):=by
    rcases he with z | z
    ·exact absurd (Mx.trans z) hb
    ·rw[Mx];exact z
   rw[q]at q';cases q';obtain⟨v,hv⟩:=Qd;exact⟨v,by rw[Mx];exact hv⟩
  ·refine(ok b u q).vK (λc v hc r=>k c v ?_ r) (λc r=>by rw[aI (QJ c b r)];exact r) (λc xs r=>by rw[aI (VC c xs r)];exact r) λc ob v r=>by rw[aI (VD c ob v r)];exact r
   rcases hc with rfl | hc
   ·exact Mx
   ·rintro rfl
    rcases he with z | z
    ·exact QJ c b hc z
    ·rw[hc]at z;cases z;exact hb rfl
end
structure Un (fs ex:List Addr) (H H':Hp) (h h':Heap):Prop where
 keep:∀b o,h.get? b=some o->H b=none->b∉fs->b∉ex->h'.get? b=some o
 slot:∀b o,h.get? b=some o->H b=none->b∈fs->b∉ex->∃sl,h'.get? b=some {o with slots:=sl}
 free:∀b o,h.get? b=some o->H b=none->b∉ex->H' b=none
 there:∀b o,h.get? b=some o->b∉ex->∃o',h'.get? b=some o'
 tups:∀b xs,H b=some (.ag xs)->H' b=some (.ag xs)
 frzs:∀b o u,H b=some (.vD o u)->H' b=some (.vD o u)
 tbls:∀b q,H b=some (.kn q)->H' b=some (.kn q)
section
variable {fs fs' ex ex':List Addr} {H H1 H2:Hp} {h h1 h2 h':Heap} {a x e:Addr} {o:HO}
def Un.any(u:Un fs ex H H1 h h1)(q:h.get? b=some ob)(n:H b=none)(hx:b∉ex):∃sl,h1.get? b=some {ob with slots:=sl}:=by
 by_cases hb:b∈fs
 ·exact u.slot b ob q n hb hx
 ·exact⟨ob.slots,u.keep b ob q n hb hx⟩
def Un.trans(a:Un fs ex H H1 h h1)(b:Un fs ex H1 H2 h1 h2):Un fs ex H H2 h h2 where
 keep:=λc ob q n hc hx=>b.keep c ob (a.keep c ob q n hc hx) (a.free c ob q n hx) hc hx
 slot:=λc ob q n hc hx=>by
  obtain⟨sl,e1⟩:=a.slot c ob q n hc hx;obtain⟨QK,e2⟩:=b.slot c _ e1 (a.free c ob q n hx) hc hx;exact⟨QK,e2⟩
 free:=λc ob q n hx=>by
  obtain⟨o',e1⟩:=a.there c ob q hx;exact b.free c o' e1 (a.free c ob q n hx) hx
 there:=λc ob q hx=>by
  obtain⟨o',e1⟩:=a.there c ob q hx;exact b.there c o' e1 hx
 tups:=λc xs q=>b.tups c xs (a.tups c xs q)
 frzs:=λc ob xs q=>b.frzs c ob xs (a.frzs c ob xs q)
 tbls:=λc q e=>b.tbls c q (a.tbls c q e)
def Un.kept(k:∀b u,h.get? b=some u->h'.get? b=some u):Un fs ex H H h h' :=
 ⟨λb ob q _ _ _=>k b ob q,λb ob q _ _ _=>⟨ob.slots,k b ob q⟩,λ_ _ _ n _=>n,λb ob q _=>⟨ob,k b ob q⟩,λ_ _ q=>q,λ_ _ _ q=>q,λ_ _ q=>q⟩
def Un.refl:Un fs ex H H h h:=Un.kept λ_ _ q=>q
def Un.laid(k:∀b u,h.get? b=some u->h'.get? b=some u)(hp:h.objs.size<=a)(hn:H a=none):Un fs ex H (cf H a o) h h' where
 keep:=λb u q _ _ _=>k b u q
 slot:=λb u q _ _ _=>⟨u.slots,k b u q⟩
 free:=λb u q n _=>by rw[aI (aN (bP (az q) hp))];exact n
 there:=λb u q _=>⟨u,k b u q⟩
 tups:=λb xs q=>by rw[aI (cH q hn)];exact q
 frzs:=λb u xs q=>by rw[aI (cH q hn)];exact q
 tbls:=λb ps q=>by rw[aI (cH q hn)];exact q
def Un.write(mu:UM (H x))(he:e=x\/H e=some (.own x))(k:∀b u,b≠e->h.get? b=some u->h'.get? b=some u)(Qd:∃u,h'.get? e=some u):Un fs ex H (cf H x o) h h':=by
 have hx:∀b,H b=none->b≠x:=λb n z=>by subst z;rw[n]at mu;exact mu
 have hb:∀b,H b=none->b≠e:=λb n z=>by
  subst z;rcases he with r | r
  ·exact hx b n r
  ·rw[n]at r;cases r
 have hm:∀b u,H b=some u->¬UM (some u)->b≠x:=λb u q nm z=>by subst z;rw[q]at mu;exact nm mu
 refine⟨λb u q n _ _=>k b u (hb b n) q,λb u q n _ _=>⟨u.slots,k b u (hb b n) q⟩,λb u q n _=>by rw[aI (hx b n)];exact n,λb u q _=>?_,
  λb xs q=>by rw[aI (hm b _ q λz=>z)];exact q,λb u xs q=>by rw[aI (hm b _ q λz=>z)];exact q,λb ps q=>by rw[aI (hm b _ q λz=>z)];exact q⟩
 by_cases Mx:b=e
 ·subst Mx;exact Qd
 ·exact⟨u,k b u Mx q⟩
end
noncomputable def UN(h:Heap)(H:Hp):List Addr:=(List.range h.objs.size).filter λa=>(H a).isSome
def vL(h:Heap)(H:Hp):Heap:=W.hideAll h (UN h H)
def BZ(h:Heap)(H:Hp):(vL h H).objs.size=h.objs.size:=W.hideAll_size _ _
def hidT_get(e:h.get? b=some o)(n:H b=none):(vL h H).get? b=some o :=
 W.hideAll_get _ e λhm=>by
  have q:=(cq.mp hm).2;rw[n]at q;simp at q
def of_hidT(e:(vL h H).get? b=some o):h.get? b=some o/\H b=none:=by
 have e':=W.of_hideAll (UN h H) e;refine⟨e',?_⟩;cases q:H b with
 | none=>rfl
 | some x =>
  have hm:b∈UN h H:=cq.mpr ⟨dB.mpr (az e'),by simp[q]⟩
  have z:(vL h H).get? b=none:=W.hideAll_none (UN h H) hm;rw[z]at e;cases e
structure Mod (K:W.Frag) (mg:Str->Option Value) (base:Heap):Prop where
 kin:K.In base
 glob:base.Ns mainGlobals mg
 blt:∃mb,base.Ns builtinsNs mb/\∀x:Str,x≠"__name__"->mb x=bootBuiltins x
 nolimit:base.NoLimit
structure Cx where
 prog:Program
 w:World
 K:W.Frag
 mg:Str->Option Value
 base:Heap
 A:Around
 N:List Str
 s₀:Shared
 aa:Hp
 env:Env
 aB:List Env
 stack:List Env
 ex:List Addr
 fn:Str->Bool
 calm:Bool
 pn:List (Addr×Obj)
 xe:Value->Shared->Prop
noncomputable def kE(l:List Env):List Addr:=l.filterMap (·.frame)
abbrev Cx.fs(X:Cx):List Addr:=kE X.aB
def QL(sc:Scope)(x:Str):Prop:=sc.names.lookup x=some .local\/sc.names.lookup x=some .cell\/sc.names.lookup x=some .free
def Lk(sc:Scope)(x:Str):Prop:=sc.names.lookup x=some .local\/sc.names.lookup x=some .cell
def Look(env:Env)(h:Heap)(m:Str->Option Value)(x:Str)(u:Value):Prop :=
 (env.kindOf x=some .local/\m x=some u)\/((env.kindOf x=some .cell\/env.kindOf x=some .free)/\∃c,env.cells.lookup x=some c/\h.IsCell c (some u))
noncomputable def IF(x:Str):Str:=x++".<locals>."++"<lambda>"
def oM(K:W.Frag)(H:Hp):Prop:=∀x∈cZ,∀c T,W.tabIn K x=some (c,T)->H T=some (.kn (IF x))
structure Cx.Ok (X:Cx):Prop where
 mod:Mod X.K X.mg X.base
 kind:X.env.scope.kind=.function
 glob:X.env.globals=mainGlobals
 blt:X.env.builtins=builtinsNs
 above:X.s₀.heap.objs.size<=X.env.locals
 inj:∀x y c,X.env.cells.lookup x=some c->X.env.cells.lookup y=some c->x=y
 has:∀x,(X.env.kindOf x=some .cell\/X.env.kindOf x=some .free)->∃c,X.env.cells.lookup x=some c
 cab:∀x c,X.fn x=true->X.env.cells.lookup x=some c->X.s₀.heap.objs.size<=c
 hd:X.calm=true->X.A.handled=none
 frames:X.A.frames=some X.stack
 stk:X.stack=X.aB\/(X.stack=X.env::X.aB/\X.env.frame=some X.env.locals)
 exf:∀b∈X.ex,b≠X.env.locals/\∀x c,X.env.cells.lookup x=some c->c≠b
 bs:∀b o,X.base.get? b=some o->X.s₀.heap.get? b=some o/\X.aa b=none
 bsz:X.base.objs.size<=X.s₀.heap.objs.size
 noex:∀b o,X.base.get? b=some o->b∉X.ex
 exfs:∀b∈X.ex,b∉X.fs
 funs:X.s₀.heap.FunFrames X.base X.aB
 frf:∀b∈X.fs,X.aa b=none
 tabs:oM X.K X.aa
structure Inv (X:Cx) (ae:List (Addr×Obj)) (σ:List (Option V)) (H:Hp) (s:Shared):Prop where
 ok:X.Ok
 os:s.os=X.s₀.os
 bare:AllBare s.gens
 base:Un X.fs X.ex X.aa H X.s₀.heap s.heap
 loc:∃m,s.heap.Ns X.env.locals m/\∀(i:Nat) (x:Str) (v:V),X.N[i]?=some x->σ[i]?=some (some v)->QL X.env.scope x->∃u,RelV v u/\Look X.env s.heap m x u
 cell:∀x c,X.env.cells.lookup x=some c->∃v,s.heap.IsCell c v
 free:H X.env.locals=none
 freeC:∀x c,X.env.cells.lookup x=some c->H c=none
 pin:∀p∈X.pn++ae,s.heap.get? p.1=some p.2/\H p.1=none/\p.1≠X.env.locals/\p.1∉X.fs/\∀v,p.2.data≠.cell v
 hok:ko X.prog X.w H s.heap
 len:σ.length=X.N.length
section
variable {X:Cx} {ae:List (Addr×Obj)} {σ:List (Option V)} {H H':Hp} {s:Shared} {h':Heap}
def Cx.Ok.VE(ok:X.Ok)(e:X.base.get? b=some o):b∉X.fs:=λhb=>by
 have:=(ok.funs.mem hb).1;rw[e]at this;cases this
def Inv.bs(I:Inv X ae σ H s):∀b o,X.base.get? b=some o->s.heap.get? b=some o/\H b=none:=λb o e =>
 ⟨I.base.keep b o (I.ok.bs b o e).1 (I.ok.bs b o e).2 (I.ok.VE e) (I.ok.noex b o e),I.base.free b o (I.ok.bs b o e).1 (I.ok.bs b o e).2 (I.ok.noex b o e)⟩
def Inv.bk(I:Inv X ae σ H s):∀b o,X.base.get? b=some o->s.heap.get? b=some o:=λb o e=>(I.bs b o e).1
def Inv.mod(I:Inv X ae σ H s):Mod X.K X.mg X.base:=I.ok.mod
def Inv.oN(I:Inv X ae σ H s):X.K.In s.heap:=I.ok.mod.kin.keeps I.bk
def Inv.fr(I:Inv X ae σ H s):∃m,Fr X.base X.env.locals s.heap m :=
 let ⟨m,hn,_⟩:=I.loc
 ⟨m,hn,I.bk,aM I.ok.bsz I.ok.above⟩
def Inv.lt(I:Inv X ae σ H s):X.env.locals<s.heap.objs.size:=let ⟨_,hn,_⟩:=I.loc;hn.lt
def Inv.sz(I:Inv X ae σ H s):X.s₀.heap.objs.size<=s.heap.objs.size:=aM I.ok.above (ud I.lt)
def Inv.VF(I:Inv X ae σ H s){a:Addr}(h:s.heap.objs.size<=a):a∉X.fs:=λhb=>by
 obtain⟨_,o,ho,_⟩:=I.ok.funs.mem hb;exact absurd (bP (az ho) (aM I.sz h)) (dC _)
def Inv.My(I:Inv X ae σ H s):∀x c,X.env.cells.lookup x=some c->c≠X.env.locals:=λx c e z=>by
 obtain⟨v,o,ho,hd⟩:=I.cell x c e;obtain⟨m,⟨o',es,ep,oO,rz,_⟩,_⟩:=I.loc;rw[z,oO]at ho;cases ho;rw[rz]at hd;cases hd
def Inv.funs(I:Inv X ae σ H s):s.heap.FunFrames X.base X.aB:=by
 have all:∀l,(∀b∈kE l,b∈X.fs)->X.s₀.heap.FunFrames X.base l->s.heap.FunFrames X.base l:=by
  intro l;induction l with
  | nil=>intro _ _;trivial
  | cons env r ih =>
   intro hs hl;obtain⟨hk,⟨L,o,hf,hn,ho,hd⟩,hr⟩:=hl;have hL:=hs L (by unfold kE;rw[xX,hf];exact cz)
   obtain⟨sl,e⟩:=I.base.slot L o ho (I.ok.frf L hL) hL λz=>I.ok.exfs L z hL
   exact⟨hk,⟨L,_,hf,hn,e,hd⟩,ih (λb hb=>hs b (by unfold kE;rw[xX,hf];exact b9 _ hb)) hr⟩
 exact all X.aB (λ_ hb=>hb) I.ok.funs
def Inv.stack(I:Inv X ae σ H s):s.heap.FunFrames X.base X.stack:=by
 rcases I.ok.stk with e | ⟨e,hf⟩
 ·rw[e];exact I.funs
 ·rw[e];obtain⟨m,hn,_⟩:=I.loc;refine .cons (by rw[I.ok.kind];decide) hf hn ?_ I.funs
  exact Heap.get?_none_of_le (aM I.ok.bsz I.ok.above)
def Inv.ui(I:Inv X ae σ H s):∀b∈kE X.stack,b∈X.env.locals::X.fs:=λb hb=>by
 rcases I.ok.stk with e | ⟨e,hf⟩
 ·rw[e]at hb;exact b9 _ hb
 ·rw[e]at hb;unfold kE at hb;rw[xX,hf]at hb;exact hb
def Inv.uj(I:Inv X ae σ H s):∀b∈kE X.stack,H b=none:=λb hb=>by
 rcases aF.mp (I.ui b hb)with e | hb
 ·rw[e];exact I.free
 ·obtain⟨_,o,ho,_⟩:=I.ok.funs.mem hb;exact I.base.free b o ho (I.ok.frf b hb) λz=>I.ok.exfs b z hb
def Inv.tabs(I:Inv X ae σ H s):oM X.K H:=λx hx c T e=>I.base.tbls T _ (I.ok.tabs x hx c T e)
def Inv.step{g':Array GenState}{t':Nat}{d':Drawn}{ch:List Addr}(I:Inv X ae σ H s)
  (Lm:∀b∈ch,(b∈X.ex\/X.s₀.heap.objs.size<=b)/\b≠X.env.locals/\(∀x c,X.env.cells.lookup x=some c->c≠b)/\∀p∈X.pn++ae,p.1≠b)
  (keep:∀b o,b≠X.env.locals->b∉X.fs->b∉ch->s.heap.get? b=some o->H b=none->h'.get? b=some o)
  (slot:∀b o,b≠X.env.locals->b∈X.fs->b∉ch->s.heap.get? b=some o->H b=none->∃sl,h'.get? b=some {o with slots:=sl}) (free:∀b o,b∉ch->s.heap.get? b=some o->H b=none->H' b=none)
  (there:∀b o,b∉ch->s.heap.get? b=some o->∃o',h'.get? b=some o')
  (tups:∀b xs,H b=some (.ag xs)->H' b=some (.ag xs)) (frzs:∀b o u,H b=some (.vD o u)->H' b=some (.vD o u)) (tbls:∀b q,H b=some (.kn q)->H' b=some (.kn q))
  (ns:∀m,s.heap.Ns X.env.locals m->h'.Ns X.env.locals m) (hok:ko X.prog X.w H' h') (hg:AllBare g') :
  Inv X ae σ H' {s with heap:=h',gens:=g',drawn:=d',toks:=t'}:=by
 have Yy:∀b o,X.s₀.heap.get? b=some o->b≠X.env.locals:=λb o e=>aN (bP (az e) I.ok.above)
 have UO:∀b o,X.s₀.heap.get? b=some o->b∉X.ex->b∉ch:=λb o e hx hb=>by
  rcases(Lm b hb).1 with z | z
  ·exact hx z
  ·exact absurd (bP (az e) z) (dC _)
 have cellK:∀x c,X.env.cells.lookup x=some c->∀v,s.heap.IsCell c v->h'.IsCell c v:=by
  rintro x c e v ⟨o,ho,hd⟩
  have QM:c∉ch:=by grind
  by_cases hc:c∈X.fs
  ·obtain⟨sl,q⟩:=slot c o (I.My x c e) hc QM ho (I.freeC x c e);exact⟨_,q,hd⟩
  ·exact⟨o,keep c o (I.My x c e) hc QM ho (I.freeC x c e),hd⟩
 refine⟨I.ok,I.os,hg,⟨λb o e n hb hx=>?_,λb o e n hb hx=>?_,λb o e n hx=>?_,λb o e hx=>?_,λb xs e=>tups b xs (I.base.tups b xs e),λb o xs e=>frzs b o xs (I.base.frzs b o xs e),λb ps e=>?_⟩,?_,λx c e=>?_,?_,λx c e=>?_,λp hp=>?_,hok,I.len⟩
 ·exact keep b o (Yy b o e) hb (UO b o e hx) (I.base.keep b o e n hb hx) (I.base.free b o e n hx)
 ·obtain⟨sl,e1⟩:=I.base.slot b o e n hb hx;obtain⟨QK,e2⟩:=slot b _ (Yy b o e) hb (UO b o e hx) e1 (I.base.free b o e n hx);exact⟨QK,e2⟩
 ·obtain⟨o',e1⟩:=I.base.there b o e hx;exact free b o' (UO b o e hx) e1 (I.base.free b o e n hx)
 ·obtain⟨o',e1⟩:=I.base.there b o e hx;exact there b o' (UO b o e hx) e1
 ·exact tbls b ps (I.base.tbls b ps e)
 ·obtain⟨m,hn,hl⟩:=I.loc;refine⟨m,ns m hn,λi x v e1 e2 e3=>?_⟩
  obtain⟨u,r,l⟩:=hl i x v e1 e2 e3;refine⟨u,r,?_⟩;rcases l with l | ⟨k,c,e,z⟩
  ·exact .inl l
  ·exact .inr ⟨k,c,e,cellK x c e _ z⟩
 ·obtain⟨v,z⟩:=I.cell x c e;exact⟨v,cellK x c e v z⟩
 ·obtain⟨m,⟨o,_,_,ho,_⟩,_⟩:=I.loc;exact free _ o (λz=>(Lm _ z).2.1 rfl) ho I.free
 ·obtain⟨v,o,ho,hd⟩:=I.cell x c e;exact free c o (λz=>(Lm c z).2.2.1 x c e rfl) ho (I.freeC x c e)
 ·obtain⟨e,n,ne,nf,d⟩:=I.pin p hp;have QM:p.1∉ch:=by grind
  exact⟨keep p.1 p.2 ne nf QM e n,free p.1 p.2 QM e n,ne,nf,d⟩
def Inv.un{t':Nat}(I:Inv X ae σ H s)(u:Un X.fs [] H H' s.heap h')(hok:ko X.prog X.w H' h'):Inv X ae σ H' {s with heap:=h',toks:=t'}:=by
 obtain⟨m,⟨o,es,ep,ho,r⟩,_⟩:=id I.loc;obtain⟨sl,hL⟩:=u.any ho I.free (by simp)
 exact I.step (ch:=[]) (λ_ z=>nomatch z) (λb o _ hb _ e n=>u.keep b o e n hb (by simp)) (λb o _ hb _ e n=>u.slot b o e n hb (by simp)) (λb o _ e n=>u.free b o e n (by simp)) (λb o _ e=>u.there b o e (by simp)) u.tups u.frzs u.tbls (λm' hm=>by
  obtain⟨o',Ln,VG,oO,r'⟩:=hm;rw[ho]at oO;cases oO;exact⟨_,Ln,VG,hL,r'⟩) hok I.bare
def Inv.call{g':Array GenState}{t':Nat}{d':Drawn}{ch:List Addr}(I:Inv X ae σ H s)(u:Un (kE X.stack) ch H H' s.heap h')(hok:ko X.prog X.w H' h')(hg:AllBare g')
  (Lm:∀b∈ch,(b∈X.ex\/X.s₀.heap.objs.size<=b)/\b≠X.env.locals/\(∀x c,X.env.cells.lookup x=some c->c≠b)/\∀p∈X.pn++ae,p.1≠b) :
  Inv X ae σ H' {s with heap:=h',gens:=g',drawn:=d',toks:=t'}:=by
 obtain⟨m,⟨o,es,ep,ho,r⟩,_⟩:=id I.loc;obtain⟨sl,hL⟩:=u.any ho I.free λz=>(Lm _ z).2.1 rfl
 exact I.step Lm (λb o hL hb hc e n=>u.keep b o e n (λz=>(aF.mp (I.ui b z)).elim hL hb) hc) (λb o _ _ hc e n=>u.any e n hc) (λb o hc e n=>u.free b o e n hc) (λb o hc e=>u.there b o e hc) u.tups u.frzs u.tbls (λm' hm=>by
  obtain⟨o',Ln,VG,oO,r'⟩:=hm;rw[ho]at oO;cases oO;exact⟨_,Ln,VG,hL,r'⟩) hok hg
def Inv.turned{t':Nat}(I:Inv X ae σ H s)(k:∀b o,b≠it->s.heap.get? b=some o->h'.get? b=some o)(hn:H it=none)(hL:it≠X.env.locals)
  (h1:it∈X.ex\/X.s₀.heap.objs.size<=it) (h2:∀x c,X.env.cells.lookup x=some c->c≠it) (h3:∀p∈X.pn++ae,p.1≠it):Inv X ae σ H {s with heap:=h',toks:=t'}:=by
 have QN:∀b u,H b=some u->b≠it:=λb u e z=>by rw[z,hn]at e;cases e
 refine I.step (ch:=[it]) (λb hb=>?_) (λb o _ _ hc e _=>k b o (λz=>hc (by simp[z])) e) (λb o _ _ hc e _=>⟨o.slots,k b o (λz=>hc (by simp[z])) e⟩) (λ_ _ _ _ n=>n)
  (λb o hc e=>⟨o,k b o (λz=>hc (by simp[z])) e⟩) (λ_ _ e=>e) (λ_ _ _ e=>e) (λ_ _ e=>e) (λm hm=>?_) (λb u e=>?_) I.bare
 ·have e:b=it:=by simpa using hb
  subst e;exact⟨h1,hL,h2,h3⟩
 ·obtain⟨o,es,ep,ho,r⟩:=hm;exact⟨o,es,ep,k _ o (bj hL) ho,r⟩
 ·refine(I.hok b u e).vK (λc v hc q=>k c v ?_ q) (λ_ q=>q) (λ_ _ q=>q) λ_ _ _ q=>q
  rcases hc with z | z
  ·rw[z];exact QN b u e
  ·exact QN c _ z
def Inv.tok(I:Inv X ae σ H s)(t:Nat):Inv X ae σ H {s with toks:=t}:=I.un Un.refl I.hok
def Inv.kept(I:Inv X ae σ H s)(k:∀b u,s.heap.get? b=some u->h'.get? b=some u):Inv X ae σ H {s with heap:=h',toks:=t'}:=I.un (Un.kept k) (I.hok.kept k)
def Inv.laid{a:Addr}{o:HO}{t':Nat}(I:Inv X ae σ H s)(k:∀b u,s.heap.get? b=some u->h'.get? b=some u)(hp:s.heap.objs.size<=a)(new:eG X.prog X.w (cf H a o) h' a o) :
  Inv X ae σ (cf H a o) {s with heap:=h',toks:=t'}:=I.un (Un.laid k hp (I.hok.fresh hp)) (I.hok.laid k hp new)
def Inv.write(I:Inv X ae σ H s)(mu:UM (H x))(he:e=x\/H e=some (.own x))(k:∀b u,b≠e->s.heap.get? b=some u->h'.get? b=some u)(Qd:∃u,h'.get? e=some u)
  (new:eG X.prog X.w (cf H x o) h' x o):Inv X ae σ (cf H x o) {s with heap:=h',toks:=t'}:=I.un (Un.write mu he k Qd) (I.hok.write mu he k Qd new)
def Inv.kF(I:Inv X ae σ H s)(h:∀p∈QO,s.heap.get? p.1=some p.2/\H p.1=none/\p.1≠X.env.locals/\p.1∉X.fs/\∀v,p.2.data≠.cell v):Inv X QO σ H s :=
 ⟨I.ok,I.os,I.bare,I.base,I.loc,I.cell,I.free,I.freeC,λp hp=>(bK.mp hp).elim (λz=>I.pin p (nX _ z)) (h p),I.hok,I.len⟩
def vM{N:List Str}(hN:N.Nodup){i j:Nat}(a:N[i]?=some x)(b:N[j]?=some x):i=j:=by
 obtain⟨h1,e1⟩:=b8.mp a;obtain⟨h2,e2⟩:=b8.mp b;exact(List.getElem_inj hN).mp (e1.trans e2.symm)
def store_ok2{M:Model}{A:Around}{E:Value->Shared->Prop}{i:Nat}{v:V}{u:Value}{Q:Unit->Shared->Prop}(I:Inv X ae σ H s)(hN:X.N.Nodup)(hi:X.N[i]?=some x)(hx:Lk X.env.scope x)(r:RelV v u)
  (h:∀s',Inv X ae (σ.set i (some v)) H s'->(∃a,Heap.SameBut a s.heap s'.heap/\(a=X.env.locals\/X.env.cells.lookup x=some a))->Q () s') (hf:X.fn x=true\/X.env.scope.names.lookup x=some .local:=by first | exact .inl rfl | exact .inr rfl | assumption):wpAny M A (storeName X.env x u) Q E s:=by
 obtain⟨m,hn,hl⟩:=id I.loc;have VH:(X.env.scope.kind==.class || (X.env.scope.kind==.module&&X.env.locals != X.env.globals))=false:=by rw[I.ok.kind];rfl
 have QP:i<σ.length:=by rw[I.len];exact(b8.mp hi).1
 have My:=I.My;have Au:∀{a:Addr} {h':Heap},(∃o,s.heap.get? a=some o/\H a=none)->Heap.SameBut a s.heap h'->ko X.prog X.w H h':=λ{a h'} ha hs b ob e=>by
  obtain⟨_,_,vN⟩:=ha;refine(I.hok b ob e).vK (λc w' hc q=>(hs.2 c ?_).trans q) (λ_ q=>q) (λ_ _ q=>q) λ_ _ _ q=>q
  rintro rfl
  rcases hc with rfl | hc
  ·grind
  ·grind
 rcases hx with hk | hk
 ·refine wpAny_storeName_local hk hn (λh' hn' hs=>?_) VH
  obtain⟨oL,_,_,hoL,_⟩:=id hn;refine h _ ⟨I.ok,I.os,I.bare,⟨λb o e n hb hx=>?_,λb o e n hb hx=>?_,I.base.free,λb o e hx=>?_,I.base.tups,I.base.frzs,I.base.tbls⟩,⟨_,hn',λj y v' e1 e2 e3=>?_⟩,λy c e=>?_,I.free,I.freeC,λp hp=>?_,Au ⟨oL,hoL,I.free⟩ hs,by simpa using I.len⟩ ⟨_,hs,.inl rfl⟩
  ·exact(hs.2 b (aN (bP (az e) I.ok.above))).trans (I.base.keep b o e n hb hx)
  ·obtain⟨sl,e1⟩:=I.base.slot b o e n hb hx;exact⟨sl,(hs.2 b (aN (bP (az e) I.ok.above))).trans e1⟩
  ·obtain⟨o',e1⟩:=I.base.there b o e hx;exact⟨o',(hs.2 b (aN (bP (az e) I.ok.above))).trans e1⟩
  ·by_cases hj:j=i
   ·subst hj;rw[hi]at e1;cases e1;rw[nS QP]at e2;cases e2;exact⟨u,r,.inl ⟨hk,by simp⟩⟩
   ·rw[iH (bj hj)]at e2;obtain⟨u',r',q⟩:=hl j y v' e1 e2 e3;refine⟨u',r',?_⟩;rcases q with⟨k,e⟩ | ⟨k,c,e,z⟩
    ·refine .inl ⟨k,?_⟩;have:y≠x:=λe=>hj (vM hN e1 (e▸hi))
     simp[this,e]
    ·exact .inr ⟨k,c,e,z.sameBut hs (My y c e)⟩
  ·obtain⟨w',z⟩:=I.cell y c e;exact⟨w',z.sameBut hs (My y c e)⟩
  ·obtain⟨e,n,ne,nf,d⟩:=I.pin p hp;exact⟨(hs.2 p.1 ne).trans e,n,ne,nf,d⟩
 ·have Mz:X.fn x=true:=by
   grind
  obtain⟨c,hc⟩:=I.ok.has x (.inl hk);obtain⟨w',z⟩:=I.cell x c hc;refine wpAny_storeName_cell I.ok.kind hk hc z (λh' DL hs=>?_)
  obtain⟨oc,Yz,aah⟩:=id z;refine h {s with heap:=h'} ⟨I.ok,I.os,I.bare,⟨λb o e n hb hx=>?_,λb o e n hb hx=>?_,I.base.free,λb o e hx=>?_,I.base.tups,I.base.frzs,I.base.tbls⟩,⟨m,hn.sameBut hs (bj (My x c hc)),λj y v' e1 e2 e3=>?_⟩,λy c' e=>?_,I.free,I.freeC,λp hp=>?_,Au ⟨oc,Yz,I.freeC x c hc⟩ hs,by simpa using I.len⟩ ⟨c,hs,.inr hc⟩
  ·exact(hs.2 b (aN (bP (az e) (I.ok.cab x c Mz hc)))).trans (I.base.keep b o e n hb hx)
  ·obtain⟨sl,e1⟩:=I.base.slot b o e n hb hx;exact⟨sl,(hs.2 b (aN (bP (az e) (I.ok.cab x c Mz hc)))).trans e1⟩
  ·obtain⟨o',e1⟩:=I.base.there b o e hx;exact⟨o',(hs.2 b (aN (bP (az e) (I.ok.cab x c Mz hc)))).trans e1⟩
  ·by_cases hj:j=i
   ·subst hj;rw[hi]at e1;cases e1;rw[nS QP]at e2;cases e2;exact⟨u,r,.inr ⟨.inl hk,c,hc,DL⟩⟩
   ·rw[iH (bj hj)]at e2;obtain⟨u',r',q⟩:=hl j y v' e1 e2 e3;refine⟨u',r',?_⟩;rcases q with q | ⟨k,c',e,z'⟩
    ·exact .inl q
    ·refine .inr ⟨k,c',e,z'.sameBut hs ?_⟩
     rintro rfl
     exact hj (vM hN e1 (I.ok.inj _ _ _ e hc▸hi))
  ·by_cases Qe:c'=c
   ·grind
   ·obtain⟨w2,z2⟩:=I.cell y c' e;exact⟨w2,z2.sameBut hs Qe⟩
  ·obtain⟨e,n,ne,nf,d⟩:=I.pin p hp;refine⟨(hs.2 p.1 ?_).trans e,n,ne,nf,d⟩;intro q;rw[q,Yz]at e;have q':=bI e;exact d w' (by grind)
def oP(I:Inv X ae σ H s)(hN:X.N.Nodup)(hi:X.N[i]?=some x)(hx:Lk X.env.scope x)(r:RelV v u)
  (h:∀s',Inv X ae (σ.set i (some v)) H s'->Q () s') (hf:X.fn x=true\/X.env.scope.names.lookup x=some .local:=by first | exact .inl rfl | exact .inr rfl | assumption):wpAny M A (storeName X.env x u) Q E s :=
 store_ok2 I hN hi hx r (λs' I' _=>h s' I') hf
def Inv.Lo(I:Inv X ae σ H s)(ho:s'.os=s.os)(u:Un (kE X.stack) ch H H' s.heap s'.heap)(hok:ko X.prog X.w H' s'.heap)(hg:AllBare s'.gens)
  (Lm:∀b∈ch,(b∈X.ex\/X.s₀.heap.objs.size<=b)/\b≠X.env.locals/\(∀x c,X.env.cells.lookup x=some c->c≠b)/\∀p∈X.pn++ae,p.1≠b):Inv X ae σ H' s':=by
 obtain⟨h',g',d',t',o'⟩:=s';have e:=ho;subst e;exact I.call u hok hg Lm
end
abbrev XK:=Value->Option Addr->Hp->Prop
abbrev St:=List (Option V)
abbrev VK:=V->Hp->Prop
abbrev TE:=St->Hp->VK->Prop
abbrev TT:=St->Hp->(Bool->Hp->Prop)->Prop
abbrev TA:=St->Hp->(List V->Hp->Prop)->Prop
structure vO where
 nx:St->Hp->Prop
 rt:VK
 bk:St->Hp->Prop:=λ_ _=>False
 ct:St->Hp->Prop:=λ_ _=>False
abbrev TS:=vO->St->Hp->Prop
def EP(X:Cx)(ae:List (Addr×Obj))(σ:St)(Q:VK)(u:Value)(s':Shared):Prop:=∃v H',Inv X ae σ H' s'/\RelV v u/\Q v H'
def TP(X:Cx)(ae:List (Addr×Obj))(σ:St)(Q:Bool->Hp->Prop)(b:Bool)(s':Shared):Prop:=∃H',Inv X ae σ H' s'/\Q b H'
def AP(X:Cx)(ae:List (Addr×Obj))(σ:St)(Q:List V->Hp->Prop)(us:List Value)(s':Shared):Prop:=∃vs H',Inv X ae σ H' s'/\Vals vs us/\Q vs H'
def SP(X:Cx)(ae:List (Addr×Obj))(D:vO)(f:Flow)(s':Shared):Prop :=
 match f with
 | .next=>∃bA H',Inv X ae bA H' s'/\D.nx bA H'
 | .brk=>∃bA H',Inv X ae bA H' s'/\D.bk bA H'
 | .cont=>∃bA H',Inv X ae bA H' s'/\D.ct bA H'
 | .ret u=>∃v bA H',Inv X ae bA H' s'/\RelV v u/\D.rt v H'
def PE(X:Cx)(e:Expr)(t:TE):Prop :=
 ∀(ae:List (Addr×Obj)) (s:Shared) (σ:St) (H:Hp) (Q:VK),Inv X ae σ H s->t σ H Q->wpAny (model X.prog X.w) X.A (eval e X.env) (EP X ae σ Q) X.xe s
def PT(X:Cx)(e:Expr)(t:TT):Prop :=
 ∀(ae:List (Addr×Obj)) (s:Shared) (σ:St) (H:Hp) (Q:Bool->Hp->Prop),Inv X ae σ H s->t σ H Q->wpAny (model X.prog X.w) X.A (isTrue e X.env (eval e X.env)) (TP X ae σ Q) X.xe s
def PW(X:Cx)(e:Expr)(t:TT):Prop :=
 ∀(il:Sem Value) (ae:List (Addr×Obj)) (s:Shared) (σ:St) (H:Hp) (Q:Bool->Hp->Prop),Inv X ae σ H s->t σ H Q->wpAny (model X.prog X.w) X.A (isTrue e X.env il) (TP X ae σ Q) X.xe s
def PW.pt(h:PW X e t):PT X e t:=h _
def PA(X:Cx)(es:List Expr)(t:TA):Prop :=
 ∀(pos:Pos) (ae:List (Addr×Obj)) (s:Shared) (σ:St) (H:Hp) (Q:List V->Hp->Prop),Inv X ae σ H s->t σ H Q->wpAny (model X.prog X.w) X.A (spliced (backTo pos (starEach es X.env))) (AP X ae σ Q) X.xe s
def PS(X:Cx)(st:Stmt)(t:TS):Prop :=
 ∀(ae:List (Addr×Obj)) (s:Shared) (σ:St) (H:Hp) (D:vO),Inv X ae σ H s->t D σ H->wpAny (model X.prog X.w) X.A (exec st X.env) (SP X ae D) X.xe s
def PSs(X:Cx)(st:List Stmt)(t:TS):Prop :=
 ∀(ae:List (Addr×Obj)) (s:Shared) (σ:St) (H:Hp) (D:vO),Inv X ae σ H s->t D σ H->wpAny (model X.prog X.w) X.A (execs st X.env) (SP X ae D) X.xe s
def thn{α:Type}{t:Sem α}{Q Q':α->Shared->Prop}{M:Model}{A:Around}{E:Value->Shared->Prop}(h:wpAny M A t Q E s)(hQ:∀a s,Q a s->Q' a s):wpAny M A t Q' E s:=oH h hQ λ_ _ x=>x
section
variable {X:Cx}
def MA(i:Nat):TE:=λσ H Q=>∃v,σ[i]?=some (some v)/\Q v H
def tC(v:V):TE:=λ_ H Q=>Q v H
def pe_var{i:Nat}{x:Str}{pos:Pos}(hN:X.N[i]?=some x)(hv:QL X.env.scope x)(hd:(x==("__debug__":Str))=false:=by decide)(DK:(x==("__classdict__":Str))=false:=by decide):PE X (.Name x pos) (MA i):=by
 intro ae s σ H Q I h;obtain⟨v,e,h⟩:=h;obtain⟨m,hn,hl⟩:=I.loc;obtain⟨u,r,l⟩:=hl i x v hN e hv;have iS:EP X ae σ Q u s:=⟨v,H,I,r,h⟩;rcases l with⟨hk,hm⟩ | ⟨hk,c,hc,rA⟩
 ·exact wpAny_Name (wpAny_loadName_local I.ok.kind hk hn hm iS) hd
 ·rcases hk with hk | hk
  ·exact wpAny_Name (wpAny_loadName_cell I.ok.kind hk hc rA iS) hd
  ·exact wpAny_Name (wpAny_loadName_free I.ok.kind hk hc rA iS DK) hd
def MB{i j pos}:PE X (.Constant (.int i) j pos) (tC (.int i)):=λ_ _ _ H _ I h=>wpAny_Constant_int ⟨.int i,H,I.tok _,⟨_,rfl⟩,h⟩
def QQ{b j pos}:PE X (.Constant (.bool b) j pos) (tC (.bl b)):=λ_ _ _ H _ I h=>Constant_bool ⟨.bl b,H,I,rfl,h⟩
def MC{j pos}:PE X (.Constant .none j pos) (tC .aK):=λ_ _ _ H _ I h=>Constant_none ⟨.aK,H,I,rfl,h⟩
def MD{x j pos}:PE X (.Constant (.str x) j pos) (tC (.str x)):=λ_ _ _ H _ I h=>Calls.Constant_str ⟨.str x,H,I.tok _,⟨_,rfl⟩,h⟩
def Gl(X:Cx)(x:Str):Prop:=X.env.kindOf x=some .globalImplicit
def ld_glob{E:Value->Shared->Prop}{ae:List (Addr×Obj)}{s:Shared}{σ:St}{H:Hp}{x:Str}{u:Value}{pos:Pos}{Q:Value->Shared->Prop}(I:Inv X ae σ H s)(hg:Gl X x)(hm:X.mg x=some u)(h:Q u s)
  (hd:(x==("__debug__":Str))=false:=by decide):wpAny (model X.prog X.w) X.A (eval (.Name x pos) X.env) Q E s :=
 DZ I.ok.kind hg (Calls.loadGlobal_global (by rw[I.ok.glob];exact I.mod.glob.keeps I.bk) hm h) hd
def ld_blt{E:Value->Shared->Prop}{ae:List (Addr×Obj)}{s:Shared}{σ:St}{H:Hp}{x:Str}{u:Value}{pos:Pos}{Q:Value->Shared->Prop}(I:Inv X ae σ H s)(hg:Gl X x)(hm:X.mg x=none)(hv:bootBuiltins x=some u)(h:Q u s)
  (hn:x≠"__name__":=by decide) (hd:(x==("__debug__":Str))=false:=by decide):wpAny (model X.prog X.w) X.A (eval (.Name x pos) X.env) Q E s:=by
 obtain⟨mb,h1,h2⟩:=I.mod.blt;exact DZ I.ok.kind hg (Calls.loadGlobal_builtin (by rw[I.ok.glob];exact I.mod.glob.keeps I.bk) hm (by rw[I.ok.blt];exact h1.keeps I.bk) ((h2 x hn).trans hv) h) hd
def kG(hg:Gl X x)(hm:X.mg x=some u)(r:RelV v u)(hd:(x==("__debug__":Str))=false:=by decide):PE X (.Name x pos) (tC v) :=
 λ_ _ _ H _ I h=>ld_glob I hg hm ⟨v,H,I,r,h⟩ hd
def IG{x:Str}{v:V}{u:Value}{pos:Pos}(hg:Gl X x)(hm:X.mg x=none)(hv:bootBuiltins x=some u)(r:RelV v u)(hn:x≠"__name__":=by decide)(hd:(x==("__debug__":Str))=false:=by decide):PE X (.Name x pos) (tC v) :=
 λ_ _ _ H _ I h=>ld_blt I hg hm hv ⟨v,H,I,r,h⟩ hn hd
variable {a b:Expr} {ta tb:TE} {pos:Pos}
variable {tA UP:TT} {rest:List Expr}
def VI(t u:TT):TT:=λσ H Q=>t σ H λc H1=>if c=true then u σ H1 Q else Q false H1
def tOr(t u:TT):TT:=λσ H Q=>t σ H λc H1=>if c=true then Q true H1 else u σ H1 Q
def VJ(t:TT):TT:=λσ H Q=>t σ H λc H1=>Q (!c) H1
def IH(ha:PT X a tA):PW X (.BoolOp .And [a] pos) tA:=by
 intro wh ae s σ H Q I h;refine isTrue_and (thn (ha ae s σ H Q I h) λc s1 e=>?_)
 cases c with
 | true=>exact isTrue_and_nil e
 | false=>exact e
def ME(ha:PT X a tA):PW X (.BoolOp .Or [a] pos) tA:=by
 intro wh ae s σ H Q I h;refine isTrue_or (thn (ha ae s σ H Q I h) λc s1 e=>?_)
 cases c with
 | false=>exact isTrue_or_nil e
 | true=>exact e
def MF(ha:PT X a tA)(hb:PW X (.BoolOp .And (b::rest) pos) UP):PW X (.BoolOp .And (a::b::rest) pos) (VI tA UP):=by
 intro wh ae s σ H Q I h;refine isTrue_and (thn (ha ae s σ H _ I h) λc s1 ⟨H1,I1,q1⟩=>?_)
 cases c with
 | true=>exact hb wh ae s1 σ H1 Q I1 q1
 | false=>exact⟨H1,I1,q1⟩
def QR(ha:PT X a tA)(hb:PW X (.BoolOp .Or (b::rest) pos) UP):PW X (.BoolOp .Or (a::b::rest) pos) (tOr tA UP):=by
 intro wh ae s σ H Q I h;refine isTrue_or (thn (ha ae s σ H _ I h) λc s1 ⟨H1,I1,q1⟩=>?_)
 cases c with
 | true=>exact⟨H1,I1,q1⟩
 | false=>exact hb wh ae s1 σ H1 Q I1 q1
def MH(ha:PT X a tA):PT X (.UnaryOp .Not a pos) (VJ tA):=by
 intro ae s σ H Q I h;exact isTrue_not (ha ae s σ H (λc H1=>Q (!c) H1) I h)
def QS(ta:TE):TE:=λσ H Q=>ta σ H λx H1=>∃c,x=.bl c/\Q (.bl (!c)) H1
def Es{op}(h:PE X a t):PE X (.BoolOp op [a] pos) t:=λae s σ H Q I hw=>BoolOp_one (h ae s σ H Q I hw)
def MI(ha:PE X a ta):PE X (.UnaryOp .Not a pos) (QS ta):=by
 intro ae s σ H Q I h;refine UnaryOp_ (thn (ha ae s σ H _ I h) λv s1 ⟨x,H1,I1,r1,q1⟩=>?_)
 obtain⟨c,rfl,q1⟩:=q1;cases r1;exact not_of (iL ⟨.bl (!c),H1,I1,rfl,q1⟩)
def tIf(t:TT)(ta tb:TE):TE:=λσ H Q=>t σ H λc H1=>if c=true then ta σ H1 Q else tb σ H1 Q
def Et(hc:PT X c tA)(ha:PE X a ta)(hb:PE X b tb):PE X (.IfExp c a b pos) (tIf tA ta tb):=by
 intro ae s σ H Q I h;refine wpAny_IfExp (thn (hc ae s σ H _ I h) λd s1 ⟨H1,I1,q1⟩=>?_)
 cases d with
 | true=>exact ha ae s1 σ H1 Q I1 q1
 | false=>exact hb ae s1 σ H1 Q I1 q1
end
def uk(K:W.Frag)(H:Hp)(a:Addr)(xs:List V):Prop :=
 Rd H a (.lst xs) \/
  ∃(o:Obj) (ak:Array Value) (n:Nat),K.lookup a=some o/\o.cls=.type "list"/\o.dict=none/\o.data=.seq ak n/\ak.size<=sizeLine/\Vals xs ak.toList
def gC.sq{K:W.Frag}{H:Hp}{a:Addr}{xs:List V}(h:gC K H a xs):uk K H a xs:=by
 rcases h with h | ⟨ak,n,e,z,r⟩
 ·exact .inl h
 ·exact .inr ⟨_,ak.toArray,n,e,rfl,rfl,rfl,by grind,by grind⟩
noncomputable def VL:Value->Option V
 | .none=>some .aK
 | .bool b=>some (.bl b)
 | .int i _=>some (.int i)
 | .str x _=>some (.str x)
 | .bytes b _=>some (.P9 b)
 | .float b _=>some (.UH b)
 | .ref a=>some (.ref a)
 | .type n=>some (.ty n)
 | _=>none
def RelV.abs(r:RelV x u):VL u=some x:=by
 cases x with
 | aK=>cases r;rfl
 | bl _=>cases r;rfl
 | int _=>obtain⟨t,rfl⟩:=r;rfl
 | str _=>obtain⟨t,rfl⟩:=r;rfl
 | P9 _=>obtain⟨t,rfl⟩:=r;rfl
 | UH _=>obtain⟨t,rfl⟩:=r;rfl
 | ref _=>cases r;rfl
 | ty _=>cases r;rfl
def RelV.inj(r:RelV x u)(q:RelV y u):x=y:=bI (r.abs.symm.trans q.abs)
theorem Vals.inj:∀{xs ys:List V} {us:List Value},Vals xs us->Vals ys us->xs=ys
 | _,_,_,.nil,.nil=>rfl
 | _,_,_,.cons r t,.cons r' t'=>by rw[r.inj r',Vals.inj t t']
section
variable {X:Cx} {ae:List (Addr×Obj)} {σ:St} {H:Hp} {s:Shared} {a:Addr} {xs ys:List V}
def fw.of{K:W.Frag}(h:H a=some (.ag xs)):fw K H a xs:=.inl (.inl h)
def Inv.list(I:Inv X ae σ H s)(h:uk X.K H a xs):∃ak:List Value,Vals xs ak/\PlainL s.heap a ak.toArray/\xs.length<=sizeLine:=by
 rcases h with h | ⟨o,ak,n,hk,hc,hd,hs,hz,r⟩
 ·obtain⟨z,ak,n,r,e⟩:=h.ok I.hok;exact⟨ak,r,⟨_,n,e,rfl,rfl,rfl⟩,z⟩
 ·refine⟨ak.toList,r,⟨o,n,I.oN a o hk,hc,hd,by simp_all⟩,?_⟩
  have e:=r.length;simp only[lL]at e
  lia
def Inv.Eu(I:Inv X ae σ H s)(h:fw X.K H a xs):∃ak:List Value,Vals xs ak/\mV s.heap a ak.toArray/\xs.length<=sizeLine:=by
 rcases h with h | ⟨o,ak,n,hk,hc,⟨hs,hd⟩,hz,r⟩
 ·obtain⟨z,ak,r,p⟩:=h.ok I.hok;exact⟨ak,r,p,z⟩
 ·refine⟨ak.toList,r,⟨o,I.oN a o hk,hc,⟨n,by simp_all⟩,hd⟩,?_⟩
  have e:=r.length;simp only[lL]at e
  lia
def Inv.tuple(I:Inv X ae σ H s)(h:fw X.K H a xs):∃ak:List Value,Vals xs ak/\IsTup s.heap a ak.toArray/\xs.length<=sizeLine:=by
 obtain⟨ak,r,p,z⟩:=I.Eu h;exact⟨ak,r,p.is,z⟩
def Inv.kH(I:Inv X ae σ H s)(h:uk X.K H a xs)(h':uk X.K H a ys):xs=ys:=by
 obtain⟨ak,r,⟨o,n,e,_,_,d⟩,_⟩:=I.list h;obtain⟨mW,r',⟨o',n',e',_,_,d'⟩,_⟩:=I.list h';rw[e]at e';cases e';rw[d]at d';injection d' with d1 _
 have:ak=mW:=by grind
 subst this;exact r.inj r'
def Inv.je(I:Inv X ae σ H s)(h:fw X.K H a xs)(h':fw X.K H a ys):xs=ys:=by
 obtain⟨ak,r,⟨o,e,_,n,d⟩,_⟩:=I.tuple h;obtain⟨mW,r',⟨o',e',_,n',d'⟩,_⟩:=I.tuple h';rw[e]at e';cases e';rw[d]at d';injection d' with d1 _
 have:ak=mW:=by grind
 subst this;exact r.inj r'
end
section
variable {X:Cx} {st:Stmt} {rest:List Stmt} {t u:TS} {e:Expr} {te:TE} {pos:Pos}
def Lp:TS:=λD σ H=>D.nx σ H
def VM(t u:TS):TS:=λD σ H=>t {D with nx:=u D} σ H
def II:PSs X [] Lp:=λ_ _ σ H _ I h=>t5 ⟨σ,H,I,h⟩
def Ew(h1:PS X st t)(h2:PSs X rest u):PSs X (st::rest) (VM t u):=by
 intro ae s σ H D I h;refine wpAny_execs_cons (thn (h1 ae s σ H {D with nx:=u D} I h) λf s1 q=>?_)
 cases f with
 | next =>
  obtain⟨bA,H',I',q⟩:=q;exact h2 ae s1 bA H' D I' q
 | ret v=>exact q
 | brk=>exact q
 | cont=>exact q
def IJ(h1:PS X st t):PSs X [st] t:=by
 intro ae s σ H D I h;refine wpAny_execs_cons (thn (h1 ae s σ H D I h) λf s1 q=>?_)
 cases f with
 | next=>exact t5 q
 | ret v=>exact q
 | brk=>exact q
 | cont=>exact q
def MJ:TS:=λD σ H=>D.bk σ H
def QT:TS:=λD σ H=>D.ct σ H
def IK:PS X (.Pass pos) Lp:=λ_ _ σ H _ I h=>wpAny_Pass ⟨σ,H,I,h⟩
def Ex:PS X (.Break pos) MJ:=λ_ _ σ H _ I h=>wpAny_Break ⟨σ,H,I,h⟩
def vP:PS X (.Continue pos) QT:=λ_ _ σ H _ I h=>wpAny_Continue ⟨σ,H,I,h⟩
def Inv.quiet{ae:List (Addr×Obj)}{σ:St}{H:Hp}{s:Shared}(I:Inv X ae σ H s):interactive X.env=false:=by simp[interactive,I.ok.kind]
def QU(te:TE):TS:=λD σ H=>te σ H λ_ H1=>D.nx σ H1
def IL(he:PE X e te)(hs:swapsWith e none pos.line X.env=pure false:=by rfl):PS X (.Expr e pos) (QU te):=by
 intro ae s σ H D I h;exact wpAny_Expr_any (thn (he ae s σ H _ I h) (by rintro v s1 ⟨x,H1,I1,r1,q1⟩;exact⟨σ,H1,I1,q1⟩)) I.quiet hs
def VN(te:TE):TS:=λD σ H=>te σ H D.rt
def MK(he:PE X e te):PS X (.Return (some e) pos) (VN te):=by
 intro ae s σ H D I h;exact wpAny_Return_some (thn (he ae s σ H _ I h) (by rintro v s1 ⟨x,H1,I1,r1,q1⟩;exact⟨x,σ,H1,I1,r1,q1⟩))
def QV:TS:=λD _ H=>D.rt .aK H
def IM:PS X (.Return none pos) QV:=λ_ _ σ H _ I h=>wpAny_Return_none ⟨.aK,σ,H,I,rfl,h⟩
def VO(c:TT)(t u:TS):TS:=λD σ H=>c σ H λb H1=>if b=true then t D σ H1 else u D σ H1
def QW(hc:PT X c tc)(ha:PSs X a t)(hb:PSs X b u):PS X (.If c a b pos) (VO tc t u):=by
 intro ae s σ H D I h;refine wpAny_If (thn (hc ae s σ H _ I h) λd s1 ⟨H1,I1,q1⟩=>?_)
 cases d with
 | true=>exact ha ae s1 σ H1 D I1 q1
 | false=>exact hb ae s1 σ H1 D I1 q1
end
abbrev TG:=V->St->Hp->(St->Hp->Prop)->Prop
abbrev Lq:=List V->St->Hp->(St->Hp->Prop)->Prop
def PG(X:Cx)(target:Expr)(t:TG):Prop :=
 ∀(ae:List (Addr×Obj)) (s:Shared) (σ:St) (H:Hp) (v:V) (u:Value) (Q:St->Hp->Prop),Inv X ae σ H s->RelV v u->t v σ H Q ->
  wpAny (model X.prog X.w) X.A (assign target X.env u) (λ_ s'=>∃bA H',Inv X ae bA H' s'/\Q bA H') X.xe s
def PGs(X:Cx)(ts:List Expr)(t:Lq):Prop :=
 ∀(ae:List (Addr×Obj)) (s:Shared) (σ:St) (H:Hp) (vs:List V) (us:List Value) (Q:St->Hp->Prop),Inv X ae σ H s->Vals vs us->t vs σ H Q ->
  wpAny (model X.prog X.w) X.A (assignInOrder ((assignEach ts X.env).map (·.2)) us) (λ_ s'=>∃bA H',Inv X ae bA H' s'/\Q bA H') X.xe s
abbrev Ey:=V->V->V->Hp->(Hp->Prop)->Prop
def Ez(X:Cx)(t:Ey):Prop :=
 ∀(ae:List (Addr×Obj)) (s:Shared) (σ:St) (H:Hp) (o i v:V) (ov iv u:Value) (Q:Hp->Prop),Inv X ae σ H s->RelV o ov->RelV i iv->RelV v u->t o i v H Q ->
  wpAny (model X.prog X.w) X.A (setItem ov iv u) (λ_ s'=>∃H',Inv X ae σ H' s'/\Q H') X.xe s
abbrev YA:=V->V->Hp->VK->Prop
def PIp(X:Cx)(op:Operator)(t:YA):Prop :=
 ∀(ae:List (Addr×Obj)) (s:Shared) (σ:St) (H:Hp) (x y:V) (v u:Value) (Q:VK),Inv X ae σ H s->RelV x v->RelV y u->t x y H Q ->
  wpAny (model X.prog X.w) X.A (inplaceOp op v u) (EP X ae σ Q) X.xe s
section
variable {X:Cx} {pos:Pos}
def gName(i:Nat):TG:=λv σ H Q=>Q (σ.set i (some v)) H
def IP(hN:X.N.Nodup)(hi:X.N[i]?=some x)(hx:Lk X.env.scope x)(hf:X.fn x=true\/X.env.scope.names.lookup x=some .local:=by first | exact .inl rfl | exact .inr rfl | assumption):PG X (.Name x pos) (gName i):=by
 intro ae s σ H v u Q I r h;exact wpAny_assign_Name (oP I hN hi hx r (λs' I'=>⟨_,H,I',h⟩) hf)
def VP:Lq:=λvs σ H Q=>vs=[]/\Q σ H
def QX(t:TG)(u:Lq):Lq:=λvs σ H Q=>∃v r,vs=v::r/\t v σ H λbA H'=>u r bA H' Q
def IQ:PGs X [] VP:=by
 intro ae s σ H vs us Q I r h;obtain⟨e,h⟩:=h;subst e;cases r;exact assignInOrder_nil ⟨σ,H,I,h⟩
def EA(h1:PG X e t)(h2:PGs X es u)
  (hs:(assignEach (e::es) X.env).map (·.2)=assign e X.env::(assignEach es X.env).map (·.2):=by rfl):PGs X (e::es) (QX t u):=by
 intro ae s σ H vs us Q I r h;obtain⟨v,vr,e1,h⟩:=h;subst e1;cases r with
 | cons r rr =>
  rw[hs];refine assignInOrder_cons (thn (h1 ae s σ H _ _ _ I r h) λ_ s1 ⟨gW,H1,I1,q1⟩=>?_)
  exact h2 ae s1 gW H1 _ _ Q I1 rr q1
def VQ(K:W.Frag)(n:Nat)(t:Lq):TG:=λv σ H Q=>∃a xs,v=.ref a/\fw K H a xs/\xs.length=n/\t xs σ H Q
def ML{es:List Expr}{k:Nat}{t:Lq}{n:Nat}(hc:X.calm=true)(h:PGs X es t)
  (hn:(assignEach es X.env).length=n:=by rfl) (kr:(assignEach es X.env).findIdx? (·.1)=none:=by rfl):PG X (.Tuple es k pos) (VQ X.K n t):=by
 intro ae s σ H v u Q I r hw;obtain⟨a,xs,e1,hq,hl,hw⟩:=hw;subst e1;cases r;obtain⟨ak,rv,ht,hz⟩:=I.tuple hq;refine assign_Tuple_tuple (I.ok.hd hc) ht (by simp[hn,<-hl,rv.length]) kr λh' hx=>?_
 have I1:=I.kept (t':=s.toks) λb o e=>hx b o (aN (az e)) e
 exact h ae _ σ H xs _ Q I1 (by grind) hw
def VR(to ti:TE)(t:Ey):TG:=λv σ H Q=>to σ H λo H1=>ti σ H1 λi H2=>t o i v H2 λH3=>Q σ H3
def MM(ho:PE X o to)(hi:PE X i ti)(hs:Ez X t)
  (ha:∀v,assign (.Subscript o i pos) X.env v=(do
   let ov <-holding [v] (eval o X.env)
   let iv <-holding [v,ov] (eval i X.env)
   standAt pos
   holding [v,ov,iv] (setItem ov iv v)
   release [v,ov,iv] []):=by intro _;rfl):PG X (.Subscript o i pos) (VR to ti t):=by
 intro ae s σ H v u Q I r h;rw[ha];refine af (cR (thn (ho ae s σ H _ I h) λov s1 ⟨x,H1,I1,r1,q1⟩=>?_))
 refine af (cR (thn (hi ae s1 σ H1 _ I1 q1) λiv s2 ⟨y,H2,I2,r2,q2⟩=>?_))
 refine af (ua (af (cR (thn (hs ae s2 σ H2 x y v ov iv u _ I2 r1 r2 r q2) λ_ s3 ⟨H3,I3,q3⟩=>?_))))
 exact wpAny_release ⟨σ,H3,I3,q3⟩
def IS(te:TE)(g:TG):TS:=λD σ H=>te σ H λx H1=>g x σ H1 D.nx
def EB(he:PE X e te)(hg:PG X tg g)(hs:swapsWithSole [tg] e pos.line X.env=pure false:=by rfl)(hw:swappedStores [tg] e X.env=pure none:=by rfl)
  (h1:(assignEach [tg] X.env).map (·.2)=[assign tg X.env]:=by rfl):PS X (.Assign [tg] e pos) (IS te g):=by
 intro ae s σ H D I h;refine wpAny_Assign_stores (thn (he ae s σ H _ I h) λv s1 ⟨x,H1,I1,r1,q1⟩=>?_) hs hw
 rw[h1];exact thn (hg ae s1 σ H1 x v _ I1 r1 q1) λ_ s2 q=>q
def MN(hN:X.N.Nodup)(hi:X.N[i]?=some x)(hx:Lk X.env.scope x)(he:PE X e te)(hs:swapsWith e (some (.Name x qI)) pos.line X.env=pure false:=by rfl)(hf:X.fn x=true\/X.env.scope.names.lookup x=some .local:=by first | exact .inl rfl | exact .inr rfl | assumption) :
  PS X (.Assign [.Name x qI] e pos) (IS te (gName i)):=by
 intro ae s σ H D I h;refine wpAny_Assign_Name (thn (he ae s σ H _ I h) λv s1 ⟨y,H1,I1,r1,q1⟩=>?_) hs
 exact oP I1 hN hi hx r1 (λs2 I2=>⟨_,H1,I2,q1⟩) hf
def VS(i:Nat)(te:TE)(ti:YA):TS:=λD σ H=>∃x,σ[i]?=some (some x)/\te σ H λy H1=>ti x y H1 λz H2=>D.nx (σ.set i (some z)) H2
def MO(hN:X.N.Nodup)(hi:X.N[i]?=some x)(hx:Lk X.env.scope x)(he:PE X e te)(ho:PIp X op ti)(hf:X.fn x=true\/X.env.scope.names.lookup x=some .local:=by first | exact .inl rfl | exact .inr rfl | assumption) :
  PS X (.AugAssign (.Name x qI) op e pos) (VS i te ti):=by
 intro ae s σ H D I h;obtain⟨v,e1,h⟩:=h;obtain⟨m,hn,hl⟩:=I.loc;have IT:QL X.env.scope x:=by rcases hx with k | k;exact .inl k;exact .inr (.inl k)
 obtain⟨u,r,l⟩:=hl i x v hi e1 IT;refine wpAny_AugAssign_Name ?_;have go:wpAny (model X.prog X.w) X.A (eval e X.env) (λw B0=>wpAny (model X.prog X.w) X.A (inplaceOp op u w) (λr VT=>wpAny (model X.prog X.w) X.A (storeName X.env x r) (λ_=>SP X ae D .next) X.xe VT) X.xe B0) X.xe s:=by
  refine thn (he ae s σ H _ I h) λw s1 ⟨y,H1,I1,r1,q1⟩=>?_
  refine thn (ho ae s1 σ H1 v y u w _ I1 r r1 q1) λz s2 ⟨zv,H2,I2,r2,q2⟩=>?_
  exact oP I2 hN hi hx r2 (λs3 I3=>⟨_,H2,I3,q2⟩) hf
 rcases l with⟨hk,hm⟩ | ⟨hk,c,hc,rA⟩
 ·exact wpAny_loadName_local I.ok.kind hk hn hm go
 ·rcases hk with hk | hk
  ·exact wpAny_loadName_cell I.ok.kind hk hc rA go
  ·rcases hx with k | k
   ·have:X.env.scope.names.lookup x=some .free:=hk;rw[k]at this;cases this
   ·have:X.env.scope.names.lookup x=some .free:=hk;rw[k]at this;cases this
end
section
variable {X:Cx} {pos:Pos}
def MP(c:TT)(tb:TS):TS:=λD σ H=>∃W:Nat->St->Hp->Prop,(∃m,W m σ H)/\∀m σ H,W m σ H ->
 c σ H λb H1=>if b=true then ∃N:St->Hp->Prop,(∀bA H',N bA H'->∃m',m'<m/\W m' bA H')/\tb {D with nx:=N,ct:=N,bk:=D.nx} σ H1 else D.nx σ H1
def EC(hp:PassesOwn (model X.prog X.w) X.A X.env X.xe)(hc:PT X c tc)(hb:PSs X body tb):PS X (.While c body [] pos) (MP tc tb):=by
 intro ae s σ H D I h;obtain⟨W,⟨m0,w0⟩,oQ⟩:=h;refine wpAny_While (codeAny_whileLoop (λn s'=>∃bA H',Inv X ae bA H' s'/\W n bA H') ?_ m0 ⟨σ,H,I,w0⟩)
 rintro n s1 ⟨gW,H1,I1,w1⟩
 refine jL hp (thn (hc ae s1 gW H1 _ I1 (oQ n gW H1 w1)) λb s2 ⟨H2,I2,q2⟩=>?_)
 cases b with
 | true =>
  obtain⟨N,hN,q2⟩:=q2;rw[if_pos rfl];refine jL hp (thn (hb ae s2 gW H2 _ I2 q2) λf s3 q3=>?_)
  cases f with
  | next =>
   obtain⟨mX,H3,I3,n3⟩:=q3;obtain⟨m',hm,w3⟩:=hN mX H3 n3;exact⟨m',hm,mX,H3,I3,w3⟩
  | cont =>
   obtain⟨mX,H3,I3,n3⟩:=q3;obtain⟨m',hm,w3⟩:=hN mX H3 n3;exact⟨m',hm,mX,H3,I3,w3⟩
  | brk=>exact q3
  | ret v=>exact q3
 | false =>
  rw[if_neg dP];exact t5 ⟨gW,H2,I2,q2⟩
end
structure It where
 go:Nat->Hp->Prop
 yld:Nat->Hp->V->Hp->Prop
 stop:Nat->Hp->Prop
def oR(X:Cx)(ae:List (Addr×Obj))(H:Hp)(b:Addr):Prop :=
 H b=none/\b≠X.env.locals/\b∉X.fs/\(b∈X.ex\/X.s₀.heap.objs.size<=b)/\(∀x c,X.env.cells.lookup x=some c->c≠b)/\∀p∈X.pn++ae,p.1≠b
def Inv.um{X:Cx}{ae:List (Addr×Obj)}{σ:St}{H H':Hp}{s:Shared}{b:Addr}(I:Inv X ae σ H s)(hb:s.heap.objs.size<=b)(hn:H' b=none):oR X ae H' b:=by
 refine⟨hn,lW (bP I.lt hb),I.VF hb,.inr (aM I.sz hb),λx c e z=>?_,λp hp z=>?_⟩
 ·obtain⟨v,q⟩:=I.cell x c e;exact absurd (bP q.lt (by grind)) (dC _)
 ·exact absurd (bP (az (I.pin p hp).1) (by grind)) (dC _)
structure Turn (P:Program) (w:World) (K:W.Frag) (tg:Expr) (J:It) (fp:List Addr) (it:Addr) (tn:Nat->Heap->Prop):Prop where
 mem:it∈fp
 obj:∀i h,tn i h->∀b∈fp,∃o,h.get? b=some o/\∀v,o.data≠.cell v
 keep:∀i h h',tn i h->(∀b∈fp,∀o,h.get? b=some o->h'.get? b=some o)->tn i h'
 item:∀(X:Cx),X.prog=P->X.w=w->X.K=K->X.calm=true->∀(i:Nat) (ae:List (Addr×Obj)) (s:Shared) (σ:St) (H:Hp) (E:Value->Shared->Prop),Inv X ae σ H s->(∀b∈fp,oR X ae H b)->tn i s.heap->J.go i H ->
  wpAny (model P w) X.A (pyNext (.ref it)) (λr s1=>∃u,r=some u /\
   wpAny (model P w) X.A (letOwnedTupleGo tg (.ref it) u) (λ_ s2=>∃x H',Inv X ae σ H' s2/\RelV x u/\J.yld i H x H'/\tn (i+1) s2.heap/\∀b∈fp,H' b=none) E s1) E s
 done:∀(X:Cx),X.prog=P->X.w=w->X.K=K->X.calm=true->∀(i:Nat) (ae:List (Addr×Obj)) (s:Shared) (σ:St) (H:Hp) (E:Value->Shared->Prop),Inv X ae σ H s->(∀b∈fp,oR X ae H b)->tn i s.heap->J.stop i H ->
  wpAny (model P w) X.A (pyNext (.ref it)) (λr s1=>r=none/\Inv X ae σ H s1) E s
 self:∀(A:Around) (i:Nat) (s:Shared) (Q:Value->Shared->Prop) (E:Value->Shared->Prop),tn i s.heap->Q (.ref it) s->wpAny (model P w) A (pyIter (.ref it)) Q E s
abbrev TI:=St->Hp->(It->Hp->Prop)->Prop
def YB(X:Cx)(ae:List (Addr×Obj))(σ:St)(tg:Expr)(R:It->Hp->Prop)(VU:Value)(s2:Shared):Prop :=
 ∃(it:Addr) (fp:List Addr) (tn:Nat->Heap->Prop) (J:It) (H':Hp),VU=.ref it/\Inv X ae σ H' s2/\Turn X.prog X.w X.K tg J fp it tn/\tn 0 s2.heap/\(∀b∈fp,oR X ae H' b)/\R J H'
def PI(X:Cx)(tg iter:Expr)(wi:TI):Prop :=
 ∀(ae:List (Addr×Obj)) (s:Shared) (σ:St) (H:Hp) (R:It->Hp->Prop),Inv X ae σ H s->wi σ H R ->
  wpAny (model X.prog X.w) X.A (eval iter X.env) (λv s1=>wpAny (model X.prog X.w) X.A (pyIter v) (YB X ae σ tg R) X.xe s1) X.xe s
def Av(ho:s.heap.get? it=some o)(hc:o.cls=.type n)(hd:o.data=.fields vs)
  (hn:["enumerate","zip","dict_itemiterator","dict_reverseitemiterator","odict_iterator","itertools.zip_longest","itertools.pairwise"].contains n=false) (hQ:Q () s):wpAny M A (letOwnedTupleGo tg (.ref it) u) Q E s:=by
 unfold letOwnedTupleGo;cases tg<;>first
  | exact ai hQ
  | (cases u<;>first
    | exact ai hQ
    | (refine af (wpAny_load ho ?_)
       rw[hc,hd];show wpAny M A (if(["enumerate","zip","dict_itemiterator","dict_reverseitemiterator","odict_iterator","itertools.zip_longest","itertools.pairwise"].contains n&&vs[0]?==some (rawInt _))=true then _ else _) Q E s
       rw[if_neg (by grind)]
       exact ai hQ))
noncomputable def UQ(K:W.Frag)(a:Addr):It :=
 ⟨λi H=>∃xs x,uk K H a xs/\xs[i]?=some x,λi H x H'=>H'=H/\∀xs,uk K H a xs->xs[i]?=some x,λi H=>∃xs,uk K H a xs/\xs.length<=i⟩
noncomputable def VV(K:W.Frag)(a:Addr):It :=
 ⟨λi H=>∃xs x,fw K H a xs/\xs[i]?=some x,λi H x H'=>H'=H/\∀xs,fw K H a xs->xs[i]?=some x,λi H=>∃xs,fw K H a xs/\xs.length<=i⟩
noncomputable def QY(lo:Int)(n:Nat):It:=⟨λi _=>i<n,λi H x H'=>H'=H/\x=.int (lo+i),λi _=>n<=i⟩
def B2{P:Program}{w:World}{K:W.Frag}{tg:Expr}(a it:Addr):Turn P w K tg (UQ K a) [it] it (λi h=>h.IsListIter it a i) where
 mem:=by simp
 obj:=λi h st b hb=>by
  have e:b=it:=by grind
  subst e;obtain⟨o,e,c,d⟩:=st;exact⟨o,e,λv z=>by grind⟩
 keep:=λi h h' st k=>st.at λo e=>k it (by simp) o e
 item:=by
  intro X hP hw hK hc i ae s σ H E I hf st hg;subst hP hw hK;obtain⟨xs,x,hq,hx⟩:=hg;obtain⟨ak,rv,p,hz⟩:=I.list hq;obtain⟨u,hu,ru⟩:=rv.get hx;obtain⟨f0,f1,f2,f3,f4,f5⟩:=hf it (by simp)
  refine wpAny_pyNext_list_item st p.isList (by simpa using hu) λh' bM sb=>?_
  have I1:=I.turned (t':=s.toks) (λb o hb e=>(sb.2 b hb).trans e) f0 f1 f3 f4 f5
  obtain⟨o,e,c,d⟩:=id bM;exact⟨u,rfl,Av e c d (by decide) ⟨x,H,I1,ru,⟨rfl,λys hy=>by rw[I.kH hy hq];exact hx⟩,bM,λb hb=>(hf b hb).1⟩⟩
 done:=by
  intro X hP hw hK hc i ae s σ H E I hf st hg;subst hP hw hK;obtain⟨xs,hq,hx⟩:=hg;obtain⟨ak,rv,p,hz⟩:=I.list hq;obtain⟨f0,f1,f2,f3,f4,f5⟩:=hf it (by simp)
  have hl:=rv.length;exact wpAny_pyNext_list_end (I.ok.hd hc) st p.isList (by simp;lia) λh' eb=>⟨rfl,I.turned (λb o hb e=>eb b o hb e) f0 f1 f3 f4 f5⟩
 self:=λ_ _ _ _ _ st h=>wpAny_pyIter_listiter st h
def yD{P:Program}{w:World}{K:W.Frag}{tg:Expr}(a it:Addr):Turn P w K tg (VV K a) [it] it (λi h=>h.IsTupleIter it a i) where
 mem:=by simp
 obj:=λi h st b hb=>by
  have e:b=it:=by grind
  subst e;obtain⟨o,e,c,d⟩:=st;exact⟨o,e,λv z=>by grind⟩
 keep:=λi h h' st k=>st.at λo e=>k it (by simp) o e
 item:=by
  intro X hP hw hK hc i ae s σ H E I hf st hg;subst hP hw hK;obtain⟨xs,x,hq,hx⟩:=hg;obtain⟨ak,rv,p,hz⟩:=I.tuple hq;obtain⟨u,hu,ru⟩:=rv.get hx;obtain⟨f0,f1,f2,f3,f4,f5⟩:=hf it (by simp)
  refine wpAny_pyNext_tuple_item st (p) (by simpa using hu) λh' bM sb=>?_
  have I1:=I.turned (t':=s.toks) (λb o hb e=>(sb.2 b hb).trans e) f0 f1 f3 f4 f5
  obtain⟨o,e,c,d⟩:=id bM;exact⟨u,rfl,Av e c d (by decide) ⟨x,H,I1,ru,⟨rfl,λys hy=>by rw[I.je hy hq];exact hx⟩,bM,λb hb=>(hf b hb).1⟩⟩
 done:=by
  intro X hP hw hK hc i ae s σ H E I hf st hg;subst hP hw hK;obtain⟨xs,hq,hx⟩:=hg;obtain⟨ak,rv,p,hz⟩:=I.tuple hq;obtain⟨f0,f1,f2,f3,f4,f5⟩:=hf it (by simp)
  have hl:=rv.length;exact wpAny_pyNext_tuple_end (I.ok.hd hc) st (p) (by simp;lia) λh' eb=>⟨rfl,I.turned (λb o hb e=>eb b o hb e) f0 f1 f3 f4 f5⟩
 self:=λ_ _ _ _ _ st h=>wpAny_pyIter_tupleiter st h
def yE{P:Program}{w:World}{K:W.Frag}{tg:Expr}(it:Addr)(lo:Int)(n:Nat):Turn P w K tg (QY lo n) [it] it (λi h=>IsRangeIter h it (lo+(i:Nat)*1) ((n:Int)-(i:Nat)) 1) where
 mem:=by simp
 obj:=λi h st b hb=>by
  grind
 keep:=λi h h' st k=>k it (by simp) _ st
 item:=by
  intro X hP hw hK hc i ae s σ H E I hf st hg;subst hP hw hK;obtain⟨f0,f1,f2,f3,f4,f5⟩:=hf it (by simp)
  have W:=Walks.range (prog:=X.prog) (w:=X.w) (I.ok.hd hc) it lo 1 n;refine W.item i s _ _ hg st λv h' tk hv bM kk=>?_
  obtain⟨t,rfl⟩:=hv;have I1:Inv X ae σ H {s with heap:=h',toks:=tk}:=I.turned (λb o hb e=>kk b o (by grind) e) f0 f1 f3 f4 f5
  refine⟨_,rfl,Av bM rfl rfl (by decide) ⟨.int (lo+i),H,I1,⟨t,?_⟩,⟨rfl,rfl⟩,bM,λb hb=>(hf b hb).1⟩⟩
  rw[Int.mul_one]
 done:=by
  intro X hP hw hK hc i ae s σ H E I hf st hg;subst hP hw hK;obtain⟨f0,f1,f2,f3,f4,f5⟩:=hf it (by simp)
  exact wpAny_pyNext_range_end (I.ok.hd hc) st (by have:n<=i:=hg;lia) λh' eb=>⟨rfl,I.turned (λb o hb e=>eb b o hb e) f0 f1 f3 f4 f5⟩
 self:=λ_ _ _ _ _ st h=>wpAny_pyIter_rangeiter st h
section
variable {X:Cx} {tg:Expr}
def QZ(K:W.Frag)(tl:TE):TI:=λσ H R=>tl σ H λx H1=>∃a,x=.ref a/\(∃xs,uk K H1 a xs)/\R (UQ K a) H1
def VW(K:W.Frag)(tl:TE):TI:=λσ H R=>tl σ H λx H1=>∃a,x=.ref a/\(∃xs,fw K H1 a xs)/\R (VV K a) H1
def Aw{l:Expr}{tl:TE}(hl:PE X l tl):PI X tg l (QZ X.K tl):=by
 intro ae s σ H R I h;refine thn (hl ae s σ H _ I h) λv s1 ⟨x,H1,I1,r1,q1⟩=>?_
 obtain⟨a,e,⟨xs,hq⟩,q⟩:=q1;subst e;cases r1;obtain⟨ak,rv,p,hz⟩:=I1.list hq;refine lO p.isList ?_;refine⟨s1.heap.objs.size,[s1.heap.objs.size],_,_,H1,rfl,I1.kept λb o e=>ax _ e,B2 a _,⟨_,aZ _ rfl,rfl,rfl⟩,λb hb=>?_,q⟩
 have e:b=s1.heap.objs.size:=by grind
 subst e;exact I1.um (ao _) (I1.hok.fresh (ao _))
def ED{l:Expr}{tl:TE}(hl:PE X l tl):PI X tg l (VW X.K tl):=by
 intro ae s σ H R I h;refine thn (hl ae s σ H _ I h) λv s1 ⟨x,H1,I1,r1,q1⟩=>?_
 obtain⟨a,e,⟨xs,hq⟩,q⟩:=q1;subst e;cases r1;obtain⟨ak,rv,p,hz⟩:=I1.tuple hq;refine ya (p) ?_;refine⟨s1.heap.objs.size,[s1.heap.objs.size],_,_,H1,rfl,I1.kept λb o e=>ax _ e,yD a _,⟨_,aZ _ rfl,rfl,rfl⟩,λb hb=>?_,q⟩
 have e:b=s1.heap.objs.size:=by grind
 subst e;exact I1.um (ao _) (I1.hok.fresh (ao _))
def vQ{ae:List (Addr×Obj)}{σ:St}{H:Hp}{s:Shared}{R:It->Hp->Prop}{E:Value->Shared->Prop}{lo hi:Int}{t u v:Tok}{tk:Nat}(I:Inv X ae σ H s)(h1:-(2^62)<=lo)(h2:lo<2^62)(h3:-(2^62)<=hi)(h4:hi<2^62)
  (q:R (QY lo (hi-lo).toNat) H):wpAny (model X.prog X.w) X.A (pyIter (.ref s.heap.objs.size)) (YB X ae σ tg R) E {s with heap:=s.heap.push {cls:=.type "range",data:=.fields #[.int lo t,.int hi u,.int 1 v]},toks:=tk}:=by
 refine wpAny_pyIter_range (IsRange.new ..) (small_one h1 h2 h3 h4) ?_;have I1:Inv X ae σ H {s with heap:=s.heap.push {cls:=.type "range",data:=.fields #[.int lo t,.int hi u,.int 1 v]},toks:=tk}:=I.kept λb o e=>ax _ e
 refine⟨(s.heap.push {cls:=.type "range",data:=.fields #[.int lo t,.int hi u,.int 1 v]}).objs.size,[(s.heap.push {cls:=.type "range",data:=.fields #[.int lo t,.int hi u,.int 1 v]}).objs.size],_,_,H,rfl,
  I1.kept λb o e=>ax _ e,yE _ lo (hi-lo).toNat,?_,λb hb=>?_,q⟩
 ·have e1:lo+(0:Nat)*1=lo:=by simp
  have e2:(((hi-lo).toNat:Nat):Int)-(0:Nat)=Builtin.Range.rangeSize lo hi 1:=by rw[rangeSize_one];split<;>lia
  rw[e1,e2];exact aZ _ rfl
 ·have e:b=(s.heap.push {cls:=.type "range",data:=.fields #[.int lo t,.int hi u,.int 1 v]}).objs.size:=by grind
  subst e;exact I1.um (ao _) (I1.hok.fresh (ao _))
def Q4(ta:TA):TI:=λσ H R=>ta σ H λvs H1=>∃j:Int,vs=[.int j] /\ -(2^62)<=j/\j<2^62/\R (QY 0 j.toNat) H1
def Q5(ta:TA):TI:=λσ H R=>ta σ H λvs H1=>∃i j:Int,vs=[.int i,.int j]/\(-(2^62)<=i/\i<2^62 /\ -(2^62)<=j/\j<2^62)/\R (QY i (j-i).toNat) H1
def B3{a:Expr}{ta:TA}{p pos:Pos}(hg:Gl X "range")(hm:X.mg "range"=none)(ha:PA X [a] ta)(hs:starEach [a] X.env=[(false,eval a X.env)]:=by rfl):PI X tg (.Call (.Name "range" p) [a] [] pos) (Q4 ta):=by
 intro ae s σ H R I h;refine Call_ (ld_blt I hg hm boot_range (d7 (thn (ha pos ae s σ H _ I h) λus s1 ⟨vs,H1,I1,r1,q1⟩=>?_) hs rfl))
 obtain⟨j,e,q1,q2,q⟩:=q1;subst e;cases r1 with
 | cons r rr =>
  cases rr;obtain⟨t,rfl⟩:=r;exact call_range_1 (vQ I1 (by lia) (by lia) q1 q2 (by grind))
def B4{a b:Expr}{ta:TA}{p pos:Pos}(hg:Gl X "range")(hm:X.mg "range"=none)(ha:PA X [a,b] ta)(hs:starEach [a,b] X.env=[(false,eval a X.env),(false,eval b X.env)]:=by rfl)(xD:starEach [b] X.env=[(false,eval b X.env)]:=by rfl) :
  PI X tg (.Call (.Name "range" p) [a,b] [] pos) (Q5 ta):=by
 intro ae s σ H R I h;refine Call_ (ld_blt I hg hm boot_range (d7 (thn (ha pos ae s σ H _ I h) λus s1 ⟨vs,H1,I1,r1,q1⟩=>?_) (by grind) (by rw[xD];rfl)))
 obtain⟨i,j,e,⟨q1,q2,q3,q4⟩,q⟩:=q1;subst e;cases r1 with
 | cons r rr =>
  cases rr with
  | cons r' rr =>
   cases rr;obtain⟨t,rfl⟩:=r;obtain⟨t',rfl⟩:=r';exact call_range_2 (vQ I1 q1 q2 q3 q4 q)
def VX(wi:TI)(g:TG)(tb:TS):TS:=λD σ H=>wi σ H λJ H1=>∃W:Nat->Nat->St->Hp->Prop,(∃m,W 0 m σ H1)/\∀i m σ H,W i m σ H ->
 (J.stop i H/\D.nx σ H)\/(J.go i H/\∃N:St->Hp->Prop,(∀bA H',N bA H'->∃m',m'<m/\W (i+1) m' bA H')/\∀x H',J.yld i H x H'->g x σ H' λAx H2=>tb {D with nx:=N,ct:=N,bk:=D.nx} Ax H2)
noncomputable def oT(fp:List Addr)(h:Heap):List (Addr×Obj):=fp.filterMap λb=>(h.get? b).map λo=>(b,o)
def gX(hb:b∈fp)(e:h.get? b=some o):(b,o)∈oT fp h:=oh.mpr ⟨b,hb,by rw[e];rfl⟩
def B5(hp:p∈oT fp h):p.1∈fp/\h.get? p.1=some p.2:=by
 obtain⟨b,hb,e⟩:=oh.mp hp;cases q:h.get? b with
 | none=>rw[q]at e;cases e
 | some o =>
  rw[q]at e;have e':=bI e;subst e';exact⟨hb,q⟩
def Inv.pinned{ae:List (Addr×Obj)}{σ:St}{H:Hp}{s:Shared}{fp:List Addr}(I:Inv X ae σ H s)(hf:∀b∈fp,oR X ae H b)(ho:∀b∈fp,∃o,s.heap.get? b=some o/\∀v,o.data≠.cell v):Inv X (ae++oT fp s.heap) σ H s :=
 I.kF λp hp=>(bK.mp hp).elim (λz=>I.pin p (d8 _ z)) λz=>by
  obtain⟨hb,e⟩:=B5 z;obtain⟨f0,f1,f2,_⟩:=hf p.1 hb;obtain⟨o,e',d⟩:=ho p.1 hb;rw[e]at e';cases e';exact⟨e,f0,f1,f2,d⟩
def Inv.oU{ae pl:List (Addr×Obj)}{σ:St}{H:Hp}{s:Shared}(I:Inv X (ae++pl) σ H s):Inv X ae σ H s:=I.kF λp hp=>I.pin p (d8 _ (nX _ hp))
def MQ(hp:PassesOwn (model X.prog X.w) X.A X.env X.xe)(hc:X.calm=true)(hi:PI X tg iter wi)(hg:PG X tg g)(hb:PSs X body tb)
  (hs:∀x,foldedSetIterable iter X.env x=pure x:=by intro _;rfl):PS X (.For tg iter body [] pos) (VX wi g tb):=by
 intro ae s σ H D I h;refine wpAny_For (thn (hi ae s σ H _ I h) λv s1 h1=>thn h1 λVU s2 h2=>?_) hs
 obtain⟨it,fp,tn,J,H2,e,I2,T,dw,f2,W,⟨m0,w0⟩,oQ⟩:=h2;subst e;have yF:∀{H':Hp},(∀b∈fp,H' b=none)->∀b∈fp,oR X ae H' b:=λhn b hb=>⟨hn b hb,(f2 b hb).2⟩
 refine codeAny_forLoop_any (λn s'=>∃i bA H',Inv X ae bA H' s'/\tn i s'.heap/\(∀b∈fp,H' b=none)/\W i n bA H') ?_ m0 ⟨0,σ,H2,I2,dw,λb hb=>(f2 b hb).1,w0⟩
 rintro n s3 ⟨i,mX,H3,I3,IU,YC,w3⟩
 rcases oQ i n mX H3 w3 with⟨stop,qn⟩ | ⟨go,N,hN,step⟩
 ·refine jL hp (thn (T.done X rfl rfl rfl hc i ae s3 mX H3 X.xe I3 (yF YC) IU stop) λr s4 ⟨hr,I4⟩=>?_)
  subst hr;exact t5 ⟨mX,H3,I4,qn⟩
 ·refine jL hp (thn (T.item X rfl rfl rfl hc i ae s3 mX H3 X.xe I3 (yF YC) IU go) λr s4 ⟨u,hr,h4⟩=>?_)
  subst hr;refine jL hp (thn h4 λ_ s5 z9=>?_)
  obtain⟨x,H5,I5,r5,y5,MR,VY⟩:=z9;have VZ:=I5.pinned (yF VY) (T.obj _ _ MR);refine jL hp (thn (hg _ s5 mX H5 x u _ VZ r5 (step x H5 y5)) λ_ s6 ⟨UR,H6,I6,q6⟩=>?_)
  refine jL hp (thn (hb _ s6 UR H6 _ I6 q6) λf s7 q7=>?_)
  have again:∀{EE:St} {H7:Hp},Inv X (ae++oT fp s5.heap) EE H7 s7->N EE H7->∃m,m<n/\∃i bA H',Inv X ae bA H' s7/\tn i s7.heap/\(∀b∈fp,H' b=none)/\W i m bA H':=λ{EE H7} I7 n7=>by
   obtain⟨m',hm,w7⟩:=hN EE H7 n7;refine⟨m',hm,i+1,EE,H7,I7.oU,T.keep _ _ _ MR λb hb o e=>(I7.pin (b,o) (d8 _ (d8 _ (gX hb e)))).1,λb hb=>?_,w7⟩
   obtain⟨o,e,d⟩:=T.obj _ _ MR b hb;exact(I7.pin (b,o) (d8 _ (d8 _ (gX hb e)))).2.1
  cases f with
  | next=>obtain⟨EE,H7,I7,n7⟩:=q7;exact again I7 n7
  | cont=>obtain⟨EE,H7,I7,n7⟩:=q7;exact again I7 n7
  | brk=>obtain⟨EE,H7,I7,q7⟩:=q7;exact⟨EE,H7,I7.oU,q7⟩
  | ret v=>obtain⟨x7,EE,H7,I7,r7,q7⟩:=q7;exact⟨x7,EE,H7,I7.oU,r7,q7⟩
end
abbrev R2:=V->V->Hp->VK->Prop
def OpR(X:Cx)(f:Value->Value->Sem Value)(r:R2):Prop :=
 ∀(ae:List (Addr×Obj)) (s:Shared) (σ:St) (H:Hp) (x y:V) (v u:Value) (Q:VK),Inv X ae σ H s->RelV x v->RelV y u->r x y H Q ->
  wpAny (model X.prog X.w) X.A (f v u) (EP X ae σ Q) X.xe s
def UnR(X:Cx)(f:Value->Sem Value)(r:V->Hp->VK->Prop):Prop :=
 ∀(ae:List (Addr×Obj)) (s:Shared) (σ:St) (H:Hp) (x:V) (v:Value) (Q:VK),Inv X ae σ H s->RelV x v->r x H Q ->
  wpAny (model X.prog X.w) X.A (f v) (EP X ae σ Q) X.xe s
def jB(X:Cx)(f:Value)(r:List V->Hp->VK->Prop):Prop :=
 ∀(ae:List (Addr×Obj)) (s:Shared) (σ:St) (H:Hp) (xs:List V) (us:List Value) (Q:VK),Inv X ae σ H s->Vals xs us->r xs H Q ->
  wpAny (model X.prog X.w) X.A (call f us) (EP X ae σ Q) X.xe s
def V0(X:Cx)(r:V->Hp->(Bool->Hp->Prop)->Prop):Prop :=
 ∀(ae:List (Addr×Obj)) (s:Shared) (σ:St) (H:Hp) (x:V) (v:Value) (Q:Bool->Hp->Prop),Inv X ae σ H s->RelV x v->r x H Q ->
  wpAny (model X.prog X.w) X.A (truthy v) (TP X ae σ Q) X.xe s
def MS(r:R2)(ta tb:TE):TE:=λσ H Q=>ta σ H λx H1=>tb σ H1 λy H2=>r x y H2 Q
def tUn(r:V->Hp->VK->Prop)(ta:TE):TE:=λσ H Q=>ta σ H λx H1=>r x H1 Q
def rI(C:Int->Int->Prop)(g:Int->Int->V):R2:=λx y H Q=>∃i j,x=.int i/\y=.int j/\C i j/\Q (g i j) H
def Ia(g:Int->Int->V):R2:=λx y H Q=>∃i j,x=.int i/\y=.int j/\Q (g i j) H
def rU(g:Int->V):V->Hp->VK->Prop:=λx H Q=>∃i,x=.int i/\Q (g i) H
section
variable {X:Cx} {a b c:Expr} {ta tb tc:TE} {pos:Pos}
def IV(ha:PE X a ta)(hb:PE X b tb){ae:List (Addr×Obj)}{s:Shared}{σ:St}{H:Hp}{R:V->V->Hp->Prop}(I:Inv X ae σ H s)
  (h:ta σ H λx H1=>tb σ H1 λy H2=>R x y H2) {Q:Value->Shared->Prop} {f:Value->Value->Sem Value}
  (hf:∀v u s2 x y H2,Inv X ae σ H2 s2->RelV x v->RelV y u->R x y H2->wpAny (model X.prog X.w) X.A (f v u) Q X.xe s2) :
  wpAny (model X.prog X.w) X.A (eval a X.env) (λv s₁=>wpAny (model X.prog X.w) X.A (eval b X.env) (λu B0=>wpAny (model X.prog X.w) X.A (f v u) Q X.xe B0) X.xe s₁) X.xe s:=by
 refine thn (ha ae s σ H _ I h) λv s1 ⟨x,H1,I1,r1,q1⟩=>?_
 refine thn (hb ae s1 σ H1 _ I1 q1) λu s2 ⟨y,H2,I2,r2,q2⟩=>?_
 exact hf v u s2 x y H2 I2 r1 r2 q2
def Lr(ho:OpR X (binaryOp op) r)(ha:PE X a ta)(hb:PE X b tb):PE X (.BinOp a op b pos) (MS r ta tb):=by
 intro ae s σ H Q I h;exact wpAny_BinOp (IV ha hb I h λv u s2 x y H2 I2 rx ry q=>ho ae s2 σ H2 x y v u Q I2 rx ry q)
def Q6{r:V->Hp->VK->Prop}(ho:UnR X (unaryOp op) r)(ha:PE X a ta):PE X (.UnaryOp op a pos) (tUn r ta):=by
 intro ae s σ H Q I h;exact UnaryOp_ (thn (ha ae s σ H _ I h) (by rintro v s1 ⟨x,H1,I1,r1,q1⟩;exact ho ae s1 σ H1 x v Q I1 r1 q1))
def US{f:Value->Value->Sem Value}{C:Int->Int->Prop}{g:Int->Int->Int}
  (rule:∀(i j:Int) (t u:Tok) (s:Shared) (Q:Value->Shared->Prop) (E:Value->Shared->Prop),C i j->Q (.int (g i j) s.toks) {s with toks:=s.toks+1}->wpAny (model X.prog X.w) X.A (f (.int i t) (.int j u)) Q E s) :
  OpR X f (rI C λi j=>.int (g i j)):=by
 intro ae s σ H x y v u Q I rx ry h;obtain⟨i,j,rfl,rfl,hc,q⟩:=h;obtain⟨t,rfl⟩:=rx;obtain⟨t',rfl⟩:=ry;exact rule i j t t' s _ _ hc ⟨.int (g i j),H,I.tok _,⟨_,rfl⟩,q⟩
def MT{f:Value->Value->Sem Value}{g:Int->Int->Int}
  (rule:∀(i j:Int) (t u:Tok) (s:Shared) (Q:Value->Shared->Prop) (E:Value->Shared->Prop),Q (.int (g i j) s.toks) {s with toks:=s.toks+1}->wpAny (model X.prog X.w) X.A (f (.int i t) (.int j u)) Q E s) :
  OpR X f (Ia λi j=>.int (g i j)):=by
 intro ae s σ H x y v u Q I rx ry h;obtain⟨i,j,rfl,rfl,q⟩:=h;obtain⟨t,rfl⟩:=rx;obtain⟨t',rfl⟩:=ry;exact rule i j t t' s _ _ ⟨.int (g i j),H,I.tok _,⟨_,rfl⟩,q⟩
def IW{f:Value->Value->Sem Value}{g:Int->Int->Bool}
  (rule:∀(i j:Int) (t u:Tok) (s:Shared) (Q:Value->Shared->Prop) (E:Value->Shared->Prop),Q (.bool (g i j)) s->wpAny (model X.prog X.w) X.A (f (.int i t) (.int j u)) Q E s) :
  OpR X f (Ia λi j=>.bl (g i j)):=by
 intro ae s σ H x y v u Q I rx ry h;obtain⟨i,j,rfl,rfl,q⟩:=h;obtain⟨t,rfl⟩:=rx;obtain⟨t',rfl⟩:=ry;exact rule i j t t' s _ _ ⟨.bl (g i j),H,I,rfl,q⟩
def V1(i j:Int):Prop:=0<j/\j<1073741824
def V2(i j:Int):Prop:=0<=j/\j<=1000000/\i.natAbs<2^64
def MU(i j:Int):Prop:=(-(2^64)<i/\i<2^64)\/(-(2^64)<j/\j<2^64)
def MU.ok(h:MU i j):IntMulOk i j:=by
 rcases h with⟨h1,h2⟩ | ⟨h1,h2⟩
 ·exact .of_left (intBits_le_64 h1 h2)
 ·exact .of_right (intBits_le_64 h1 h2)
def MV:OpR X (binaryOp .Add) (Ia λi j=>.int (i+j)):=MT λ_ _ _ _ _ _ _ q=>add_int q
def MW:OpR X (binaryOp .Sub) (Ia λi j=>.int (i-j)):=MT λ_ _ _ _ _ _ _ q=>sub_int q
def MX:OpR X (binaryOp .Mult) (rI MU λi j=>.int (i*j)):=US λ_ _ _ _ _ _ _ hc q=>mul_int q hc.ok
def IX:OpR X (binaryOp .FloorDiv) (rI V1 λi j=>.int (i/j)):=US λi j _ _ _ _ _ hc q=>by
 have h1:=hc.1;have h2:=hc.2;exact floordiv_int (by lia) (by rw[Int.fdiv_eq_ediv_of_nonneg i (by lia)];exact q) (.inl (PyProof.noPylong_small (by lia)))
def MY:OpR X (binaryOp .Mod) (rI (λ_ j=>0<j) λi j=>.int (i%j)):=US λi j _ _ _ _ _ hc q=>by
 have h1:=hc;exact mod_int' (by lia) (by rw[Int.fmod_eq_emod_of_nonneg i (by lia)];exact q)
def MZ:OpR X (binaryOp .Pow) (rI V2 λi j=>.int (i^j.toNat)):=US λ_ _ _ _ _ _ _ hc q=>pow_int_small hc.1 hc.2.1 hc.2.2 q
def IY:OpR X (inplaceOp .Add) (Ia λi j=>.int (i+j)):=MT λ_ _ _ _ _ _ _ q=>iadd_int q
def unI{f:Value->Sem Value}{g:Int->Int}
  (rule:∀(i:Int) (t:Tok) (s:Shared) (Q:Value->Shared->Prop) (E:Value->Shared->Prop),Q (.int (g i) s.toks) {s with toks:=s.toks+1}->wpAny (model X.prog X.w) X.A (f (.int i t)) Q E s) :
  UnR X f (rU λi=>.int (g i)):=by
 intro ae s σ H x v Q I rx h;obtain⟨i,rfl,q⟩:=h;obtain⟨t,rfl⟩:=rx;exact rule i t s _ _ ⟨.int (g i),H,I.tok _,⟨_,rfl⟩,q⟩
def M0:UnR X (unaryOp .USub) (rU λi=>.int (-i)):=unI λ_ _ _ _ _ q=>neg_int q
end
section
variable {X:Cx} {a b c:Expr} {ta tb tc:TE} {pos:Pos}
def EF{ae:List (Addr×Obj)}{σ:St}{H:Hp}{s:Shared}{Q:VK}{k k':Bool}(I:Inv X ae σ H s)(q:Q (.bl k) H)(e:k=k'):EP X ae σ Q (.bool k') s:=by
 subst e;exact⟨.bl k,H,I,rfl,q⟩
def Q7:OpR X (compareOp .Lt) (Ia λi j=>.bl (decide (i<j))):=IW λ_ _ _ _ _ _ _ q=>lt_int q
def Q8:OpR X (compareOp .LtE) (Ia λi j=>.bl (decide (i<=j))):=IW λ_ _ _ _ _ _ _ q=>le_int q
def Q9:OpR X (compareOp .Gt) (Ia λi j=>.bl (decide (j<i))):=IW λ_ _ _ _ _ _ _ q=>gt_int q
def Ra:OpR X (compareOp .GtE) (Ia λi j=>.bl (decide (j<=i))):=IW λ_ _ _ _ _ _ _ q=>ge_int q
def M1:OpR X (compareOp .Is) (λx y H Q=>y=.aK/\Q (.bl (decide (x=.aK))) H):=by
 intro ae s σ H x y v u Q I rx ry h;obtain⟨rfl,q⟩:=h;cases ry;refine is_none_gen (EF I q ?_);cases x<;>first
  | (cases rx;rfl)
  | (obtain⟨t,rfl⟩:=rx;rfl)
def IZ:OpR X (compareOp .IsNot) (λx y H Q=>y=.aK/\Q (.bl (!decide (x=.aK))) H):=by
 intro ae s σ H x y v u Q I rx ry h;obtain⟨rfl,q⟩:=h;cases ry;refine isnot_none_gen (EF I q ?_);cases x<;>first
  | (cases rx;rfl)
  | (obtain⟨t,rfl⟩:=rx;rfl)
def Ay(ho:OpR X (compareOp op) r)(ha:PE X a ta)(hb:PE X b tb)(hm:behindInMarks op b=false):PE X (.Compare a [op] [b] pos) (MS r ta tb):=by
 intro ae s σ H Q I h;exact wpAny_Compare1 (IV ha hb I h λv u s2 x y H2 I2 rx ry q=>ho ae s2 σ H2 x y v u Q I2 rx ry q) hm
def Ls(t:TE):TT:=λσ H Q=>t σ H λx H'=>∃k,x=.bl k/\Q k H'
def Az(ho:OpR X (compareOp op) r)(ha:PE X a ta)(hb:PE X b tb)(hm:behindInMarks op b=false):PT X (.Compare a [op] [b] pos) (Ls (MS r ta tb)):=by
 intro ae s σ H Q I h;refine wpAny_isTrue_Compare1 (thn (ha ae s σ H _ I h) λv s1 ⟨x,H1,I1,r1,q1⟩=>thn (hb ae s1 σ H1 _ I1 q1) λu s2 ⟨y,H2,I2,r2,q2⟩ =>
  thn (ho ae s2 σ H2 x y v u _ I2 r1 r2 q2) λc s3 ⟨z,H3,I3,r3,k,e,q3⟩=>?_) hm
 subst e;cases r3;exact iL ⟨H3,I3,q3⟩
def yG(r r':R2)(ta tb tc:TE):TE:=λσ H Q=>ta σ H λx H1=>tb σ H1 λy H2=>r x y H2 λz H3=>∃k,z=.bl k /\
 (if k=true then tc σ H3 λw' H4=>r' y w' H4 Q else Q (.bl false) H3)
def EG(ho:OpR X (compareOp op) r)(oO:OpR X (compareOp vz) r')(ha:PE X a ta)(hb:PE X b tb)(hc:PE X c tc)
  (hm:lastMarks [op,vz] [b,c]=false:=by with_unfolding_all rfl):PE X (.Compare a [op,vz] [b,c] pos) (yG r r' ta tb tc):=by
 intro ae s σ H Q I h;refine Compare_chain (thn (ha ae s σ H _ I h) λv s1 ⟨x,H1,I1,r1,q1⟩=>chain_link (thn (hb ae s1 σ H1 _ I1 q1) λu s2 ⟨y,H2,I2,r2,q2⟩ =>
  thn (ho ae s2 σ H2 x y v u _ I2 r1 r2 q2) λd s3 ⟨z,H3,I3,r3,k,e,q3⟩=>?_)) hm
 subst e;cases r3;refine iL ?_;cases k with
 | false=>exact ite_ff ⟨.bl false,H3,I3,rfl,q3⟩
 | true=>exact ite_tt (chain_last (thn (hc ae s3 σ H3 _ I3 q3) (by rintro w' s4 ⟨z',H4,I4,r4,q4⟩;exact oO ae s4 σ H4 y z' u w' Q I4 r2 r4 q4)))
def EH(ho:OpR X (compareOp op) r)(oO:OpR X (compareOp vz) r')(ha:PE X a ta)(hb:PE X b tb)(hc:PE X c tc)
  (hm:lastMarks [op,vz] [b,c]=false:=by with_unfolding_all rfl):PT X (.Compare a [op,vz] [b,c] pos) (Ls (yG r r' ta tb tc)):=by
 intro ae s σ H Q I h;refine isTrue_chain (thn (ha ae s σ H _ I h) λv s1 ⟨x,H1,I1,r1,q1⟩=>test_link (thn (hb ae s1 σ H1 _ I1 q1) λu s2 ⟨y,H2,I2,r2,q2⟩ =>
  thn (ho ae s2 σ H2 x y v u _ I2 r1 r2 q2) λd s3 ⟨z,H3,I3,r3,k,e,q3⟩=>?_)) hm
 subst e;cases r3;refine iL ?_;cases k with
 | false =>
  obtain⟨k',e',q'⟩:=q3;cases e';exact ite_ff ⟨H3,I3,q'⟩
 | true =>
  refine ite_tt (test_last (thn (hc ae s3 σ H3 _ I3 q3) λw' s4 ⟨z',H4,I4,r4,q4⟩=>thn (oO ae s4 σ H4 y z' u w' _ I4 r2 r4 q4) λd' s5 z9=>?_))
  obtain⟨z2,H5,I5,r5,k2,e2,q5⟩:=z9;subst e2;cases r5;exact iL ⟨H5,I5,q5⟩
def I0(K:W.Frag)(x:V)(H:Hp)(k:Bool):Prop :=
 match x with
 | .aK=>k=false
 | .bl b=>k=b
 | .int i=>k=(i != 0)
 | .str y=>y.length<=sizeLine/\k=((y.length:Int) != 0)
 | .P9 y=>y.size<=sizeLine/\k=((y.size:Int) != 0)
 | .ref p=>(∃xs,uk K H p xs/\k = !xs.isEmpty)\/(∃xs,fw K H p xs/\k = !xs.isEmpty)\/∃kvs,H p=some (.dK kvs)/\k = !kvs.isEmpty
 | _=>False
def yH{κ:Type}{kvs:List (κ×V)}{vs:List (κ×Value)}(r:KV kvs vs):(!vs.isEmpty) = !kvs.isEmpty:=by
 cases r<;>rfl
def oV(r:Vals xs ak):(!ak.toArray.isEmpty) = !xs.isEmpty:=by
 cases r<;>simp
def jV:(sizeLine:Nat)<2^63:=by rw[jT];decide
def EI:V0 X (λx H Q=>∃k,I0 X.K x H k/\Q k H):=by
 intro ae s σ H x v Q I rx h;obtain⟨k,e,q⟩:=h;have hl:=jV;have hs:=jT;cases x with
 | aK =>
  cases rx;have e':=e;subst e';exact truthy_none ⟨H,I,q⟩
 | bl b =>
  cases rx;have e':=e;subst e';exact iL ⟨H,I,q⟩
 | int i =>
  obtain⟨t,rfl⟩:=rx;have e':=e;subst e';exact PySem.P.truthy_int ⟨H,I,q⟩
 | str y =>
  obtain⟨t,rfl⟩:=rx;obtain⟨hy,e'⟩:y.length<=sizeLine/\k=((y.length:Int) != 0):=e;subst e';exact PySem.P.truthy_str (by lia) ⟨H,I.tok _,q⟩
 | P9 y =>
  obtain⟨t,rfl⟩:=rx;obtain⟨hy,e'⟩:y.size<=sizeLine/\k=((y.size:Int) != 0):=e;subst e';exact W.truthy_bytes (by lia) ⟨H,I.tok _,q⟩
 | ref p =>
  cases rx;have e':=e;rcases e' with⟨xs,hx,e'⟩ | ⟨xs,hx,e'⟩ | ⟨kvs,hx,e'⟩
  ·subst e';obtain⟨ak,r,pl,hz⟩:=I.list hx;have dj:=r.length;exact wpAny_truthy_list pl.isList (by grind) ⟨H,I.tok _,by rw[oV r];exact q⟩
  ·subst e';obtain⟨ak,r,pl,hz⟩:=I.tuple hx;have dj:=r.length;exact truthy_tuple pl (by grind) ⟨H,I.tok _,by rw[oV r];exact q⟩
  ·subst e';obtain⟨hz,hS,vs,r,m⟩:kvs.length<=sizeLine/\(p==sysModules)=false/\∃vs,KV kvs vs/\s.heap.DictOf (bD X.prog X.w) p vs:=I.hok p _ hx
   have dj:=iP r;exact wpAny_truthy_dict hS m (by lia) ⟨H,I.tok _,by rw[yH r];exact q⟩
 | _=>exact(e).elim
def EJ(ha:PE X a ta)(he:∀il,isTrue a X.env il=(do let v <-il;standAt a.pos;holding [v] (truthy v))) :
  PT X a (λσ H Q=>ta σ H λx H'=>∃k,I0 X.K x H' k/\Q k H'):=by
 intro ae s σ H Q I h;exact isTrue_plain (thn (ha ae s σ H _ I h) (by rintro v s1 ⟨x,H1,I1,r1,q1⟩;exact EI ae s1 σ H1 x v Q I1 r1 q1)) (he _)
def yI:OpR X (binaryOp .Add) (λx y H Q=>∃i j,x=.str i/\y=.str j/\i.length+j.length<=sizeLine/\Q (.str (i++j)) H):=by
 intro ae s σ H x y v u Q I rx ry h;obtain⟨i,j,rfl,rfl,hz,q⟩:=h;obtain⟨t,rfl⟩:=rx;obtain⟨t',rfl⟩:=ry;exact add_str (λt' tk=>⟨.str (i++j),H,I.tok _,⟨_,rfl⟩,q⟩) hz
def ip(r:Vals [x] us):∃u,us=[u]/\RelV x u:=by
 cases r with
 | cons r1 r2=>cases r2;exact⟨_,rfl,r1⟩
def AA(r:Vals [x,y] us):∃u w',us=[u,w']/\RelV x u/\RelV y w':=by
 cases r with
 | cons r1 r2 =>
  cases r2 with
  | cons r3 r4=>cases r4;exact⟨_,_,rfl,r1,r3⟩
def rD:jB X (.type "int") (λxs H Q=>(∃i,xs=[.int i]/\Q (.int i) H)\/∃k,xs=[.bl k]/\Q (.int (if k then 1 else 0)) H):=by
 intro ae s σ H xs us Q I r h;rcases h with⟨i,rfl,q⟩ | ⟨k,rfl,q⟩
 ·obtain⟨u,rfl,t,rfl⟩:=ip r;exact call_int_int ⟨.int i,H,I,⟨_,rfl⟩,q⟩
 ·obtain⟨u,rfl,r1⟩:=ip r;cases r1;exact call_int_bool ⟨.int (if k then 1 else 0),H,I.tok _,⟨_,rfl⟩,q⟩
def uo:jB X (.type "str") (λxs H Q=>∃i,xs=[.int i]/\i.natAbs.log2<1920/\Q (.str (toString i)) H):=by
 intro ae s σ H xs us Q I r h;obtain⟨i,rfl,hz,q⟩:=h;obtain⟨u,rfl,t,rfl⟩:=ip r;exact PySem.P.str_of_int hz ⟨.str _,H,I.tok _,⟨_,rfl⟩,q⟩
end
structure B6 (h:Heap) (x dx C:Addr) (mA:Str->Option Value):Prop where
 obj:h.get? x=some (W.instObj C dx)
 ns:h.Ns1 dx mA
 ne:dx≠x
def B7{h:Heap}{mA:Str->Option Value}(n:h.Ns1 dx mA):∃od,h.get? dx=some od/\∀name,W.lookIn name od=some (mA name):=by
 obtain⟨o,es,ep,ho,hd,hk,_,hm⟩:=n;refine⟨o,ho,λname=>?_⟩
 have e:=hm name;unfold nsFind findBy at e;rw[<-Array.find?_toList]at e;unfold W.lookIn;rw[hd];dsimp only
 split
 ·grind
 ·rename_i q;rw[q]at e;have a:es.toList.any (·.refKey)=false:=by
   rw[tO];intro y hy;obtain⟨z,t,M3⟩:=hk y (Array.mem_toList_iff.mp hy);simp[DictEntry.refKey,M3]
  have a':¬es.toList.any (·.refKey)=true:=by grind
  rw[if_neg a'];exact fj some e
def B6.Ja(I:B6 h x dx C mA):∃od,W.InstAt h x (W.instObj C dx) C (some od)/\∀name,W.lookIn name od=some (mA name) :=
 let ⟨od,ho,hl⟩:=B7 I.ns
 ⟨od,⟨I.obj,rfl,rfl,ho⟩,hl⟩
section
variable {prog:Program} {w:World} {A:Around} {E:Value->Shared->Prop} {s:Shared} {K:W.Frag} {x dx C f:Addr} {mA:Str->Option Value} {name:Str} {v:Value}
def Jb(X:K.In s.heap)(I:B6 s.heap x dx C mA)(hg:W.plainGet K C name=true)(hh:W.hasDictIn K C=true)
  (ha:W.findIn K (.ref C) name=some none) (hv:mA name=some v) (M4:W.handedIn v=true) (h:Q v {s with toks:=s.toks+1}) :
  wpAny (model prog w) A (getAttr (.ref x) name expr) Q E s:=by
 obtain⟨od,J,hl⟩:=I.Ja;exact W.get_value X J (W.plainGet_of hg).1 (W.findObj_own hh ha rfl (by rw[hl,hv])) M4 h
def Jc(X:K.In s.heap)(I:B6 s.heap x dx C mA)
  (hs:W.findIn K (.ref C) "__setattr__"=some (some (.builtin "object.__setattr__"))) (hp:W.plainOver K C=true) (ht:W.takerIn K C name=some none) (hh:W.hasDictIn K C=true)
  (hw:PySem.Within mA ns) (hsz:ns.length<=sizeLine)
  (h:∀h',B6 h' x dx C (λy=>if y=name then some v else mA y)->Heap.SameBut dx s.heap h'->Q () {s with heap:=h',toks:=s.toks+2}) :
  wpAny (model prog w) A (setAttr (.ref x) name v) Q E s:=by
 obtain⟨od,J,hl⟩:=I.Ja;refine W.set_plain X J hs (W.osa_open X J hp ht λb=>?_)
 obtain⟨cd,hc,rz⟩:=W.any_some hh;have hx:=I.obj;refine af (ai (af (af (wpAny_loadPart hx (af (W.Looks.here (W.looks_clsIn X hc) ?_))))));rw[rz];refine ai (af (ai (af ?_)));refine wpAny_nsSet1 I.ns λh' Rb xD=>?_
 obtain⟨oD,esD,epD,hoD,hdD,hcD⟩:=Rb.count (PySem.Within.cons name v hw);refine af (wpAny_lookBehind hoD (by rw[hdD];exact pastItsLine_dict (aM hcD (by grind))) ?_)
 exact ai (h _ ⟨(xD.2 _ (bj I.ne)).trans I.obj,Rb,I.ne⟩ xD)
def EK(X:K.In s.heap)(hm:W.makesIn K C=true)
  (hi:W.findIn K (.ref C) "__init__"=some (some (.ref f))) (hf:W.typeIn K (.ref f)=some (.type "function"))
  (h:codeAny (model prog w) (A.under (.builtin "type.__call__" ⟨.ref C::vs,kw⟩)) (.call (.ref f) ⟨.ref (s.heap.objs.size+1)::vs,kw⟩) (W.InitBack (s.heap.objs.size+1) R)
   {s with heap:=(s.heap.push W.emptyDict).push (W.instObj C s.heap.objs.size)}) :
  codeAny (model prog w) A (.call (.ref C) ⟨vs,kw⟩) R s:=by
 obtain⟨hh,g,d,t,os⟩:=s;exact W.make_core (W.makes_of X hm) (W.looks_findIn X hi) (λself=>W.bind_fn X self hf) (.inl rfl) h
end
noncomputable def gD(f:Str)(v:V):List (Str×V)->List (Str×V)
 | []=>[(f,v)]
 | (g,x)::r=>if g=f then(g,v)::r else(g,x)::gD f v r
theorem mz(f g:Str)(v:V):∀fs:List (Str×V),(gD f v fs).lookup g=if g=f then some v else fs.lookup g
 | []=>by
  show List.lookup g [(f,v)]=_;by_cases h:g=f
  ·grind
  ·grind
 | (k,x)::r=>by
  have ih:=mz f g v r;rw[show gD f v ((k,x)::r)=(if k=f then(k,v)::r else(k,x)::gD f v r)from rfl]
  by_cases hk:k=f
  ·grind
  ·grind
theorem l6(f:Str)(v:V):∀fs:List (Str×V),f∈(gD f v fs).map (·.1)/\∀g,g∈fs.map (·.1)->g∈(gD f v fs).map (·.1)
 | []=>⟨by simp[gD],λg h=>by simp at h⟩
 | (k,x)::r=>by
  obtain⟨i1,i2⟩:=l6 f v r;rw[show gD f v ((k,x)::r)=(if k=f then(k,v)::r else(k,x)::gD f v r)from rfl]
  by_cases hk:k=f
  ·grind
  ·grind
theorem mB(f:Str)(v:V):∀fs:List (Str×V),(gD f v fs).length<=fs.length+1
 | []=>by simp[gD]
 | (k,x)::r=>by
  have ih:=mB f v r;rw[show gD f v ((k,x)::r)=(if k=f then(k,v)::r else(k,x)::gD f v r)from rfl]
  by_cases hk:k=f
  ·grind
  ·grind
def uh.Jd(r:uh (some v) o):∃u,o=some u/\RelV v u:=by
 cases o with
 | none=>exact(r).elim
 | some u=>exact⟨u,rfl,r⟩
def B8(r:RelV v u):W.handedIn u=true:=by
 cases v with
 | aK=>cases(r);rfl
 | bl b=>cases(r);rfl
 | int i=>obtain⟨t,e⟩:=(r);cases e;rfl
 | str x=>obtain⟨t,e⟩:=(r);cases e;rfl
 | P9 b=>obtain⟨t,e⟩:=(r);cases e;rfl
 | UH b=>obtain⟨t,e⟩:=(r);cases e;rfl
 | ref a=>cases(r);rfl
 | ty n=>cases(r);rfl
section
variable {P:Program} {w:World} {H H':Hp} {h h':Heap} {a C dx:Addr} {fs fs':List (Str×V)}
def AB(hok:ko P w H h)(e:H a=some (.ins C dx fs)):∃mA,B6 h a dx C mA/\(∀f,uh (fs.lookup f) (mA f))/\PySem.Within mA (fs.map (·.1))/\fs.length<=1000/\H dx=some (.own a):=by
 obtain⟨d,z,ne,ob,mA,n,r,q⟩:=(hok a _ e);exact⟨mA,⟨ob,n,ne⟩,r,q,z,d⟩
end
def BM.get{K:W.Frag}{C:Addr}(c:BM K C)(f:Str):W.plainGet K C f=true:=c.pg
def gU.Rc{K:W.Frag}{C:Addr}{f:Str}(n:gU K C f):W.takerIn K C f=some none:=by
 unfold W.takerIn;rw[show W.findIn K (.ref C) f=some none from n]
 rfl
section
variable {X:Cx} {ae:List (Addr×Obj)} {σ:St} {H:Hp} {s:Shared} {a C dx:Addr} {fs:List (Str×V)} {f:Str} {v:V} {A:Around} {E:Value->Shared->Prop}
def yJ(I:Inv X ae σ H s)(e:H a=some (.ins C dx fs))(c:BM X.K C)(n:gU X.K C f)(l:fs.lookup f=some v)
  (h:∀u s',Inv X ae σ H s'->RelV v u->Q u s'):wpAny (model X.prog X.w) A (getAttr (.ref a) f b) Q E s:=by
 obtain⟨mA,O,r,_,_,_⟩:=AB I.hok e;obtain⟨u,hu,ru⟩:=uh.Jd (by rw[<-l];exact r f)
 exact Jb I.oN O (c.get f) c.hd n hu (B8 ru) (h u _ (I.tok _) ru)
def yK(I:Inv X ae σ H s)(e:H a=some (.ins C dx fs))(c:BM X.K C)(n:gU X.K C f)(hl:fs.length<1000)(ry:RelV y u)
  (h:∀s',Inv X ae σ (cf H a (.ins C dx (gD f y fs))) s'->Q () s'):wpAny (model X.prog X.w) A (setAttr (.ref a) f u) Q E s:=by
 obtain⟨mA,O,r,wi,_,ho⟩:=AB I.hok e;have hz:(fs.map (·.1)).length<=sizeLine:=by rw[ah,jT];lia
 refine Jc I.oN O c.sa c.po n.Rc c.hd wi hz λh' O' sb=>h _ ?_
 have hd:∃o,h'.get? dx=some o:=let ⟨o,_,_,e',_⟩:=O'.ns;⟨o,e'⟩
 refine I.write (by rw[e];exact True.intro) (.inr ho) (λb q hb z=>(sb.2 b hb).trans z) hd ?_
 refine⟨by rw[aI O.ne];exact ho,?_,O.ne,O'.obj,_,O'.ns,λg=>?_,λg hg=>?_⟩
 ·have:=mB f y fs;lia
 ·rw[mz];by_cases q:g=f
  ·rw[if_pos q,if_pos q];exact ry
  ·rw[if_neg q,if_neg q];exact r g
 ·by_cases q:g=f
  ·rw[q];exact(l6 f y fs).1
  ·refine(l6 f y fs).2 g (wi g λz=>hg ?_)
   show(if g=f then some u else mA g)=none
   rw[if_neg q];exact z
def Inv.made(I:Inv X ae σ H s):Inv X ae σ (cf (cf H s.heap.objs.size (.own (s.heap.objs.size+1))) (s.heap.objs.size+1) (.ins C s.heap.objs.size []))
  {s with heap:=(s.heap.push W.emptyDict).push (W.instObj C s.heap.objs.size)}:=by
 have e1:(s.heap.push W.emptyDict).get? s.heap.objs.size=some W.emptyDict:=aZ s.heap rfl;have e2:((s.heap.push W.emptyDict).push (W.instObj C s.heap.objs.size)).get? (s.heap.objs.size+1)=some (W.instObj C s.heap.objs.size):=by
  have:=aZ (s.heap.push W.emptyDict) (o:=W.instObj C s.heap.objs.size) rfl
  rwa [cQ]at this
 have e3:(s.heap.push W.emptyDict).Ns s.heap.objs.size (λ_=>none):=⟨W.emptyDict,#[],_,e1,rfl,(λe he=>absurd he (by simp)),λ_=>rfl⟩
 have I1:=I.laid (o:=.own (s.heap.objs.size+1)) (t':=s.toks) (λb u q=>ax _ q) (ao _) ⟨_,e1⟩
 refine I1.laid (t':=s.toks) (λb u q=>ax _ q) (iQ (cQ _ _)) ?_
 have ne:s.heap.objs.size≠s.heap.objs.size+1:=by grind
 refine⟨by rw[aI ne,ar],fg _,ne,e2,λ_=>none,(Heap.Ns1.of_empty e3).at λo q=>ax _ q,λ_=>True.intro,λy hy=>absurd rfl hy⟩
def Je(hb:attributeBase e f env (eval e env)=eval e env)
  (h:wpAny (model prog w) A (eval e env) (λo s₁=>wpAny (model prog w) A (getAttr o f true) Q E s₁) E s):wpAny (model prog w) A (eval (.Attribute e f pos) env) Q E s :=
 Attribute_any_ h (by rw[arm_eval_Attribute,hb])
end
def V3(K:W.Frag)(ta:TE)(f:Str):TE:=λσ H Q=>ta σ H λx H1=>∃a C dx fs v,x=.ref a/\H1 a=some (.ins C dx fs)/\BM K C/\gU K C f/\fs.lookup f=some v/\Q v H1
def V4(K:W.Frag)(ta tv:TE)(f:Str):TS:=λD σ H=>tv σ H λy H1=>ta σ H1 λx H2=>∃a C dx fs,x=.ref a/\H2 a=some (.ins C dx fs)/\BM K C/\gU K C f/\fs.length<1000 /\
 D.nx σ (cf H2 a (.ins C dx (gD f y fs)))
section
variable {X:Cx} {o e value:Expr} {f:Str} {pos qI B9:Pos} {ta tv:TE}
def M5(he:PE X e ta)(hb:attributeBase e f X.env (eval e X.env)=eval e X.env):PE X (.Attribute e f pos) (V3 X.K ta f):=by
 intro ae s σ H Q I h;refine Je hb (thn (he ae s σ H _ I h) λu s1 z9=>?_)
 obtain⟨x,H1,I1,rx,a,C,dx,fs,v,ex,ea,c,n,l,q⟩:=z9;subst ex;obtain rfl:u=Value.ref a:=rx;exact yJ I1 ea c n l λu' s2 I2 ru=>⟨v,H1,I2,ru,q⟩
def M6(ha:PE X o ta)(hv:PE X value tv)(hs:swapsWith value (some (.Attribute o f qI)) pos.line X.env=pure false):PS X (.Assign [.Attribute o f qI] value pos) (V4 X.K ta tv f):=by
 intro ae s σ H D I h;refine plainObj_wpAny_Assign_Attribute (thn (hv ae s σ H _ I h) λu s1 ⟨y,H1,I1,ry,q⟩=>thn (ha ae s1 σ H1 _ I1 q) λov s2 z9=>?_) hs
 obtain⟨x,H2,I2,rx,a,C,dx,fs,ex,ea,c,n,l,q2⟩:=z9;subst ex;obtain rfl:ov=Value.ref a:=rx;exact yK I2 ea c n l ry λs3 I3=>⟨σ,_,I3,q2⟩
end
structure dU (k:Nat) (A:Around):Prop where
 hd:A.handled=none
 dp:A.depth+3*k+5<recursionLimit
 un:A.units+16*k+1200<cLine
def dU.mono(r:dU k A)(h:j<=k):dU j A:=⟨r.hd,by have:=r.dp;lia,by have:=r.un;lia⟩
def dU.deeper(r:dU (k+1) A)(env:Env):dU k (A.deeper env) :=
 ⟨r.hd,by have:=r.dp;show A.depth+1+3*k+5<_;lia,by have:=r.un;show A.units+3+16*k+1200<_;lia⟩
def yL{A:Around}:(A.under (.builtin "type.__call__" ⟨.ref C::us,kw⟩)).depth=A.depth+1:=by
 first | rfl | simp[Around.under,Code.weight,Code.isCreation,Code.isGuard,Code.isCaller,Code.frames,Code.isFrame,guardIds]
def yM{A:Around}:(A.under (.builtin "type.__call__" ⟨.ref C::us,kw⟩)).units=A.units+1:=by
 first | rfl | simp[Around.under,Code.cUnits,Code.frames,Code.isFrame]
def dU.make(r:dU (k+1) A)(C:Addr)(us:List Value)(kw:List (Str×Value)):dU k (A.under (.builtin "type.__call__" ⟨.ref C::us,kw⟩)) :=
 ⟨r.hd,by have:=r.dp;rw[yL];lia,by have:=r.un;rw[yM];lia⟩
def dU.depth(r:dU k A):A.depth<recursionLimit:=by have:=r.dp;lia
def V5:TA:=λ_ H Q=>Q [] H
def Rf(ta:TE)(tr:TA):TA:=λσ H Q=>ta σ H λx H1=>tr σ H1 λxs H2=>Q (x::xs) H2
section
variable {X:Cx} {e:Expr} {es:List Expr} {te:TE} {t:TA} {pos:Pos}
def oW:PA X [] V5:=λ_ _ _ _ H Q I h=>Calls.spliced_nil ⟨[],H,I,.nil,h⟩
def f7(ha:PE X e te)(hr:PA X es t)(hs:starEach (e::es) X.env=(false,eval e X.env)::starEach es X.env:=by rfl):PA X (e::es) (Rf te t):=by
 intro pos ae s σ H Q I h;rw[hs];refine Calls.spliced_cons (thn (ha ae s σ H _ I h) λu s1 ⟨x,H1,I1,r1,q1⟩=>?_)
 exact thn (hr pos ae s1 σ H1 _ I1 q1) (by rintro us s2 ⟨xs,H2,I2,r2,q2⟩;exact⟨x::xs,H2,I2,.cons r1 r2,q2⟩)
def V6(t:TA):TE:=λσ H Q=>t σ H λxs H1=>xs.length<=sizeLine/\∀p,H1 p=none->Q (.ref p) (cf H1 p (.ag xs))
def V7(t:TA):TE:=λσ H Q=>t σ H λxs H1=>xs.length<=sizeLine/\∀p,H1 p=none->Q (.ref p) (cf H1 p (.lst xs))
def M7{x1}(h:PA X es t):PE X (.Tuple es x1 pos) (V6 t):=by
 intro ae s σ H Q I hq;refine wpAny_Tuple_spliced (thn (h pos ae s σ H _ I hq) λus s1 ⟨xs,H1,I1,r,z,q⟩=>⟨by rw[<-r.length];exact z,?_⟩)
 have hf:=I1.hok.fresh (ao _);refine⟨.ref s1.heap.objs.size,cf H1 s1.heap.objs.size (.ag xs),I1.laid (λb u e=>ax _ e) (ao _) ?_,rfl,q _ hf⟩
 exact⟨z,us,r,mV.new _ _⟩
def EL(h:PA X es t):PE X (.List es pos) (V7 t):=by
 intro ae s σ H Q I hq;refine wpAny_List_spliced (thn (h pos ae s σ H _ I hq) λus s1 ⟨xs,H1,I1,r,z,q⟩=>⟨by rw[<-r.length];exact z,?_⟩)
 have hf:=I1.hok.fresh (ao _);refine⟨.ref s1.heap.objs.size,cf H1 s1.heap.objs.size (.lst xs),I1.laid (λb u e=>ax _ e) (ao _) ?_,rfl,q _ hf⟩
 exact⟨z,us,0,r,aZ _ rfl⟩
end
abbrev Sp:=List V->Hp->VK->XK->Prop
abbrev D3:=List Env->Hp->Shared->XK->Value->Shared->Prop
structure Env0 (P:Program) (w:World) (K:W.Frag) (mg:Str->Option Value) (base:Heap) (A:Around) (aB:List Env) (s:Shared) (H:Hp):Prop where
 frames:A.frames=some aB
 mod:Mod K mg base
 bs:∀b o,base.get? b=some o->s.heap.get? b=some o/\H b=none
 bsz:base.objs.size<=s.heap.objs.size
 funs:s.heap.FunFrames base aB
 frf:∀b∈kE aB,H b=none
 hok:ko P w H s.heap
 bare:AllBare s.gens
 tabs:oM K H
def CE(aB:List Env)(P:Program)(w:World)(H:Hp)(s:Shared)(Q:VK)(u:Value)(s':Shared):Prop :=
 ∃v H',s'.os=s.os/\AllBare s'.gens/\Un (kE aB) [] H H' s.heap s'.heap/\ko P w H' s'.heap/\RelV v u/\Q v H'
def CR(CX:D3)(aB:List Env)(P:Program)(w:World)(H:Hp)(s:Shared)(Q:VK)(E:XK)(r:Result)(s':Shared):Prop :=
 match r with
 | .ok (.ret u)=>CE aB P w H s Q u s'
 | .ok _=>False
 | .error e=>CX aB H s E e s'
structure FnOk (P:Program) (w:World) (K:W.Frag) (mg:Str->Option Value) (base:Heap) (CX:D3) (k:Nat) (f:Addr) (fd:FuncData) (ps:List Str) (sp:Sp):Prop where
 len:∀vs H Q E,sp vs H Q E->vs.length=ps.length
 run:∀(A:Around) (aB:List Env) (s:Shared) (H:Hp) (args:Args) (us:List Value) (vs:List V) (Q:VK) (E:XK),dU k A->Env0 P w K mg base A aB s H->BindsTo s fd args (ps.zip us)->Vals vs us->sp vs H Q E ->
  codeAny (model P w) A (.call (.ref f) args) (CR CX aB P w H s Q E) s
def Env0.make{P:Program}{w:World}{K:W.Frag}{mg:Str->Option Value}{base:Heap}{A:Around}{aB:List Env}{s:Shared}{H:Hp}(e:Env0 P w K mg base A aB s H)(C:Addr)(us:List Value)(kw:List (Str×Value)) :
  Env0 P w K mg base (A.under (.builtin "type.__call__" ⟨.ref C::us,kw⟩)) aB s H:=⟨by first | exact e.frames | (simpa[Around.under,Code.envs,Code.isFrame,pushEnvs]using e.frames),e.mod,e.bs,e.bsz,e.funs,e.frf,e.hok,e.bare,e.tabs⟩
section
variable {X:Cx} {ae:List (Addr×Obj)} {σ:St} {H:Hp} {s s':Shared}
def Inv.Rg(I:Inv X ae σ H s):Env0 X.prog X.w X.K X.mg X.base X.A X.stack s H :=
 ⟨I.ok.frames,I.ok.mod,I.bs,aM I.ok.bsz I.sz,I.stack,I.uj,I.hok,I.bare,I.tabs⟩
def Inv.after(I:Inv X ae σ H s)(h:CE X.stack X.prog X.w H s Q u s'):EP X ae σ Q u s':=by
 obtain⟨v,H',os,bare,un,hok,r,q⟩:=h;obtain⟨hh,g,d,t,Jf⟩:=s';obtain rfl:Jf=s.os:=os;exact⟨v,H',I.call un hok bare (λb z=>absurd z (by simp)),r,q⟩
end
def Lu(C:Addr)(sp:Sp)(Li:List V)(E:XK)(t:TA):TE:=λσ H Q=>t σ H λvs H1=>∀x dx,H1 x=none->H1 dx=none->dx≠x ->
 sp (.ref x::(vs++Li)) (cf (cf H1 dx (.own x)) x (.ins C dx [])) (λv H2=>v=.aK/\Q (.ref x) H2) E
def fM(K:W.Frag)(fd:FuncData)(ps:List Str)(ds:List Value):Prop :=
 ∀(s:Shared) (us:List Value),K.In s.heap->(us++ds).length=ps.length->BindsTo s fd ⟨us,[]⟩ (ps.zip (us++ds))
def fM.all{K:W.Frag}{fd:FuncData}{ps:List Str}(h:∀us:List Value,us.length=ps.length->bindArgs fd ⟨us,[]⟩=pure (ps.zip us)):fM K fd ps []:=λs us _ hl=>by
 rw[eZ]at hl ⊢;exact .of_eq (h us hl)
def yN(CX:D3)(X:Cx)(E:XK):Prop:=∀(ae:List (Addr×Obj)) (σ:St) (H:Hp) (s:Shared) (e:Value) (s':Shared),Inv X ae σ H s->CX X.stack H s E e s'->X.xe e s'
section
variable {X:Cx} {CX:D3} {k:Nat} {f C:Addr} {fd:FuncData} {ps:List Str} {sp:Sp} {Li:List V} {ds:List Value} {E:XK} {x m:Str} {p pos kC:Pos} {e o:Expr} {es:List Expr} {ta:TE} {t:TA}
def EM{ae:List (Addr×Obj)}{σ:St}{H:Hp}{s:Shared}{Q:VK}{us:List Value}{vs:List V}(M:Mk X.K C f)(F:FnOk X.prog X.w X.K X.mg X.base CX k f fd ps sp)(hr:dU (k+1) X.A)(hb:fM X.K fd ps ds)(hd:Vals Li ds)
  (hx:yN CX X E) (I:Inv X ae σ H s) (r:Vals vs us)
  (h:∀x dx,H x=none->H dx=none->dx≠x->sp (.ref x::(vs++Li)) (cf (cf H dx (.own x)) x (.ins C dx [])) (λv H2=>v=.aK/\Q (.ref x) H2) E) :
  wpAny (model X.prog X.w) X.A (call (.ref C) us) (EP X ae σ Q) X.xe s:=by
 have hq:=h (s.heap.objs.size+1) s.heap.objs.size (I.hok.fresh (Nat.le_succ _)) (I.hok.fresh (ao _)) (aN (lP _));have I2:=Inv.made (C:=C) I;have r2:Vals (V.ref (s.heap.objs.size+1)::(vs++Li)) (Value.ref (s.heap.objs.size+1)::(us++ds)):=.cons rfl (r.append hd);have hl:(Value.ref (s.heap.objs.size+1)::us++ds).length=ps.length:=by
  have e:=r2.length;rw[F.len _ _ _ _ hq]at e;exact e.symm
 refine wpAny_call (EK I.oN M.makes M.init (oI.mp M.fn) (lV (F.run _ X.stack _ _ ⟨Value.ref (s.heap.objs.size+1)::us,[]⟩ (Value.ref (s.heap.objs.size+1)::(us++ds)) _ _ E (hr.make C us [])
  (I2.Rg.make C us []) (hb _ (Value.ref (s.heap.objs.size+1)::us) I2.oN hl) r2 hq) λr s' Ib=>?_))
 cases r with
 | error e=>exact hx ae σ _ _ e s' I2 Ib
 | ok fl =>
  cases fl with
  | ret u =>
   obtain⟨v,H',I3,rv,ev,q3⟩:=I2.after Ib;subst ev;exact⟨rv,⟨V.ref (s.heap.objs.size+1),H',I3,rfl,q3⟩⟩
  | next=>exact False.elim Ib
  | brk=>exact False.elim Ib
  | cont=>exact False.elim Ib
def Jg(M:Mk X.K C f)(F:FnOk X.prog X.w X.K X.mg X.base CX k f fd ps sp)(hr:dU (k+1) X.A)(hg:Gl X x)(hm:X.mg x=some (.ref C))(hb:fM X.K fd ps ds)(hd:Vals Li ds)(hx:yN CX X E)
  (ha:PA X (e::es) t) (AD:(x==("__debug__":Str))=false:=by decide) (he:starEach (e::es) X.env=(false,eval e X.env)::starEach es X.env:=by rfl) (kJ:(backTo pos (starEach es X.env)).any (·.1)=false:=by rfl) :
  PE X (.Call (.Name x p) (e::es) [] pos) (Lu C sp Li E t):=by
 intro ae s σ H Q I h;refine iJ (ld_glob I hg hm ?_ AD);refine W.callWith_K I.ok.mod.kin M.kp (thn (ha pos ae s σ H _ I h) λus s1 ⟨vs,H1,I1,r,q⟩=>⟨I1.oN,?_⟩) he kJ
 exact EM M F hr hb hd hx I1 r q
end
theorem rE{kindOf:Str->Option NameKind}:∀{vR:List (Str×Value)} {m:Str->Option Value},(∀v,(x,v)∉vR)->bindL kindOf vR m x=m x
 | [],_,_=>rfl
 | (n,v)::r,m,h=>by
  unfold bindL;rw[rE λw hw=>h w (b9 _ hw)]
  split
  ·grind
  ·rfl
theorem rF{kindOf:Str->Option NameKind}:∀{vR:List (Str×Value)} {m:Str->Option Value},(∀v,(x,v)∉vR)->bindC kindOf vR m x=m x
 | [],_,_=>rfl
 | (n,v)::r,m,h=>by
  unfold bindC;rw[rF λw hw=>h w (b9 _ hw)]
  split
  ·rfl
  ·grind
theorem rG{kindOf:Str->Option NameKind}:∀{P:List Str} {vs:List Value} {i:Nat} {m:Str->Option Value},P.Nodup->P[i]?=some x->vs[i]?=some v->kindOf x=some .local ->
  bindL kindOf (P.zip vs) m x=some v
 | [],_,_,_,_,h,_,_=>by simp at h
 | _::_,[],_,_,_,_,h,_=>by simp at h
 | p::P,w::vs,0,m,nd,h1,h2,hk=>by
  simp at h1 h2;subst h1;subst h2;show bindL kindOf ((p,w)::P.zip vs) m p=_;unfold bindL;rw[rE λv hv=>(dR.mp nd).1 (lR hv).1,if_pos hk]
  simp
 | p::P,w::vs,i+1,m,nd,h1,h2,hk=>by
  unfold bindL;exact rG (dR.mp nd).2 (by simpa using h1) (by grind) hk
theorem rH{kindOf:Str->Option NameKind}:∀{P:List Str} {vs:List Value} {i:Nat} {m:Str->Option Value},P.Nodup->P[i]?=some x->vs[i]?=some v->kindOf x≠some .local ->
  bindC kindOf (P.zip vs) m x=some v
 | [],_,_,_,_,h,_,_=>by simp at h
 | _::_,[],_,_,_,_,h,_=>by simp at h
 | p::P,w::vs,0,m,nd,h1,h2,hk=>by
  simp at h1 h2;subst h1;subst h2;show bindC kindOf ((p,w)::P.zip vs) m p=_;unfold bindC;rw[rF λv hv=>(dR.mp nd).1 (lR hv).1,if_neg hk]
  simp
 | p::P,w::vs,i+1,m,nd,h1,h2,hk=>by
  unfold bindC;exact rH (dR.mp nd).2 (by simpa using h1) (by grind) hk
noncomputable def start(N:List Str)(vs:List V):St:=vs.map some++List.replicate (N.length-vs.length) none
noncomputable def fN(CX:D3)(P:Program)(w:World)(K:W.Frag)(mg:Str->Option Value)(base:Heap)(N:List Str)(qual:Str)(scope:Scope)(f:Addr)(cd:Value)(A:Around)(aB:List Env)(s:Shared)(H:Hp)(E:XK):Cx where
 prog:=P
 w:=w
 K:=K
 mg:=mg
 base:=base
 A:=A.deeper (envOfC qual scope s.heap.objs.size f cd)
 N:=N
 s₀:=s
 aa:=H
 env:=envOfC qual scope s.heap.objs.size f cd
 aB:=aB
 stack:=envOfC qual scope s.heap.objs.size f cd::aB
 ex:=[]
 calm:=true
 fn:=λ_=>true
 pn:=[]
 xe:=λe s'=>wpAny (model P w) (A.deeper (envOfC qual scope s.heap.objs.size f cd)) (leaving (envOfC qual scope s.heap.objs.size f cd) e) (λ_ M8=>CX aB H s E e M8) (λe' M8=>CX aB H s E e' M8) s'
def vS{sc:Scope}(h:sc.names.lookup x=some .cell):∃c,(cellsFrom n sc.names []).lookup x=some c:=by
 have q:=W.cellsFrom_some sc.names n [] (.inl h);exact Option.isSome_iff_exists.mp q
def Cc{CX:D3}{P:Program}{w:World}{K:W.Frag}{mg:Str->Option Value}{base:Heap}{N ps:List Str}{qual:Str}{scope:Scope}{f:Addr}{cd:Value}{A:Around}{aB:List Env}{s s1:Shared}{H:Hp}{E:XK}{us:List Value}{vs:List V}
  (S:dg N ps scope) (hd:A.handled=none) (e0:Env0 P w K mg base A aB s H) (hl:vs.length=ps.length) (r:Vals vs us)
  (x:InCallC s s.heap.objs.size (bindL (envOfC qual scope s.heap.objs.size f cd).kindOf (ps.zip us) λ_=>none) (cellsFrom (s.heap.objs.size+1) scope.names []) (bindC (envOfC qual scope s.heap.objs.size f cd).kindOf (ps.zip us) λ_=>none) s1) :
  Inv (fN CX P w K mg base N qual scope f cd A aB s H E) [] (start N vs) H s1:=by
 have kJ:ps.length<=N.length:=by have:=fj List.length S.pre;rw[cY]at this;lia
 obtain⟨h1,tk,rfl,hk⟩:=x.done;have noA:∀b:Addr,b∉(fN CX P w K mg base N qual scope f cd A aB s H E).ex:=λb z=>absurd (show b∈([]:List Addr)from z) (by simp)
 refine⟨⟨e0.mod,S.kind,rfl,rfl,ao _,λy z c h1 h2=>?_,λy hy=>?_,λy c _ h=>?_,λ_=>hd,Around.frames_deeper e0.frames,.inr ⟨rfl,rfl⟩,λb z=>absurd z (noA b),e0.bs,e0.bsz,λb _ _=>noA b,λb z=>absurd z (noA b),e0.funs,e0.frf,e0.tabs⟩,
  rfl,e0.bare,Un.kept hk,⟨_,x.toInCall.ns,λi y v h1 h2 h3=>?_⟩,λy c h=>⟨_,x.cell y c h⟩,e0.hok.fresh (ao _),λy c h=>?_,λp hp=>absurd (show p∈([]:List (Addr×Obj))from hp) (by simp),e0.hok.kept hk,?_⟩
 ·exact name_of_addr x.apart (d9 h1) (d9 h2)
 ·have hy:=hy;rcases hy with hy | hy
  ·exact vS hy
  ·exact absurd rfl (S.nofree _ (d9 hy))
 ·exact ud (x.above y c (d9 h))
 ·have hi:i<vs.length:=by
   unfold start at h2;by_cases hi:i<vs.length
   ·exact hi
   ·grind
  have ha:vs[i]?=some v:=by
   unfold start at h2;rw[nL (by grind),aX]at h2
   cases e:vs[i]? with
   | none=>rw[e]at h2;cases h2
   | some a=>rw[e]at h2;cases h2;rfl
  obtain⟨u,hu,rv⟩:=r.get ha;have hp:ps[i]?=some y:=by
   rw[<-S.pre,List.getElem?_take_of_lt (by lia)];exact h1
  have YD:ps.Nodup:=by rw[<-S.pre];exact S.nd.sublist (oi _ _)
  refine⟨u,rv,?_⟩;rcases S.par y (eV hp)with k | k
  ·exact .inl ⟨k,rG YD hp hu k⟩
  ·obtain⟨c,e⟩:=vS k;refine .inr ⟨.inl k,c,e,?_⟩;have q:=x.cell y c e;rw[rH YD hp hu (by show scope.names.lookup y≠_;rw[k];decide)]at q
   exact q
 ·exact e0.hok.fresh (ud (x.above y c (d9 h)))
 ·unfold start;show _=N.length;rw[bC,ah,xS]
  lia
def Rh{CX:D3}{P:Program}{w:World}{K:W.Frag}{mg:Str->Option Value}{base:Heap}{k:Nat}{f:Addr}{name qual:Str}{pq9:Arguments}{body:List Stmt}{scope:Scope}{dV kV doc pm eA ct oc:Value}{an od:Option Addr}
  {xC:Array (Option Value)} {N ps:List Str} {sp:Sp} (lk:K.lookup f=some ⟨oc,od,.func (W.fnOf name qual pq9 body scope dV kV doc pm an eA ct),xC⟩) (DK:W.codeIn K eA qual=true) (S:dg N ps scope)
  (len:∀vs H Q E,sp vs H Q E->vs.length=ps.length)
  (hbody:∀(A:Around) (aB:List Env) (s:Shared) (H:Hp) (vs:List V) (Q:VK) (E:XK),dU k (A.deeper (envOfC qual scope s.heap.objs.size f eA))->sp vs H Q E ->
   ∃t,PSs (fN CX P w K mg base N qual scope f eA A aB s H E) body t/\t {nx:=λ_ H'=>Q .aK H',rt:=Q} (start N vs) H) :
  FnOk P w K mg base CX (k+1) f (W.fnOf name qual pq9 body scope dV kV doc pm an eA ct) ps sp:=by
 refine⟨len,λA aB s H args us vs Q E hr e0 hb r Qf=>?_⟩
 have hl:=len _ _ _ _ Qf;have KX:=e0.mod.kin.keeps λb o e=>(e0.bs b o e).1
 have lim:=e0.mod.nolimit.keeps λb o e=>(e0.bs b o e).1
 have Rj:∀y∈ps.zip us,scope.names.lookup y.1=some .local\/(scope.names.lookup y.1=some .cell/\((cellsFrom (s.heap.objs.size+1) scope.names []).lookup y.1).isSome=true):=by
  rintro⟨n,v⟩ hy
  rcases S.par n (lR hy).1 with q | q
  ·grind
  ·exact .inr ⟨q,W.cellsFrom_some _ _ _ (.inl q)⟩
 refine codeAny_call_function hr.depth (KX _ _ lk) rfl S.co S.gen rfl (W.codeRec_of KX DK) (hb _ _ _ _ ?_);refine wpAny_newFunctionEnv_cells S.kind Rj λenv he s1 x=>?_
 subst he;refine⟨lim.keeps x.toInCall.keep,codeAny_func ?_⟩;obtain⟨t,ht,hq⟩:=hbody A aB s H vs Q E (hr.deeper _) Qf;have I:Inv (fN CX P w K mg base N qual scope f eA A aB s H E) [] (start N vs) H s1:=Cc S hr.hd e0 hl r x;refine oH (ht [] s1 (start N vs) H _ I hq) (λfl s' hs=>?_) λe s' hs=>hs
 have iS:∀{bA:St} {H':Hp} {v:V} {u:Value},Inv (fN CX P w K mg base N qual scope f eA A aB s H E) [] bA H' s'->RelV v u->Q v H'->CE aB P w H s Q u s' :=
  λ{bA H' v u} J rv q=>⟨v,H',J.os,J.bare,J.base,J.hok,rv,q⟩
 cases fl with
 | ret u =>
  obtain⟨v,bA,H',J,rv,q⟩:=hs;exact iS J rv q
 | next =>
  obtain⟨bA,H',J,q⟩:=hs;exact iS (v:=V.aK) J rfl q
 | brk =>
  obtain⟨_,_,_,q⟩:=hs;exact False.elim q
 | cont =>
  obtain⟨_,_,_,q⟩:=hs;exact False.elim q
section
variable {X:Cx} {x:Str} {p pos:Pos} {e:Expr} {es:List Expr} {t:TA} {id T:String} {r:List V->Hp->VK->Prop}
def V8(r:List V->Hp->VK->Prop)(t:TA):TE:=λσ H Q=>t σ H λvs H1=>r vs H1 Q
def iT(hc:jB X (.builtin id) r)(hg:Gl X x)(hm:X.mg x=none)(hv:bootBuiltins x=some (.builtin id))(ha:PA X (e::es) t)(hn:x≠"__name__":=by decide)(AD:(x==("__debug__":Str))=false:=by decide)
  (he:starEach (e::es) X.env=(false,eval e X.env)::starEach es X.env:=by rfl) (kJ:(backTo pos (starEach es X.env)).any (·.1)=false:=by rfl):PE X (.Call (.Name x p) (e::es) [] pos) (V8 r t):=by
 intro ae s σ H Q I h;refine iJ (ld_blt I hg hm hv ?_ hn AD);exact DV (thn (ha pos ae s σ H _ I h) (by rintro us s1 ⟨vs,H1,I1,r1,q1⟩;exact hc ae s1 σ H1 vs us Q I1 r1 q1)) he kJ
def l7(hc:jB X (.type T) r)(hg:Gl X x)(hm:X.mg x=none)(hv:bootBuiltins x=some (.type T))(ha:PA X (e::es) t)(hn:x≠"__name__":=by decide)(AD:(x==("__debug__":Str))=false:=by decide)
  (he:starEach (e::es) X.env=(false,eval e X.env)::starEach es X.env:=by rfl) (kJ:(backTo pos (starEach es X.env)).any (·.1)=false:=by rfl):PE X (.Call (.Name x p) (e::es) [] pos) (V8 r t):=by
 intro ae s σ H Q I h;refine iJ (ld_blt I hg hm hv ?_ hn AD);exact d7 (thn (ha pos ae s σ H _ I h) (by rintro us s1 ⟨vs,H1,I1,r1,q1⟩;exact hc ae s1 σ H1 vs us Q I1 r1 q1)) he kJ
end
end L2
namespace HT
open PySem PyProof.Rows
section
variable {prog:Program} {w:World} {A:Around} {E:Value->Shared->Prop} {s:Shared}
def AE(ht:IsTup s.heap t vs.toArray)(hb:IsTup s.heap b ws.toArray)(hv:vs≠[])
  (h1:ws=[]->Q (.ref t) s) (h2:ws≠[]->Q (.ref s.heap.objs.size) {s with heap:=s.heap.push {cls:=.type "tuple",data:=.seq (vs++ws).toArray}})
  (hsz:vs.length+ws.length<=sizeLine):wpAny (model prog w) A (binaryOp .Add (.ref t) (.ref b)) Q E s:=by
 obtain⟨⟨cls,dd,data,sl⟩,ho,hc,n,hd⟩:=id ht;obtain⟨⟨V9,UT,Rk,UU⟩,M9,Rm,n2,Rq⟩:=id hb;simp only at hc hd Rm Rq;subst hc hd Rm Rq;have e:vs.toArray++ws.toArray=(vs++ws).toArray:=by simp
 by_cases hw:ws=[]
 ·exact concat_meets ⟨_,ho,rfl⟩ ⟨_,M9,rfl⟩ ym seq_tuple_add xQ xO (xJ _ _)
   (tuple_addW1 t b vs.toArray ws.toArray n n2 dd UT sl UU (by grind) (by simp[hw])) ⟨ho,M9,h1 hw⟩
 ·refine concat_meets ⟨_,ho,rfl⟩ ⟨_,M9,rfl⟩ ym seq_tuple_add xQ xO (xJ _ _)
   (tuple_addW2 t b vs.toArray ws.toArray n n2 dd UT sl UU (by grind) (by grind) (by grind)) ⟨ho,M9,?_⟩
  rw[e];exact h2 hw
noncomputable def dy(n d:Nat):Option Int->Nat
 | none=>d
 | some v=>if v<0 then(v+(n:Int)).toNat else min v.toNat n
def oX(n d:Nat):dy n d none=d:=rfl
def nq(n d k:Nat):dy n d (some (k:Int))=min k n:=by
 show(if(k:Int)<0 then((k:Int)+(n:Int)).toNat else min (k:Int).toNat n)=min k n
 rw[if_neg (by lia),iM]
def Na(n d:Nat)(hd:d<=n)(o:Option Int):dy n d o<=n:=by
 cases o with
 | none=>exact hd
 | some v =>
  show(if v<0 then(v+(n:Int)).toNat else min v.toNat n)<=n
  by_cases hv:v<0
  ·grind
  ·grind
def AF(v:Int)(n d:Nat):(if v<0 then max (v+(n:Int)) 0 else min v (n:Int))=((dy n d (some v):Nat):Int):=by
 show(if v<0 then max (v+(n:Int)) 0 else min v (n:Int))=(((if v<0 then(v+(n:Int)).toNat else min v.toNat n):Nat):Int)
 by_cases hv:v<0
 ·grind
 ·grind
def yO(lo hi:Option Int)(n:Nat):Builtin.Slice.sliceAdjust lo hi 1 (n:Int)=(((dy n 0 lo:Nat):Int),((dy n n hi:Nat):Int)):=by
 have h1:¬(1<0):=by lia
 unfold Builtin.Slice.sliceAdjust;simp only[h1,cu];refine Prod.ext ?_ ?_
 ·cases lo with
  | none=>rfl
  | some v=>exact AF v n 0
 ·cases hi with
  | none=>rfl
  | some v=>exact AF v n n
def yP(i j:Nat):Builtin.Slice.slicePlaces (i:Int) (j:Int) 1=j-i:=by
 unfold Builtin.Slice.slicePlaces;have h1:1>0:=by lia
 simp only[h1,dE,Int.ediv_one];split<;>lia
def oY(p:IsPart v o)(h:Q o s):wpAny (model prog w) A (Builtin.Slice.slicePartIndex v) Q E s:=by
 cases p with
 | none=>exact slicePart_none h
 | int i t=>exact slicePart_int h
def gE{vl vu:Value}{lo hi:Option Int}{n:Nat}{Q:Int×Int×Nat->Shared->Prop}(hs:s.heap.IsSliceOf sl vl vu .none)(pl:IsPart vl lo)(pu:IsPart vu hi)
  (h:Q (((dy n 0 lo:Nat):Int),1,dy n n hi-dy n 0 lo) s):wpAny (model prog w) A (Builtin.Slice.sliceApplied (.ref sl) (pure (n:Int))) Q E s:=by
 obtain⟨os,Ic,UW,Lv⟩:=id hs;unfold Builtin.Slice.sliceApplied Builtin.Slice.sliceFields;refine af (af (cb Ic Lv rfl (af (cb Ic Lv rfl (af (cb Ic Lv rfl (ai ?_)))))));refine af (slicePart_none ?_);rw[if_neg (by decide)]
 refine af (oY pl (af (oY pu (af (ai ?_)))));show wpAny _ _ (match Builtin.Slice.sliceAdjust lo hi 1 (n:Int)with | (lo,hi)=>pure (lo,(1:Int),Builtin.Slice.slicePlaces lo hi 1)) _ _ s
 rw[yO lo hi n];show wpAny _ _ (pure (((dy n 0 lo:Nat):Int),(1:Int),Builtin.Slice.slicePlaces ((dy n 0 lo:Nat):Int) ((dy n n hi:Nat):Int) 1)) _ _ s;rw[yP];exact ai h
def EN(xs:Array Value)(i k:Nat):((List.range k).filterMap fun(m:Nat)=>xs[((i:Int)+(m:Int)*1).toNat]?).toArray=((xs.toList.drop i).take k).toArray:=by
 have e:(fun(m:Nat)=>xs[(i+(m:Int)*1).toNat]?)=λm=>xs[i+m]?:=by
  grind
 rw[e];have:=pick_run xs i k;rw[List.filterMap_map]at this;have e2:((λx=>xs[x]?) ∘ λx=>i+x)=λm=>xs[i+m]?:=rfl
 rw[e2]at this;rw[this]
def kK{items:Array Value}{vl vu:Value}{lo hi:Option Int}{Q:Value->Shared->Prop}(ht:IsTup s.heap t items)(hs:s.heap.IsSliceOf sl vl vu .none)(pl:IsPart vl lo)(pu:IsPart vu hi)
  (hw:¬(dy items.size 0 lo=0/\dy items.size items.size hi=items.size))
  (h:Q (.ref s.heap.objs.size) {s with heap:=s.heap.push {cls:=.type "tuple",data:=.seq ((items.toList.drop (dy items.size 0 lo)).take (dy items.size items.size hi-dy items.size 0 lo)).toArray}})
  (hsz:items.size<=sizeLine):wpAny (model prog w) A (getItem (.ref t) (.ref sl)) Q E s:=by
 have AG:sizeOk (.seq ((items.toList.drop (dy items.size 0 lo)).take (dy items.size items.size hi-dy items.size 0 lo)).toArray):=by
  show((items.toList.drop (dy items.size 0 lo)).take (dy items.size items.size hi-dy items.size 0 lo)).toArray.size<=sizeLine;rw[bV,cY,tQ,lL]
  lia
 have hj:dy items.size items.size hi<=items.size:=Na _ _ (ao _) hi;obtain⟨os,Ic,UW,Lv⟩:=id hs;have hTs:s.TypeIs (.ref sl) "slice":=⟨os,Ic,UW⟩;unfold getItem
 try with_reducible refine cR ?_
 first | refine af (ai ?_) | skip
 refine af (wpAny_sequenceKey ht.typeIs (by decide) ?_)
 refine af (eS ht.typeIs lJ
  (eX lJ ht.typeIs entry_tuple_getitem ?_ (args_tuple_getitem _ _)))
 show wpAny _ _ (Builtin.Tuple.tupleItemsOf (.ref t) >>= _) _ _ s;refine af (tupleItemsOf_ ht ?_);refine af (jS hTs ?_);rw[if_pos (by decide)]
 refine af (gE hs pl pu ?_);have Wa:¬((((dy items.size 0 lo:Nat):Int)==0&&(1:Int)==1&&(dy items.size items.size hi-dy items.size 0 lo)==items.size)=true):=by
  grind
 show wpAny _ _ (if(((dy items.size 0 lo:Nat):Int)==0&&(1:Int)==1&&(dy items.size items.size hi-dy items.size 0 lo)==items.size)=true then _ else _) _ _ s
 rw[if_neg Wa,EN]
 first
  | exact af (m:=Builtin.Tuple.tupleExact _) (jJ (ai ⟨_,rfl,ai h⟩) AG)
  | exact af (m:=Builtin.Tuple.tupleExact _) (jJ (af (ai (ai ⟨_,rfl,ai h⟩))) AG)
  | exact af (af (m:=Builtin.Tuple.tupleExact _) (jJ (ai (ai ⟨_,rfl,ai h⟩)) AG))
  | exact af (af (m:=Builtin.Tuple.tupleExact _) (jJ (ai ⟨_,rfl,ai h⟩) AG))
end
end HT
namespace L2
open PySem PySem.Spec PyProof.Rows
abbrev TO:=St->Hp->(Option Int->Hp->Prop)->Prop
def PO(X:Cx)(e:Option Expr)(t:TO):Prop :=
 ∀(ae:List (Addr×Obj)) (s:Shared) (σ:St) (H:Hp) (Q:Option Int->Hp->Prop),Inv X ae σ H s->t σ H Q ->
  wpAny (model X.prog X.w) X.A (evalPart e X.env) (λu s'=>∃o H',Inv X ae σ H' s'/\IsPart u o/\Q o H') X.xe s
def Jh:TO:=λ_ H Q=>Q none H
def Rt(t:TE):TO:=λσ H Q=>t σ H λx H1=>∃i,x=.int i/\Q (some i) H1
def yQ:∀{us:List Value},Vals (ns.map V.int) us->IntsAre us ns:=by
 induction ns with
 | nil=>intro us r;rw[bL]at r;cases r;exact .nil
 | cons n ns ih =>
  intro us r;rw[aA]at r;cases r with
  | cons r1 r2 =>
   obtain⟨t,e⟩:=r1;subst e;exact .cons n t (ih r2)
section
variable {X:Cx} {e:Expr} {te:TE} {lo hi:Option Expr} {tl th:TO} {pos p2:Pos}
def Ji:PO X none Jh:=by
 intro ae s σ H Q I h;rw[evalPart_none];exact ai ⟨none,H,I,.none,h⟩
def Jj(h:PE X e te):PO X (some e) (Rt te):=by
 intro ae s σ H Q I hw;rw[evalPart_some];refine thn (h ae s σ H _ I hw) λu s1 ⟨x,H1,I1,r1,q1⟩=>?_
 obtain⟨i,rfl,q⟩:=q1;obtain⟨t,rfl⟩:=r1;exact⟨some i,H1,I1,.int i t,q⟩
def UX(X:Cx)(r:V->Option Int->Option Int->Hp->VK->Prop):Prop :=
 ∀(ae:List (Addr×Obj)) (s:Shared) (σ:St) (H:Hp) (x:V) (v vl vu:Value) (lo hi:Option Int) (sl:Addr) (Q:VK),Inv X ae σ H s->RelV x v->s.heap.IsSliceOf sl vl vu .none->IsPart vl lo->IsPart vu hi->r x lo hi H Q ->
  ∃T id,typeLookup (.type T) "__getitem__"=pure (some (.builtin id))/\s.TypeIs v T/\wpAny (model X.prog X.w) X.A (getItem v (.ref sl)) (EP X ae σ Q) X.xe s
def YE(r:V->Option Int->Option Int->Hp->VK->Prop)(te:TE)(tl th:TO):TE:=λσ H Q=>te σ H λx H1=>tl σ H1 λl H2=>th σ H2 λu H3=>r x l u H3 Q
def EO{r:V->Option Int->Option Int->Hp->VK->Prop}(hr:UX X r)(he:PE X e te)(hl:PO X lo tl)(hu:PO X hi th):PE X (.Subscript e (.Slice lo hi none p2) pos) (YE r te tl th):=by
 intro ae s σ H Q I h;refine Subscript_ (thn (he ae s σ H _ I h) λv s1 ⟨x,H1,I1,r1,q1⟩=>?_)
 refine wpAny_Slice (thn (hl ae s1 σ H1 _ I1 q1) λvl s2 ⟨l,H2,I2,pl,q2⟩=>thn (hu ae s2 σ H2 _ I2 q2) λvu s3 ⟨u,H3,I3,pu,q3⟩=>?_)
 rw[evalPart_none];refine ai ?_;have I4:Inv X ae σ H3 {s3 with heap:=s3.heap.push {cls:=.type "slice",data:=.fields #[vl,vu,.none]}}:=I3.kept λb ob q=>ax _ q
 obtain⟨T,id,hT,ht,hg⟩:=hr ae {s3 with heap:=s3.heap.push {cls:=.type "slice",data:=.fields #[vl,vu,.none]}} σ H3 x v vl vu l u s3.heap.objs.size Q I4 r1 (Heap.IsSliceOf.new ..) pl pu q3
 show wpAny (model X.prog X.w) X.A (subscriptTail e (.Slice lo hi none p2) v (.ref s3.heap.objs.size)) (EP X ae σ Q) X.xe {s3 with heap:=s3.heap.push {cls:=.type "slice",data:=.fields #[vl,vu,.none]}}
 exact lY ht hT hg (by with_unfolding_all rfl)
def vT(xs:List V)(lo hi:Option Int):List V:=(xs.drop (HT.dy xs.length 0 lo)).take (HT.dy xs.length xs.length hi-HT.dy xs.length 0 lo)
def mC(xs:List V)(lo hi:Option Int):(vT xs lo hi).length<=xs.length:=by
 unfold vT;rw[cY,tQ]
 lia
def Wb(K:W.Frag):V->Option Int->Option Int->Hp->VK->Prop:=λx lo hi H Q=>∃a xs,x=.ref a/\fw K H a xs /\
 ¬(HT.dy xs.length 0 lo=0/\HT.dy xs.length xs.length hi=xs.length)/\∀p,H p=none->Q (.ref p) (cf H p (.ag (vT xs lo hi)))
def Nb:UX X (Wb X.K):=by
 intro ae s σ H x v vl vu lo hi sl Q I rx hs pl pu h;obtain⟨a,xs,rfl,hx,hw,q⟩:=h;cases rx;obtain⟨ak,r,ht,hz⟩:=I.tuple hx;have dj:ak.toArray.size=xs.length:=by rw[bV];exact r.length.symm
 refine⟨"tuple",_,lJ.lookup,ht.typeIs,?_⟩;refine HT.kK ht hs pl pu (by grind) ?_ (by grind)
 rw[dj];refine⟨.ref s.heap.objs.size,_,I.laid (λb ob q=>ax _ q) (ao _) ?_,rfl,q _ (I.hok.fresh (ao _))⟩
 exact⟨aM (mC xs lo hi) hz,_,(r.drop (HT.dy xs.length 0 lo)).take (HT.dy xs.length xs.length hi-HT.dy xs.length 0 lo),mV.new _ _⟩
def Ru(K:W.Frag):R2:=λx y H Q=>∃a b xs ys,x=.ref a/\y=.ref b/\fw K H a xs/\fw K H b ys/\xs≠[]/\xs.length+ys.length<=sizeLine /\
 (ys=[]->Q (.ref a) H)/\(ys≠[]->∀p,H p=none->Q (.ref p) (cf H p (.ag (xs++ys))))
def Vals.kL(r:Vals xs us):us=[]↔xs=[]:=by
 cases r with
 | nil=>simp
 | cons _ _=>simp
def Jk:OpR X (binaryOp .Add) (Ru X.K):=by
 intro ae s σ H x y v u Q I rx ry h;obtain⟨a,b,xs,ys,rfl,rfl,ha,hb,hx,hz,q1,q2⟩:=h;cases rx;cases ry;obtain⟨ak,r1,p1,_⟩:=I.tuple ha;obtain⟨cD,r2,p2,_⟩:=I.tuple hb;refine HT.AE p1 p2 (λz=>hx (r1.kL.mp z)) (λz=>⟨.ref a,H,I,rfl,q1 (r2.kL.mp z)⟩) (λz=>?_) (by rw[<-r1.length,<-r2.length];exact hz)
 refine⟨.ref s.heap.objs.size,_,I.laid (λb ob q=>ax _ q) (ao _) ?_,rfl,q2 (λw=>z (r2.kL.mpr w)) _ (I.hok.fresh (ao _))⟩
 exact⟨by grind,_,r1.append r2,mV.new _ _⟩
end
noncomputable def Ie(n:Nat)(i:Int):Option Nat:=if 0<=i then(if i<n then some i.toNat else none)else if -(n:Int)<=i then some (i+n).toNat else none
def oZ{α:Type}(xs:List α)(i:Int):Option α:=(Ie xs.length i).bind λj=>xs[j]?
def AH(h:Ie n i=some j):seqIndex? i n=some j/\j<n /\ -(n:Int)<=i/\i<n:=by
 unfold Ie at h;by_cases h0:0<=i
 ·rw[if_pos h0]at h;by_cases h1:i<n
  ·rw[if_pos h1]at h;have e:=bI h;exact⟨by rw[seqIndex_of h0 h1,e],by lia,by lia,h1⟩
  ·grind
 ·rw[if_neg h0]at h;by_cases h1:-n<=i
  ·rw[if_pos h1]at h;have e:=bI h;exact⟨by rw[seqIndex_neg (by lia) h1,e],by lia,h1,by lia⟩
  ·grind
def uq{α:Type}{xs:List α}{i:Int}{v:α}(h:oZ xs i=some v):∃j,seqIndex? i xs.length=some j/\xs[j]?=some v/\j<xs.length /\ -(xs.length:Int)<=i/\i<xs.length:=by
 unfold oZ at h;cases e:Ie xs.length i with
 | none=>rw[e]at h;cases h
 | some j =>
  rw[e]at h;obtain⟨h1,h2,h3,h4⟩:=AH e;exact⟨j,h1,h,h2,h3,h4⟩
def atI_nat{α:Type}{xs:List α}{j:Nat}{v:α}(h:xs[j]?=some v):oZ xs (j:Int)=some v:=by
 have hj:=(b8.mp h).1;have e:Ie xs.length j=some j:=by
  unfold Ie;rw[if_pos (by lia),if_pos (by lia)];simp
 unfold oZ;rw[e];exact h
def kM(b:Expr):Prop:=∀o i,subscripted b false o i=operate [o,i] (getItem o i)
def Qg(X:Cx)(r:R2):Prop :=
 ∀(value slice:Expr) (ae:List (Addr×Obj)) (s:Shared) (σ:St) (H:Hp) (x y:V) (v u:Value) (Q:VK),Inv X ae σ H s->RelV x v->RelV y u->r x y H Q ->
  subscripted slice false v u=operate [v,u] (getItem v u)->wpAny (model X.prog X.w) X.A (subscriptTail value slice v u) (EP X ae σ Q) X.xe s
def Nc(X:Cx)(id:String)(r:V->List V->Hp->VK->Prop):Prop :=
 ∀(ae:List (Addr×Obj)) (s:Shared) (σ:St) (H:Hp) (x:V) (xs:List V) (v:Value) (us:List Value) (Q:VK),Inv X ae σ H s->RelV x v->Vals xs us->r x xs H Q ->
  wpAny (model X.prog X.w) X.A (call (.builtin id) (v::us)) (EP X ae σ Q) X.xe s
section
variable {X:Cx} {a b:Expr} {ta tb:TE} {pos:Pos}
def ER(hr:Qg X r)(ha:PE X a ta)(hb:PE X b tb)(hs:kM b):PE X (.Subscript a b pos) (MS r ta tb):=by
 intro ae s σ H Q I h;exact Subscript_ (IV ha hb I h λv u s2 x y H2 I2 rx ry q=>hr a b ae s2 σ H2 x y v u Q I2 rx ry q (hs _ _))
def Wc(K:W.Frag):R2:=λx y H Q=>∃p xs i v,x=.ref p/\y=.int i/\uk K H p xs/\oZ xs i=some v/\Q v H
def Wd(K:W.Frag):R2:=λx y H Q=>∃p xs i v,x=.ref p/\y=.int i/\fw K H p xs/\oZ xs i=some v/\Q v H
def We:R2:=λx y H Q=>∃z i c,x=.str z/\y=.int i/\z.length<=sizeLine/\oZ z.cps.toList i=some c/\Q (.str ⟨#[c]⟩) H
def Jl:Qg X (Wc X.K):=by
 intro value slice ae s σ H x y v u Q I rx ry h hs;obtain⟨p,xs,i,z,rfl,rfl,hq,he,q⟩:=h;cases rx;obtain⟨t,rfl⟩:=ry;obtain⟨ak,r,pl,hz⟩:=I.list hq;obtain⟨j,h1,h2,h3,h4,h5⟩:=uq he;obtain⟨w,ew,Jm⟩:=r.get h2;have hl:=r.length;have hn:=jV;have iS:EP X ae σ Q w s:=⟨z,H,I,Jm,q⟩;by_cases h0:0<=i
 ·have hj:i.toNat=j:=by
   rw[seqIndex_of h0 h5]at h1;exact bI h1
  exact item_listR pl.isList h0 (by lia) (by grind) iS hs
 ·have hj:(i+(ak.toArray.size:Int)).toNat=j:=by
   rw[seqIndex_neg (by lia) h4]at h1
   rw[bV,<-hl];exact bI h1
  exact subscriptTail_builtinR pl.isList.typeIs slot_list_getitem.lookup
   (wpAny_getItem_list_neg pl.isList (by lia) (by grind) (by lia) (by grind) ⟨rfl,iS⟩) hs
def Nd:Qg X (Wd X.K):=by
 intro value slice ae s σ H x y v u Q I rx ry h hs;obtain⟨p,xs,i,z,rfl,rfl,hq,he,q⟩:=h;cases rx;obtain⟨t,rfl⟩:=ry;obtain⟨ak,r,pl,hz⟩:=I.tuple hq;obtain⟨j,h1,h2,h3,h4,h5⟩:=uq he;obtain⟨w,ew,Jm⟩:=r.get h2;have hl:=r.length;have hn:=jV;have iS:EP X ae σ Q w s:=⟨z,H,I,Jm,q⟩;exact subscriptTail_builtinR pl.typeIs slot_tuple_getitem.lookup
  (getItem_tuple pl (by lia) (by lia) (by rw[bV,<-hl];exact h1) (by grind) ⟨rfl,iS⟩) hs
def Nf:Qg X We:=by
 intro value slice ae s σ H x y v u Q I rx ry h hs;obtain⟨z,i,c,rfl,rfl,hz,he,q⟩:=h;obtain⟨t,rfl⟩:=rx;obtain⟨t',rfl⟩:=ry;obtain⟨j,h1,h2,h3,h4,h5⟩:=uq he;have hl:z.cps.toList.length=z.length:=by simp[Str.length]
 rw[hl]at h1 h4 h5;have hn:=jV;exact lY (typeIs_str s z t) slot_str_getitem.lookup (getItem_str (by
  grind) (by grind) ⟨.str ⟨#[c]⟩,H,I.tok _,⟨_,rfl⟩,q⟩) hs
def yR(ak:List Value)(n j:Nat)(u:Value):Obj.mapSeq (·.setIfInBounds j u) {cls:=.type "list",data:=.seq ak.toArray n}={cls:=.type "list",data:=.seq (ak.set j u).toArray n}:=by
 simp[Obj.mapSeq]
def Inv.lst{ae:List (Addr×Obj)}{σ:St}{H:Hp}{s:Shared}{p:Addr}{xs:List V}(I:Inv X ae σ H s)(h:H p=some (.lst xs)) :
  ∃(ak:List Value) (n:Nat),Vals xs ak/\s.heap.get? p=some {cls:=.type "list",data:=.seq ak.toArray n}/\xs.length<=sizeLine:=by
 obtain⟨z,ak,n,r,e⟩:=I.hok p _ h;exact⟨ak,n,r,e,z⟩
def Inv.Ng{ae:List (Addr×Obj)}{σ:St}{H:Hp}{s:Shared}{p:Addr}{xs ys:List V}{ak mW:List Value}{n n':Nat}{f:Obj->Obj}(I:Inv X ae σ H s)(h:H p=some (.lst xs))
  (ho:s.heap.get? p=some {cls:=.type "list",data:=.seq ak.toArray n}) (hf:f {cls:=.type "list",data:=.seq ak.toArray n}={cls:=.type "list",data:=.seq mW.toArray n'}) (r:Vals ys mW) (hz:ys.length<=sizeLine) (t:Nat) :
  Inv X ae σ (cf H p (.lst ys)) {s with heap:=s.heap.update p f,toks:=t}:=by
 have e:(s.heap.update p f).get? p=some {cls:=.type "list",data:=.seq mW.toArray n'}:=by
  rw[iG f ho (by rw[hf]<;>rfl),hf]
 refine I.write (by rw[h];trivial) (.inl rfl) (λb u hb q=>(iE _ _ (bj hb)).trans q) ⟨_,e⟩ ?_
 exact⟨hz,mW,n',r,e⟩
def Rv:V->V->V->Hp->(Hp->Prop)->Prop:=λo i v H Q=>∃p xs k j,o=.ref p/\i=.int k/\H p=some (.lst xs)/\Ie xs.length k=some j/\Q (cf H p (.lst (xs.set j v)))
def ES:Ez X Rv:=by
 intro ae s σ H o i v ov iv u Q I ro ri rv h;obtain⟨p,xs,k,j,rfl,rfl,hp,hj,q⟩:=h;cases ro;obtain⟨t,rfl⟩:=ri;obtain⟨ak,n,r,ho,hz⟩:=I.lst hp;obtain⟨h1,h2,h3,h4⟩:=AH hj;have hl:=r.length;have hn:=jV;have I':Inv X ae σ (cf H p (.lst (xs.set j v))) {s with heap:=s.heap.update p (Obj.mapSeq (·.setIfInBounds j u))} :=
  I.Ng hp ho (yR ak n j u) (r.set rv j) (by grind) s.toks
 by_cases h0:0<=k
 ·have hk:k.toNat=j:=by
   rw[seqIndex_of h0 h4]at h1;exact bI h1
  exact W.ki_setAt ho h0 (by lia) (by grind) (by grind)
 ·have hk:(k+(ak.toArray.size:Int)).toNat=j:=by
   rw[seqIndex_neg (by lia) h3]at h1
   rw[bV,<-hl];exact bI h1
  exact W.ki_setBack ho (by lia) (by grind) (by lia) (by grind)
def uu(lo hi:Option Int)(n:Nat):(sliceBounds lo hi none n).1=((HT.dy n 0 lo:Nat):Int)/\(sliceBounds lo hi none n).2.1=((HT.dy n n hi:Nat):Int)/\(sliceBounds lo hi none n).2.2=1:=by
 refine⟨?_,?_,rfl⟩
 ·cases lo with
  | none=>simp[sliceBounds,HT.dy]
  | some i =>
   simp only[sliceBounds,HT.dy,yj,show 1>0 by decide,dE]
   by_cases h:i<0
   ·grind
   ·grind
 ·cases hi with
  | none=>simp[sliceBounds,HT.dy]
  | some i =>
   simp only[sliceBounds,HT.dy,yj,show 1>0 by decide,dE]
   by_cases h:i<0
   ·grind
   ·grind
def qJ(ak:List Value)(lo hi:Option Int):slicePick ak.toArray lo hi none=((ak.drop (HT.dy ak.length 0 lo)).take (HT.dy ak.length ak.length hi-HT.dy ak.length 0 lo)).toArray:=by
 obtain⟨h1,h2,h3⟩:=uu lo hi ak.toArray.size;unfold slicePick;rw[h1,h2,h3];simp only[sliceRange_one,pick_run,bV]<;>rfl
def Wf(K:W.Frag):V->Option Int->Option Int->Hp->VK->Prop:=λx lo hi H Q=>∃a xs,x=.ref a/\uk K H a xs/\∀p,H p=none->Q (.ref p) (cf H p (.lst (vT xs lo hi)))
def Jn:UX X (Wf X.K):=by
 intro ae s σ H x v vl vu lo hi sl Q I rx hs pl pu h;obtain⟨a,xs,rfl,hx,q⟩:=h;cases rx;obtain⟨ak,r,ht,hz⟩:=I.list hx;have dj:=r.length;refine⟨"list",_,slot_list_getitem.lookup,ht.isList.typeIs,?_⟩;refine wpAny_getItem_list_slice ht.isList hs pl pu .none (by simp) ?_ (by grind)
 rw[qJ,<-dj];refine⟨.ref s.heap.objs.size,_,I.laid (λb ob q=>ax _ q) (ao _) ?_,rfl,q _ (I.hok.fresh (ao _))⟩
 exact⟨aM (mC xs lo hi) hz,_,0,(r.drop (HT.dy xs.length 0 lo)).take (HT.dy xs.length xs.length hi-HT.dy xs.length 0 lo),aZ _ rfl⟩
def kN:jB X (.builtin "len") (λxs H Q=>∃p ys,xs=[.ref p]/\(uk X.K H p ys\/fw X.K H p ys)/\Q (.int ys.length) H):=by
 intro ae s σ H xs us Q I r h;obtain⟨p,ys,rfl,hq,q⟩:=h;obtain⟨u,rfl,rx⟩:=ip r;cases rx;have hn:=jV;rcases hq with hq | hq
 ·obtain⟨ak,r',pl,hz⟩:=I.list hq;have dj:=r'.length;exact Calls.call_len_list pl.isList (by grind) ⟨.int ys.length,H,I.tok _,⟨s.toks+1,by grind⟩,q⟩
 ·obtain⟨ak,r',pl,hz⟩:=I.tuple hq;have dj:=r'.length;exact len_tuple pl (by grind) ⟨.int ys.length,H,I.tok _,⟨s.toks+1,by grind⟩,q⟩
def uv:jB X (.builtin "len") (λxs H Q=>∃z,xs=[.str z]/\z.length<=sizeLine/\Q (.int z.length) H):=by
 intro ae s σ H xs us Q I r h;obtain⟨z,rfl,hz,q⟩:=h;obtain⟨u,rfl,t,rfl⟩:=ip r;have hn:=jV;exact len_str (by lia) ⟨.int z.length,H,I.tok _,⟨_,rfl⟩,q⟩
def jC:jB X (.type "tuple") (λxs H Q=>∃p ys,xs=[.ref p]/\((uk X.K H p ys/\∀l,H l=none->Q (.ref l) (cf H l (.ag ys)))\/(fw X.K H p ys/\Q (.ref p) H))):=by
 intro ae s σ H xs us Q I r h;obtain⟨p,ys,rfl,h⟩:=h;obtain⟨u,rfl,rx⟩:=ip r;cases rx;rcases h with⟨hq,q⟩ | ⟨hq,q⟩
 ·obtain⟨ak,r',pl,hz⟩:=I.list hq;have dj:=r'.length;refine call_tuple_list pl.isList (λh' kp=>?_) (by grind)
  have I1:=I.kept (t':=s.toks) kp;have I2:Inv X ae σ (cf H h'.objs.size (.ag ys)) {s with heap:=h'.push {cls:=.type "tuple",data:=.seq ak.toArray}} :=
   I1.laid (λb o e=>ax _ e) (ao _) (⟨hz,ak,r',mV.new _ _⟩)
  exact⟨.ref h'.objs.size,_,I2,rfl,q _ (I1.hok.fresh (ao _))⟩
 ·obtain⟨ak,r',pl,hz⟩:=I.tuple hq;exact call_tuple_same pl ⟨.ref p,H,I,rfl,q⟩
def tyV(K:W.Frag)(T:String)(x:V)(H:Hp):Prop:=match x with
 | .str _=>T="str"
 | .int _=>T="int"
 | .ref p=>(T="list"/\∃xs,uk K H p xs)\/(T="tuple"/\∃o,K.lookup p=some o/\o.cls=.type "tuple"/\o.dict=none) \/
   (T="dict"/\((∃kvs,H p=some (.dK kvs))\/∃kvs,H p=some (.dT kvs)))\/(T="set"/\∃S n,H p=some (.set S n))
 | _=>False
def ET{ae:List (Addr×Obj)}{σ:St}{H:Hp}{s:Shared}{T:String}{x:V}{v:Value}(I:Inv X ae σ H s)(r:RelV x v)(ty:tyV X.K T x H) :
  s.TypeIs v T/\∀a,v=.ref a->∃ob,s.heap.get? a=some ob/\ob.dict=none:=by
 cases x with
 | str z =>
  obtain⟨t,rfl⟩:=r;cases(ty);exact⟨typeIs_str s z t,λ_ e=>nomatch e⟩
 | int i =>
  obtain⟨t,rfl⟩:=r;cases(ty);exact⟨oJ s i t,λ_ e=>nomatch e⟩
 | ref p =>
  cases r;rcases ty with⟨rfl,xs,hq⟩ | ⟨rfl,o,hk,hc,hd⟩ | ⟨rfl,hk⟩ | ⟨rfl,S,n,hk⟩
  ·obtain⟨ak,_,pl,_⟩:=I.list hq;refine⟨pl.isList.typeIs,λa e=>?_⟩
   cases e;obtain⟨o,n,e,c,hd,_⟩:=pl;exact⟨o,e,hd⟩
  ·refine⟨⟨o,I.oN p o hk,hc⟩,λa e=>?_⟩
   cases e;exact⟨o,I.oN _ o hk,hd⟩
  ·have z:∃o,s.heap.get? p=some o/\o.ExactDict:=by
    rcases hk with⟨kvs,hk⟩ | ⟨kvs,hk⟩
    ·obtain⟨_,_,_,_,o,_,_,e,ex,_⟩:=I.hok p _ hk;exact⟨o,e,ex⟩
    ·obtain⟨_,_,o,_,_,e,ex,_⟩:=(I.hok p _ hk);exact⟨o,e,ex⟩
   obtain⟨o,e,ex⟩:=z;refine⟨⟨o,e,ex.1⟩,λa e2=>?_⟩
   cases e2;exact⟨o,e,ex.2.1⟩
  ·obtain⟨o,_,_,_,e,ex,_⟩:=I.hok p _ hk;refine⟨⟨o,e,ex.1⟩,λa e2=>?_⟩
   cases e2;exact⟨o,e,ex.2.1⟩
 | _=>exact False.elim ty
def Rx(K:W.Frag)(T:String)(r:V->List V->Hp->VK->Prop)(to:TE):TE:=λσ H Q=>to σ H λx H1=>tyV K T x H1/\r x [] H1 Q
def YF(K:W.Frag)(T:String)(r:V->List V->Hp->VK->Prop)(to:TE)(t:TA):TE:=λσ H Q=>to σ H λx H1=>tyV K T x H1/\t σ H1 λxs H2=>r x xs H2 Q
variable {o e:Expr} {es:List Expr} {to:TE} {t:TA} {name:Str} {kC fW:Pos} {T id:String} {r:V->List V->Hp->VK->Prop}
def EU(pa:PlainAttrs T)(slot:Slot T name id)(Wg:typeOf (.builtin id)=pure (.type "method_descriptor"))(hm:Nc X id r)(ho:PE X o to)
  (f9:attributeBase o name X.env (eval o X.env)=eval o X.env:=by rfl) (fx:(kC.endLine==fW.line)=true:=by rfl):PE X (.Call (.Attribute o name kC) [] [] fW) (Rx X.K T r to):=by
 intro ae s σ H Q I h;refine wpAny_Call_method0_late f9 fx (thn (ho ae s σ H _ I h) λv s1 z9=>?_)
 obtain⟨x,H1,I1,r1,ty,q1⟩:=z9;obtain⟨h1,h2⟩:=ET I1 r1 ty;exact⟨T,id,pa,slot,Wg,h1,h2,Calls.callWith_builtin rfl (PySem.evalArgs_none (hm ae s1 σ H1 x [] v [] Q I1 r1 .nil q1))⟩
def o6(pa:PlainAttrs T)(slot:Slot T name id)(Wg:typeOf (.builtin id)=pure (.type "method_descriptor"))(hm:Nc X id r)(ho:PE X o to)(ha:PA X (e::es) t)
  (f9:attributeBase o name X.env (eval o X.env)=eval o X.env:=by rfl)
  (qK:((backTo fW (starEach (e::es) X.env)).all (λx=>!x.1)&&(backToKw fW (keywordEach [] X.env)).all (λx=>x.1.isSome)
   && decide ((e::es).length+([]:List Keyword).length+(if([]:List Keyword).isEmpty then 0 else 1)<30))=true:=by rfl)
  (fx:(kC.endLine==fW.line)=true:=by rfl) (hs:starEach (e::es) X.env=(false,eval e X.env)::starEach es X.env:=by rfl) (Wh:(backTo fW (starEach es X.env)).any (·.1)=false:=by rfl) :
  PE X (.Call (.Attribute o name kC) (e::es) [] fW) (YF X.K T r to t):=by
 intro ae s σ H Q I h;refine wpAny_Call_method_late f9 qK fx rfl (thn (ho ae s σ H _ I h) λv s1 z9=>?_)
 obtain⟨x,H1,I1,r1,ty,q1⟩:=z9;obtain⟨h1,h2⟩:=ET I1 r1 ty;refine⟨T,id,pa,slot,Wg,h1,h2,?_⟩;have hA:=ha fW ae s1 σ H1 _ I1 q1;rw[hs]at hA ⊢;refine Calls.callWith_builtin (by grind) (Calls.evalArgs_plain ?_)
 exact thn hA (by rintro us s2 ⟨vs,H2,I2,r2,q2⟩;exact hm ae s2 σ H2 x vs v us Q I2 r1 r2 q2)
end
def UY(X:Cx)(id:String)(r:V->List V->Hp->VK->Prop):Prop :=
 ∀(ae:List (Addr×Obj)) (s:Shared) (σ:St) (H:Hp) (x:V) (xs:List V) (v:Value) (us:List Value) (Q:VK),Inv X ae σ H s->RelV x v->Vals xs us->r x xs H Q ->
  wpAny (model X.prog X.w) X.A (call (.builtin id) (v::us)) (EP X ae σ Q) X.xe s
theorem Vals.one:∀{x:V} {us:List Value},Vals [x] us->∃u,us=[u]/\RelV x u
 | _,_,.cons r .nil=>⟨_,rfl,r⟩
def Vals.two{x y:V}{us:List Value}(h:Vals [x,y] us):∃u v,us=[u,v]/\RelV x u/\RelV y v:=by
 cases h with
 | cons r h=>cases h with
  | cons q h=>cases h;exact⟨_,_,rfl,r,q⟩
theorem Vals.zero:∀{us:List Value},Vals [] us->us=[]
 | _,.nil=>rfl
theorem Vals.eraseIdx:∀{xs:List V} {us:List Value} (i:Nat),Vals xs us->Vals (xs.eraseIdx i) (us.eraseIdx i)
 | _,_,_,.nil=>.nil
 | _,_,0,.cons _ t=>t
 | _,_,i+1,.cons r t=>.cons r (Vals.eraseIdx i t)
def Vals.reverse(h:Vals xs us):Vals xs.reverse us.reverse:=by
 induction h with
 | nil=>exact .nil
 | cons r t ih=>rw[tP,tP];exact Vals.append ih (.cons r .nil)
section
variable {X:Cx} {ae:List (Addr×Obj)} {σ:St} {H:Hp} {s:Shared} {l b:Addr} {xs ys zs:List V}
def Inv.Jo{ak mW:List Value}{n:Nat}{f:Array Value->Array Value}{t':Nat}(I:Inv X ae σ H s)(hH:H l=some (.lst xs))
  (e:s.heap.get? l=some {cls:=.type "list",data:=.seq ak.toArray n}) (hf:f ak.toArray=mW.toArray) (hv:Vals ys mW) (hz:ys.length<=sizeLine) :
  Inv X ae σ (cf H l (.lst ys)) {s with heap:=s.heap.update l (Obj.mapSeq f),toks:=t'}:=by
 have q:=PySem.IsL.update e f;rw[hf]at q;refine I.write (by rw[hH];exact trivial) (.inl rfl) (λb' u hb hu=>(iE s.heap (Obj.mapSeq f) (bj hb)).trans hu) ⟨_,q⟩ ?_
 exact⟨hz,mW,_,hv,q⟩
def Inv.Nh(I:Inv X ae σ H s)(hv:Vals ys ak)(hz:ys.length<=sizeLine) :
  Inv X ae σ (cf H s.heap.objs.size (.lst ys)) {s with heap:=s.heap.push {cls:=.type "list",data:=.seq ak.toArray},toks:=t'} :=
 I.laid (λ_ _ q=>ax _ q) (ao _) ⟨hz,ak,0,hv,aZ _ rfl⟩
def Inv.fresh(I:Inv X ae σ H s):H s.heap.objs.size=none:=I.hok.fresh (ao _)
def Inv.gu(I:Inv X ae σ H s)(hH:H l=some (.lst xs)):xs.length<=sizeLine/\∃(ak:List Value) (n:Nat),Vals xs ak/\xs.length=ak.length/\s.heap.get? l=some {cls:=.type "list",data:=.seq ak.toArray n}:=by
 obtain⟨z,ak,n,r,e⟩:=I.hok l _ hH;exact⟨z,ak,n,r,r.length,e⟩
def vU(h:n<=sizeLine):Builtin.List.listTooLong n=false:=by
 unfold Builtin.List.listTooLong;exact aV (by lia)
end
section
variable {X:Cx}
def AI:V->List V->Hp->VK->Prop:=λx vs H Q=>∃l xs y,x=.ref l/\vs=[y]/\H l=some (.lst xs)/\xs.length<sizeLine/\Q .aK (cf H l (.lst (xs++[y])))
def Cd:UY X "list.append" AI:=by
 intro ae s σ H x vs v us Q I rx rv h;obtain⟨l,xs,y,rfl,rfl,hH,hz,q⟩:=h;cases rx;obtain⟨u,rfl,ru⟩:=rv.one;obtain⟨z,ak,n,r,hl,e⟩:=I.gu hH;refine dD F.slot_list_append ⟨_,e,rfl⟩ F.entry_list_append (F.args_list_append_2 _ _) (PySem.list_append l ak.toArray n u (by grind)) ⟨e,?_⟩
 refine⟨.aK,_,I.Jo hH e (by simp) (r.append (.cons ru .nil)) ?_,rfl,q⟩
 rw[bC,nT]
 lia
def vV:V->List V->Hp->VK->Prop:=λx vs H Q=>∃l xs,x=.ref l/\vs=[]/\H l=some (.lst xs)/\Q .aK (cf H l (.lst xs.reverse))
def yS:UY X "list.reverse" vV:=by
 intro ae s σ H x vs v us Q I rx rv h;obtain⟨l,xs,rfl,rfl,hH,q⟩:=h;cases rx;have Wi:=rv.zero;subst Wi;obtain⟨z,ak,n,r,hl,e⟩:=I.gu hH;refine dD F.slot_list_reverse ⟨_,e,rfl⟩ F.entry_list_reverse (F.args_list_reverse_1 _) (AutoSeq1.list_reverse_list_0 l ak.toArray n (by grind)) ⟨e,?_⟩
 refine⟨.aK,_,I.Jo hH e (by simp) r.reverse ?_,rfl,q⟩
 rw[List.length_reverse]
 lia
end
end L2
namespace YG
open PySem PySem.W PySem.Calls PyProof.Rows
def mY:∀(ns:List Int) (vs:List Value),WellAll P h vs (ns.map WData.int)->IntsAre vs ns:=by
 intro ns;induction ns with
 | nil =>
  intro vs w;rw[bL]at w;cases w;exact .nil
 | cons n ns ih =>
  intro vs w;rw[aA]at w;cases w with
  | cons a b =>
   cases a;exact .cons _ _ (ih _ b)
def Ce{l:OpenLaw}(hn:l.most=some n) 
  (Jp:l.row.toRowW.claim.pre args=true) (Wj:WellAll P h Ry args) :
  ∃a vs ns,Ry=[Value.ref a]/\args=[WData.list (ns.map WData.int)]/\h.get? a=some {cls:=.type "list",data:=.seq vs.toArray}/\IntsAre vs ns/\ns.length<=n:=by
 have hsh:=(pre_splitW Jp).1;have hc:l.pre.holds [] {args:=args}=true:=(pre_splitW Jp).2
 obtain⟨d,r,rfl,h1,h2⟩:=hasAllW_cons hsh;obtain rfl:=hasAllW_nil h2;obtain⟨xs,rfl,h3⟩:=hasW_list h1;obtain⟨ns,rfl⟩:=items_int h3;have dj:ns.length<=n:=by
  unfold OpenLaw.pre at hc;have h4:(WTm.not (.lt (.lit (.int n)) (.len (.arg 0)))).holds [] {args:=[.list (ns.map .int)]}=true:=by
   have h4:=(holds_andW hc).1;rw[hn]at h4;exact h4
  have h5:=condW_of h4 (w_not (w_lt w_lit (w_len_list (w_arg rfl))));rw[ah]at h5;refine yp λq=>?_
  have q':n<(ns.length:Nat):=by lia
  first
   | (rw[aP q']at h5;exact absurd h5 (by decide))
   | (simp at h5;lia)
 cases Wj with
 | cons w1 w2 =>
  cases w2;cases w1 with
  | list ho vW=>exact⟨_,_,ns,rfl,rfl,ho,mY ns _ vW,dj⟩
def Cf(l:OpenLaw)(args:List WData):l.row.toRowW.claim.post args (.bool true) args=true :=
 postW_of
  (show WShape.has [] (.bool true) .bool=true by first | rfl | decide | simp[WShape.has,WShape.arms,WShape.armsAll])
  (w_eq_bool (w_res rfl) w_lit) rfl
def vX{l:OpenLaw}{n:Nat}{loose:List Str}{XP:(Str->Option Value)->Heap->Prop}{YP:World->Heap->Prop}{d:DefRec}
  (hn:l.most=some n) (Wk:d.params.defaults=[])
  (call:∀(w:World) (s₀ s₁:Shared) (mg mb:Str->Option Value) (fa:Addr) (o:Obj) (pm cd doc:Value) (a:Addr) (vs:List Value) (ns:List Int),
   Ground q loose [] XP w s₀ mg mb s₁.heap->YP w s₁.heap ->
   s₁.heap.get? fa=some o->o.data=.func (docDef d.name d.params d.body d.scope pm cd doc)->s₁.heap.CodeRec cd d.name->mg d.name=some (.ref fa) ->
   s₁.heap.get? a=some {cls:=.type "list",data:=.seq vs.toArray}->IntsAre vs ns->ns.length<=n->s₁.gens=#[] ->
   codeAny (model l.prog w) callerA (.call (.ref fa) ⟨[.ref a],[]⟩) (λr s'=>r=.ok (.ret (.bool true))/\OldK s₁.heap s'.heap/\s'.os=s₁.os/\AllBare s'.gens) s₁) :
  WalkO q loose XP YP l.row.toRowW d [] (λf vs=>PySem.call f vs):=by
 intro w s₀ s₁ mg mb G Y fa o pm cd doc dV kV ho hd DK hD DM hg args Ry as Jp aat hrd Wj hlo;obtain rfl:dV=.none:=Dflts.none hD Wk;obtain rfl:kV=.none:=Dflts.noKw hD;obtain⟨a,vs,ns,rfl,rfl,EV,EW,dj⟩:=Ce hn Jp Wj;refine enter_call (lV (call w s₀ s₁ mg mb fa o pm cd doc a vs ns G Y ho (fd_plain hd) DK DM EV EW dj hg) λr s' hq=>?_)
 obtain⟨rfl,h2,h3,h4⟩:=hq;exact⟨.inl ⟨.bool true,.bool true,[],rfl,λ_=>rfl,.bool true,Cf l _,λ_=>⟨List.Pairwise.nil,λ_ hm=>(nomatch hm)⟩⟩,h2,h3,h4⟩
end YG
namespace L2
open PySem PySem.Spec PyProof.Rows
theorem rJ:∀{vs:List Value} {ns:List Int},IntsAre vs ns->Vals (ns.map V.int) vs
 | _,_,.nil=>.nil
 | _,_,.cons n t h=>.cons ⟨t,rfl⟩ (rJ h)
def Cg{P:Program}{w:World}{K:W.Frag}{mg mb:Str->Option Value}{CX:D3}{k:Nat}{fa a:Addr}{fd:FuncData}{x:Str}{sp:Sp}{s₁:Shared}{vs:List Value}{ns:List Int}{tabs:List (Addr×Str)}
  (KX:K.In s₁.heap) (Jq:s₁.heap.Ns mainGlobals mg) (hb:s₁.heap.Ns builtinsNs mb) (UZ:∀x:Str,x≠"__name__"->mb x=bootBuiltins x) (yT:s₁.heap.NoLimit) (hg:s₁.gens=#[])
  (hT:∀b q,tabs.lookup b=some q->s₁.heap.get? b=some {cls:=.none,data:=.fields #[]}/\isCodeTable s₁.heap b/\K.lookup b=none) (hTI:∀H:Hp,(∀b q,tabs.lookup b=some q->H b=some (.kn q))->oM K H)
  (ha:s₁.heap.get? a=some {cls:=.type "list",data:=.seq vs.toArray}) (hi:IntsAre vs ns) (hl:ns.length<=sizeLine) (hr:dU k callerA)
  (F:∀base:Heap,K.In base->base.Ns mainGlobals mg->FnOk P w K mg base CX k fa fd [x] sp) (Rz:∀(s:Shared) (u:Value),BindsTo s fd ⟨[u],[]⟩ [(x,u)])
  (Qf:∀H:Hp,gC K H a (ns.map V.int)->sp [.ref a] H (λv _=>v=.bl true) λ_ _ _=>False) (hCX:∀H e s',CX [] H s₁ (λ_ _ _=>False) e s'->False) :
  codeAny (model P w) callerA (.call (.ref fa) ⟨[.ref a],[]⟩) (λr s'=>r=.ok (.ret (.bool true))/\OldK s₁.heap s'.heap/\s'.os=s₁.os/\AllBare s'.gens) s₁:=by
 have rv:=rJ hi;have jW:=hi.length
 let oa:Obj:={cls:=.type "list",data:=.seq vs.toArray}
 let H:Hp:=λb=>if b=a/\K.lookup a=none then some (.vD oa (.lst (ns.map V.int)))else(tabs.lookup b).map HO.kn
 have Wl:∀b,H b=if b=a/\K.lookup a=none then some (.vD oa (.lst (ns.map V.int)))else(tabs.lookup b).map HO.kn:=λ_=>rfl
 have hHt:∀b q,tabs.lookup b=some q->H b=some (.kn q):=λb q e=>by
  grind
 have hH:∀b u,H b=some u->(b=a/\K.lookup a=none/\u=.vD oa (.lst (ns.map V.int)))\/∃q,tabs.lookup b=some q/\u=.kn q:=λb u e=>by
  rw[Wl]at e;by_cases h:b=a/\K.lookup a=none
  ·grind
  ·rw[if_neg h]at e;cases z:tabs.lookup b with
   | none=>rw[z]at e;cases e
   | some q=>rw[z]at e;cases e;exact .inr ⟨q,rfl,rfl⟩
 have hS:gC K H a (ns.map V.int):=by
  cases hk:K.lookup a with
  | some o =>
   have e:=KX a o hk;rw[ha]at e;cases e;exact .inr ⟨vs,_,hk,by grind,rv⟩
  | none=>exact .inl (.inr ⟨oa,by grind⟩)
 have hok:ko P w H s₁.heap:=λb u e=>by
  rcases hH b u e with⟨rfl,_,rfl⟩ | ⟨q,hq,rfl⟩
  ·exact⟨ha,by grind,vs,_,rv,ha⟩
  ·exact⟨#[],(hT b q hq).1,trivial,λpos cv z=>by cases z⟩
 have noD:∀{b:Addr} {o:Obj} {es:Array DictEntry} {ep:Nat},s₁.heap.get? b=some o->o.data=.dict es ep->H b=none:=λ{b o es ep} e d=>by
  cases q:H b with
  | none=>rfl
  | some u =>
   rcases hH b u q with⟨rfl,_,_⟩ | ⟨t,ht,_⟩
   ·grind
   ·grind
 have U0:∀{b:Addr} {m:Str->Option Value},s₁.heap.Ns b m->(vL s₁.heap H).Ns b m:=λ{b m} ⟨o,es,ep,e,d,r⟩=>⟨o,es,ep,hidT_get e (noD e d),d,r⟩
 have YH:K.In (vL s₁.heap H):=λb o e=>hidT_get (KX b o e) (by
  cases q:H b with
  | none=>rfl
  | some u =>
   rcases hH b u q with⟨rfl,z,_⟩ | ⟨t,ht,_⟩
   ·grind
   ·rw[(hT b t ht).2.2]at e;cases e)
 have hM:Mod K mg (vL s₁.heap H):=⟨YH,U0 Jq,⟨mb,U0 hb,UZ⟩,let ⟨mc,h1,h2⟩:=yT;⟨mc,U0 h1,h2⟩⟩
 have e0:Env0 P w K mg (vL s₁.heap H) callerA [] s₁ H:=⟨rfl,hM,λb o e=>of_hidT e,iQ (BZ _ _),trivial,λb hb=>absurd (show b∈([]:List Addr)from hb) (by simp),hok,.of_eq hg,hTI H hHt⟩
 refine lV ((F _ YH (U0 Jq)).run callerA [] s₁ H ⟨[.ref a],[]⟩ [.ref a] [.ref a] _ _ hr e0 (Rz s₁ (.ref a)) (.cons rfl .nil) (Qf H hS)) λr s' h=>?_
 cases r with
 | error e=>exact(hCX H e s' h).elim
 | ok fl =>
  cases fl with
  | next=>exact False.elim h
  | brk=>exact False.elim h
  | cont=>exact False.elim h
  | ret u =>
   obtain⟨v,H',os,bare,un,RA,r',q⟩:=h;have q':=q;subst q';obtain rfl:u=Value.bool true:=r';have noF:∀b:Addr,b∉kE []:=λb z=>absurd (show b∈([]:List Addr)from z) (by simp)
   refine⟨rfl,⟨λb o e=>?_,λb o e=>un.there b o e (by simp)⟩,os,bare⟩
   cases q:H b with
   | none=>exact .inl (un.keep b o e q (noF b) (by simp))
   | some u =>
    rcases hH b u q with⟨rfl,_,rfl⟩ | ⟨t,ht,rfl⟩
    ·obtain⟨e2,_⟩:=RA b _ (un.frzs b _ _ q);rw[ha]at e;cases e;exact .inl e2
    ·obtain⟨h1,h2,_⟩:=hT b t ht;obtain⟨ps,e2,_⟩:=(RA b _ (un.tbls b _ q));rw[h1]at e;cases e;exact .inr (.inl ⟨h2,rfl,#[],ps,rfl,by grind⟩)
abbrev E0:XK:=λ_ _ _=>False
def b7(H H':Hp):Prop:=∀b o,H b=some o->H' b=some o
def b7.refl(H:Hp):b7 H H:=λ_ _ h=>h
def b7.trans(a:b7 H H1)(b:b7 H1 H2):b7 H H2:=λc o h=>b c o (a c o h)
def b7.free(e:b7 H H')(h:H' l=Option.none):H l=Option.none:=by
 cases q:H l with
 | none=>rfl
 | some o =>
  rw[e l o q]at h;cases h
def b7.seq{K:W.Frag}{H H':Hp}{a:Addr}{xs:List V}(e:b7 H H')(h:uk K H a xs):uk K H' a xs:=by
 rcases h with(h | ⟨o,h⟩) | h
 ·exact .inl (.inl (e _ _ h))
 ·exact .inl (.inr ⟨o,e _ _ h⟩)
 ·exact .inr h
section
variable {κ:Type} [DecidableEq κ]
noncomputable def fX(kvs:List (κ×V))(k:κ):Option V:=(kvs.find? λkv=>decide (kv.1=k)).map (·.2)
noncomputable def putK(kvs:List (κ×V))(k:κ)(v:V):List (κ×V) :=
 if(kvs.any λkv=>decide (kv.1=k))=true then kvs.map (λkv=>if kv.1=k then(kv.1,v)else kv)else kvs++[(k,v)]
def kO{p:κ×V}{r:List (κ×V)}{k:κ}(e:p.1=k):fX (p::r) k=some p.2:=by simp[fX,oA,e]
def kP{p:κ×V}{r:List (κ×V)}{k:κ}(e:¬p.1=k):fX (p::r) k=fX r k:=by simp[fX,oA,e]
theorem o7(k:κ):∀kvs:List (κ×V),(kvs.any λkv=>decide (kv.1=k))=(fX kvs k).isSome
 | []=>rfl
 | p::r=>by
  rw[lU];by_cases e:p.1=k
  ·simp only[kO e,aP e,Bool.true_or,Option.isSome_some]
  ·rw[kP e,aV e,Bool.false_or];exact o7 k r
def EX{kvs:List (κ×V)}{k:κ}(v:V)(h:fX kvs k=none):putK kvs k v=kvs++[(k,v)]:=by
 unfold putK;rw[o7,h];exact if_neg (by decide)
def uh.rK{o:Option V}{u:Option Value}(r:uh o u):o.isSome=u.isSome:=by
 cases o with
 | none=>cases u with
  | none=>rfl
  | some _=>exact(show False from r).elim
 | some _=>cases u with
  | none=>exact(show False from r).elim
  | some _=>rfl
def KV.val{kvs:List (κ×V)}{vs:List (κ×Value)}(r:KV kvs vs)(k:κ):uh (fX kvs k) (valueAt vs k):=by
 unfold KV at r;induction r with
 | nil=>exact True.intro
 | @cons p q ps qs h t ih =>
  obtain⟨h1,h2⟩:=h;by_cases e:p.1=k
  ·have e':q.1=k:=by grind
   have b:valueAt (q::qs) k=some q.2:=by simp[valueAt,oA,e']
   rw[kO e,b];exact h2
  ·have e':¬q.1=k:=by grind
   have b:valueAt (q::qs) k=valueAt qs k:=by simp[valueAt,oA,e']
   rw[kP e,b];exact ih
def KV.any{kvs:List (κ×V)}{vs:List (κ×Value)}(r:KV kvs vs)(k:κ):(kvs.any λkv=>decide (kv.1=k))=vs.any λkv=>decide (kv.1=k):=by
 unfold KV at r;induction r with
 | nil=>rfl
 | cons h t ih=>rw[lU,lU,ih,h.1]
def KV.Wm{kvs:List (κ×V)}{vs:List (κ×Value)}(r:KV kvs vs)(k:κ){y:V}{u:Value}(ry:RelV y u) :
  KV (kvs.map λkv=>if kv.1=k then(kv.1,y)else kv) (vs.map λkv=>if kv.1=k then(kv.1,u)else kv):=by
 unfold KV at r ⊢;induction r with
 | nil=>exact .nil
 | @cons p q ps qs h t ih =>
  rw[aA,aA];refine .cons ?_ ih;obtain⟨h1,h2⟩:=h;by_cases e:p.1=k
  ·grind
  ·grind
def KV.put{kvs:List (κ×V)}{vs:List (κ×Value)}(r:KV kvs vs)(k:κ){y:V}{u:Value}(ry:RelV y u):KV (putK kvs k y) (stored vs k u):=by
 unfold putK stored;rw[r.any k];by_cases e:(vs.any λkv=>decide (kv.1=k))=true
 ·rw[if_pos e,if_pos e];exact r.Wm k ry
 ·rw[if_neg e,if_neg e];exact Paired.snoc r ⟨rfl,ry⟩
theorem KV.length{kvs:List (κ×V)}{vs:List (κ×Value)}(r:KV kvs vs):kvs.length=vs.length:=iP r
end
def mD{P:Program}{w:World}{k:cC}{u:Value}(r:RelV (kV k) u):(bD P w).is k u=true:=by
 cases k with
 | inl i=>obtain⟨t,e⟩:=(show ∃t,u=Value.int i t from r);subst e;exact vI P w i t
 | inr x=>obtain⟨t,e⟩:=(show ∃t,u=Value.str x t from r);subst e;exact vJ P w x t
theorem rL{P:Program}{w:World}:∀{ks:List cC} {us:List Value},Vals (ks.map kV) us->ItemsAre (bD P w) ks us
 | [],_,r=>by rw[bL]at r;cases r;exact .nil
 | k::ks,_,r=>by
  rw[aA]at r;cases r with
  | cons h t=>exact .cons (mD h) (rL t)
section
variable {P:Program} {w:World} {H:Hp} {h:Heap} {a:Addr}
def Lw{u:HO}(ok:ko P w H h)(e:Rd H a u):eG P w H h a u:=e.ok ok
def AJ{kvs:List (cC×V)}(ok:ko P w H h)(e:Rd H a (.dK kvs)):kvs.length<=sizeLine/\(a==sysModules)=false/\∃vs,KV kvs vs/\h.DictOf (bD P w) a vs :=
 show eG P w H h a (.dK kvs)from Lw ok e
def EY{kvs:List (cC×V)}(ok:ko P w H h)(e:H a=some (.dK kvs)):kvs.length<=sizeLine/\(a==sysModules)=false/\∃vs,KV kvs vs/\h.DictOf (bD P w) a vs:=AJ ok (.inl e)
end
section
variable {X:Cx} {ae:List (Addr×Obj)} {σ:St} {H:Hp} {s:Shared} {a b:Addr} {k:List cC} {v:V} {r:Value} {A:Around} {E:Value->Shared->Prop} {xs:List (List cC×Addr×Value)}
def key_is(I:Inv X ae σ H s)(e:fw X.K H a (k.map kV)):(tupleKind (bD X.prog X.w)).is s.heap k a:=by
 obtain⟨ak,r,⟨o,h1,h2,n,h3⟩,_⟩:=I.tuple e;exact⟨o,ak.toArray,n,h1,h2,h3,by simpa using rL r⟩
def rM(I:Inv X ae σ H s)(e:Rd H a (.dT xs))(hk:ee X.K H xs):xs.length<=sizeLine/\(a==sysModules)=false/\s.heap.DictOfH (tupleKind (bD X.prog X.w)) a xs:=by
 obtain⟨z,y,o,es,ep,h1,h2,h3,h4,h5⟩:=(show eG X.prog X.w H s.heap a (.dT xs)from Lw I.hok e)
 exact⟨z,y,o,es,ep,h1,h2,h3,h4,λx hx=>key_is I (hk x hx),h5⟩
def RB{Q:Value->Shared->Prop}(hu:A.units+1<cLine)(I:Inv X ae σ H s)(e:Rd H a (.dT xs))(hk:ee X.K H xs)(eb:fw X.K H b (k.map kV))(h:∀s',Inv X ae σ H s'->Q (.bool (atKey xs k).isSome) s') :
  wpAny (model X.prog X.w) A (compareOp .In (.ref b) (.ref a)) Q E s:=by
 obtain⟨_,hd,dd⟩:=rM I e hk;exact wpAny_in_heap (og hu) (key_is I eb) hd dd (h _ (I.tok _))
def RC{Q:Value->Shared->Prop}(hu:A.units+1<cLine)(I:Inv X ae σ H s)(e:Rd H a (.dT xs))(hk:ee X.K H xs)(eb:fw X.K H b (k.map kV)) (h:∀s',Inv X ae σ H s'->Q (.bool (!(atKey xs k).isSome)) s') :
  wpAny (model X.prog X.w) A (compareOp .NotIn (.ref b) (.ref a)) Q E s:=by
 obtain⟨_,hd,dd⟩:=rM I e hk;exact wpAny_notIn_heap (og hu) (key_is I eb) hd dd (h _ (I.tok _))
def RD{Q:Value->Shared->Prop}{p:Addr×Value}(hu:A.units+1<cLine)(I:Inv X ae σ H s)(e:Rd H a (.dT xs))(hk:ee X.K H xs)(eb:fw X.K H b (k.map kV))(hp:atKey xs k=some p)(h:∀s',Inv X ae σ H s'->Q p.2 s') :
  wpAny (model X.prog X.w) A (getItem (.ref a) (.ref b)) Q E s:=by
 obtain⟨_,hd,dd⟩:=rM I e hk;exact wpAny_getItem_heap (og hu) (key_is I eb) dd hp (h _ (I.tok _))
def yU{κ:Type} [DecidableEq κ] (xs:List (κ×Addr×Value)) (k:κ) (a:Addr) (v:Value):(storedH xs k a v).length<=xs.length+1:=by
 unfold storedH;split
 ·grind
 ·grind
def Ni{Q:Unit->Shared->Prop}(hu:A.units+1<cLine)(I:Inv X ae σ H s)(e:H a=some (.dT xs))(hk:ee X.K H xs)(eb:fw X.K H b (k.map kV))(hl:xs.length<sizeLine)
  (h:∀s',Inv X ae σ (cf H a (.dT (storedH xs k b r))) s'->Q () s'):wpAny (model X.prog X.w) A (setItem (.ref a) (.ref b) r) Q E s:=by
 obtain⟨_,hd,dd⟩:=rM I (.inl e) hk;refine wpAny_setItem_heap (hsz:=ud hl) (og hu) (key_is I eb) dd λh' Nj hs=>h _ ?_
 obtain⟨q,es,ep,hq,h2,h3,h4,_,h5⟩:=Nj;exact I.write (x:=a) (e:=a) (by rw[e];exact True.intro) (.inl rfl) (λc q' hc z=>(hs.2 c hc).trans z) ⟨q,hq⟩ ⟨(by have:=yU xs k b r;lia),hd,q,es,ep,hq,h2,h3,h4,h5⟩
def iU(I:Inv X ae σ H s):sysModules<s.heap.objs.size:=gT (by decide) (show mainGlobals<s.heap.objs.size from(I.mod.glob.keeps I.bk).lt)
def Lx(o:HO):TE:=λ_ H Q=>∀p,H p=none->Q (.ref p) (cf H p o)
def Jr{pos:Pos}:PE X (.Dict [] [] pos) (Lx (.dT [])):=λae s σ H Q I h =>
 wpAny_Dict_empty ⟨.ref s.heap.objs.size,_,I.laid (a:=s.heap.objs.size) (o:=.dT []) (t':=s.toks) (λ_ _ q=>ax _ q) (ao _)
  ⟨fg _,fK.mpr (bj (aN (iU I))),_,#[],0,aZ _ rfl,⟨rfl,rfl,rfl⟩,rfl,rfl,jM⟩,rfl,h _ (I.hok.fresh (ao _))⟩
def Ci{κ:Type} [DecidableEq κ] (xs:List (κ×Addr×Value)) (k:κ):(atKey xs k).isSome=(xs.map (·.1)).any λj=>decide (j=k):=by
 unfold atKey;rw[Option.isSome_map,List.any_map,List.isSome_find?];rfl
end
def EZ(mg:Str->Option Value)(base:Heap):Prop:=∃bm o,mg "__builtins__"=some (.ref bm)/\bm≠builtinsNs/\bm≠mainGlobals/\base.get? bm=some o/\o.cls=.type "module"/\o.dict=some builtinsNs/\o.data=.plain
end L2
namespace L2.U
open PySem PySem.Spec PyProof.Rows
def nw{α:Sort u}(a:α):∃x,x=a:=⟨_,rfl⟩
noncomputable abbrev PV.lst (ps:List PV):PV:=.nd .lst ps
structure Gr (F F':Fz):Prop where
 s:b7 F.F F'.F
 m:∀(n:Nat) (a:Addr),F.μ[n]?=some a->F'.μ[n]?=some a
def Gr.refl(F:Fz):Gr F F:=⟨b7.refl _,λ_ _ h=>h⟩
def Gr.trans(a:Gr F F1)(b:Gr F1 F2):Gr F F2:=⟨a.s.trans b.s,λn c h=>b.m n c (a.m n c h)⟩
def aS{K:W.Frag}(e:b7 H H')(h:fw K H a xs):fw K H' a xs:=by
 rcases h with(h | ⟨o,h⟩) | h
 ·exact .inl (.inl (e _ _ h))
 ·exact .inl (.inr ⟨o,e _ _ h⟩)
 ·exact .inr h
def Js(e:b7 H H')(h:Rd H a u):Rd H' a u:=h.imp (e _ _) (by rintro⟨o,q⟩;exact⟨o,e _ _ q⟩)
def gF{K:W.Frag}(e:b7 H H')(h:gC K H a xs):gC K H' a xs:=h.imp (Js e) id
def _root_.L2.gC.of{K:W.Frag}(h:H a=some (.lst xs)):gC K H a xs:=.inl (.inl h)
section
variable {K:W.Frag} {F F':Fz}
def jU.to(h:jU K G H a x k vs)(g:b7 G G')(e:∀o,H a=some o->H' a=some o)(hy:y=true->x=true):jU K G' H' a y k vs:=by
 have keys:∀{xs:List (List cC×Addr×Value)},ee K G xs->ee K G' xs:=λhk z hz=>aS g (hk z hz)
 match k,h with
 | .ag,⟨h1,h2⟩ =>
  refine⟨?_,?_⟩
  ·grind
  ·rcases h2 with(h2 | ⟨o,h2⟩) | h2
   ·exact .inl (.inl (e _ h2))
   ·exact .inl (.inr ⟨o,e _ h2⟩)
   ·exact .inr h2
 | .lst,h =>
  cases y with
  | true=>rw[hy rfl]at h;exact e _ h
  | false =>
   cases x with
   | true=>exact gC.of (e _ h)
   | false =>
    rcases(h)with(h | ⟨o,h⟩) | h
    ·exact .inl (.inl (e _ h))
    ·exact .inl (.inr ⟨o,e _ h⟩)
    ·exact .inr h
 | .ins C ns,⟨Ca,dx,fs,h1,h2,h3,h4,h5⟩=>exact⟨Ca,dx,fs,h1,h2,h3,e _ h4,h5⟩
 | .eR false ks,⟨kvs,h1,h2⟩=>exact⟨kvs,e _ h1,h2⟩
 | .eR true ks,⟨xs,h1,h2,h3⟩=>exact⟨xs,e _ h1,keys h2,h3⟩
mutual
theorem aY.mono(e:Gr F F'):∀{p:PV} {v:V},aY K F p v->aY K F' p v
 | .aK,_,h=>by simpa only[aY]using h
 | .bl _,_,h=>by simpa only[aY]using h
 | .int _,_,h=>by simpa only[aY]using h
 | .str _,_,h=>by simpa only[aY]using h
 | .fn _,_,h=>by simpa only[aY]using h
 | .ref n,_,h=>by
  simp only[aY]at h ⊢;obtain⟨a,h1,h2⟩:=h;exact⟨a,e.m _ _ h1,h2⟩
 | .nd k ps,_,h=>by
  simp only[aY]at h ⊢;obtain⟨a,vs,h1,h2,h3⟩:=h;exact⟨a,vs,h1,h2.to e.s (λo q=>e.s _ _ q) id,aq.mono e h3⟩
theorem aq.mono(e:Gr F F'):∀{ps:List PV} {vs:List V},aq K F ps vs->aq K F' ps vs
 | [],_,h=>by simpa only[aq]using h
 | _::_,_,h=>by
  simp only[aq]at h ⊢;obtain⟨v,r,h1,h2,h3⟩:=h;exact⟨v,r,h1,h2.mono e,aq.mono e h3⟩
end
def aq.bE(h:aq K F (p::ps) vs):∃v r,vs=v::r/\aY K F p v/\aq K F ps r:=by
 simpa only[aq]using h
def aq.bN(h:aq K F [] vs):vs=[]:=by simpa only[aq]using h
theorem o8:∀{ps:List PV} {vs:List V},aq K F ps vs↔Paired (aY K F) ps vs
 | [],vs=>⟨λh=>by rw[h.bN];exact .nil,λh=>by cases h;exact .nil⟩
 | p::ps,vs=>⟨λh=>by obtain⟨v,r,rfl,h1,h2⟩:=h.bE;exact .cons h1 (o8.mp h2),λh=>by cases h with | cons h1 h2=>exact .cons h1 (o8.mpr h2)⟩
def aq.length(h:aq K F ps vs):ps.length=vs.length:=iP (o8.mp h)
theorem aq.append:∀{ps qs:List PV} {vs ws:List V},aq K F ps vs->aq K F qs ws->aq K F (ps++qs) (vs++ws)
 | [],_,_,_,h,t=>by rw[h.bN];exact t
 | _::_,_,_,_,h,t=>by
  obtain⟨v,r,rfl,h1,h2⟩:=h.bE;exact .cons h1 (h2.append t)
theorem aq.get:∀{ps:List PV} {vs:List V} {i:Nat} {p:PV},aq K F ps vs->ps[i]?=some p->∃v,vs[i]?=some v/\aY K F p v
 | [],_,_,_,_,e=>by cases e
 | _::_,_,0,_,h,e=>by
  obtain⟨v,r,rfl,h1,_⟩:=h.bE;cases e;exact⟨v,rfl,h1⟩
 | _::_,_,_+1,_,h,e=>by
  obtain⟨v,r,rfl,_,h2⟩:=h.bE;exact h2.get e
theorem aq.take:∀{ps:List PV} {vs:List V} (n:Nat),aq K F ps vs->aq K F (ps.take n) (vs.take n)
 | _,_,0,_=>by simp only[List.take_zero];exact .nil
 | [],_,_+1,h=>by rw[h.bN];simp only[List.take_nil];exact .nil
 | _::_,_,n+1,h=>by
  obtain⟨v,r,rfl,h1,h2⟩:=h.bE;exact .cons h1 (h2.take n)
theorem aq.drop:∀{ps:List PV} {vs:List V} (n:Nat),aq K F ps vs->aq K F (ps.drop n) (vs.drop n)
 | _,_,0,h=>h
 | [],_,_+1,h=>by rw[h.bN];simp only[List.drop_nil];exact .nil
 | _::_,_,n+1,h=>by
  obtain⟨v,r,rfl,_,h2⟩:=h.bE;exact h2.drop n
theorem aq.set(r:aY K F p v):∀{ps:List PV} {vs:List V} (i:Nat),aq K F ps vs->aq K F (ps.set i p) (vs.set i v)
 | [],_,_,h=>by rw[h.bN];exact .nil
 | _::_,_,0,h=>by
  obtain⟨v,r',rfl,_,h2⟩:=h.bE;exact .cons r h2
 | _::_,_,i+1,h=>by
  obtain⟨v,r',rfl,h1,h2⟩:=h.bE;exact .cons h1 (h2.set r i)
theorem aq.reverse:∀{ps:List PV} {vs:List V},aq K F ps vs->aq K F ps.reverse vs.reverse
 | [],_,h=>by rw[h.bN];exact .nil
 | _::_,_,h=>by
  obtain⟨v,r,rfl,h1,h2⟩:=h.bE;rw[tP,tP];exact h2.reverse.append (.cons h1 .nil)
def dk:aY K F (.ref n) v↔∃a,F.μ[n]?=some a/\v=.ref a:=by simp only[aY]
def l8:aY K F (.fn x) v↔∃a,v=.ref a/\W.nsIn K mainGlobals x=some (some (.ref a)):=by simp only[aY]
def cJ:aY K F (.lst ps) v↔∃a vs,v=.ref a/\gC K F.F a vs/\aq K F ps vs:=gV
end
structure aj where
 k:Kd
 ps:List PV
structure bU where
 ρ:List (Option PV)
 h:List aj
noncomputable def live(c:aj):Bool:=match c.k with | .ag=>false | _=>true
structure jX (K:W.Frag) (aa:Hp) (ab F:Fz) (h:List aj) (H:Hp):Prop where
 sub:b7 F.F H
 keep:b7 aa H
 base:Gr ab F
 fresh:∀a o,F.F a=some o->ab.F a=some o\/aa a=none
 new:∀(n:Nat) (a:Addr),F.μ[n]?=some a->aa a=none/\∃o,H a=some o
 hl:h.length=F.μ.length
 nd:F.μ.Nodup
 cell:∀(n:Nat) (c:aj) (a:Addr),h[n]?=some c->F.μ[n]?=some a->live c=true->F.F a=none/\∃vs,jU K F.F H a true c.k vs/\aq K F c.ps vs
structure Lc (K:W.Frag) (F:Fz) (ρ:List (Option PV)) (σ:St):Prop where
 av:∀(i:Nat) (p:PV),ρ[i]?=some (some p)->∃v,σ[i]?=some (some v)/\aY K F p v
 len:ρ.length=σ.length
structure Rep (K:W.Frag) (aa:Hp) (ab F:Fz) (st:bU) (σ:St) (H:Hp):Prop where
 c:jX K aa ab F st.h H
 l:Lc K F st.ρ σ
def dr(h:H p=none):b7 H (cf H p o):=λb u q=>by rw[aI (cH q h)];exact q
section
variable {K:W.Frag} {aa H H':Hp} {ab F F':Fz} {h:List aj} {st:bU} {σ:St}
def Lc.mono(L:Lc K F ρ σ)(e:Gr F F'):Lc K F' ρ σ:=⟨λi p z=>let ⟨v,h1,h2⟩:=L.av i p z;⟨v,h1,h2.mono e⟩,L.len⟩
def jX.after(R:jX K aa ab F h H)(e:b7 H H')(f:b7 F.F F'.F)(m:F'.μ=F.μ)(s:b7 F'.F H')(n:∀a o,F'.F a=some o->F.F a=some o\/H a=none):jX K aa ab F' h H' where
 sub:=s
 keep:=R.keep.trans e
 base:=R.base.trans ⟨f,λ_ _ q=>by rw[m];exact q⟩
 fresh:=λa o q=>by
  rcases n a o q with z | z
  ·exact R.fresh a o z
  ·exact .inr (R.keep.free z)
 new:=λn a q=>by rw[m]at q;obtain⟨h1,o,h2⟩:=R.new n a q;exact⟨h1,o,e _ _ h2⟩
 hl:=by rw[m];exact R.hl
 nd:=by rw[m];exact R.nd
 cell:=λi c a hc ha hk=>by
  rw[m]at ha;obtain⟨h1,vs,h2,h3⟩:=R.cell i c a hc ha hk;refine⟨?_,vs,h2.to f (λo q=>e _ _ q) id,h3.mono ⟨f,λ_ _ q=>by rw[m];exact q⟩⟩
  obtain⟨_,o,ho⟩:=R.new i a ha;cases q:F'.F a with
  | none=>rfl
  | some u =>
   rcases n a u q with z | z
   ·rw[h1]at z;cases z
   ·rw[ho]at z;cases z
def Rep.after(R:Rep K aa ab F st σ H)(e:b7 H H')(f:b7 F.F F'.F)(m:F'.μ=F.μ)(s:b7 F'.F H')(n:∀a o,F'.F a=some o->F.F a=some o\/H a=none):Rep K aa ab F' st σ H' :=
 ⟨R.c.after e f m s n,R.l.mono ⟨f,λ_ _ q=>by grind⟩⟩
def Rep.sub(R:Rep K aa ab F st σ H):b7 F.F H:=R.c.sub
def Rep.laid(R:Rep K aa ab F st σ H)(o:HO)(hp:H p=none):Rep K aa ab ⟨cf F.F p o,F.μ⟩ st σ (cf H p o)/\Gr F ⟨cf F.F p o,F.μ⟩:=by
 have fp:=R.sub.free hp;refine⟨R.after (dr hp) (dr fp) rfl (λb u q=>?_) (λb u q=>?_),dr fp,λ_ _ q=>q⟩
 ·by_cases hb:b=p
  ·subst hb;rw[show(Fz.mk (cf F.F b o) F.μ).F b=cf F.F b o b from rfl,ar]at q;rw[ar];exact q
  ·rw[show(Fz.mk (cf F.F p o) F.μ).F b=cf F.F p o b from rfl,aI hb]at q;rw[aI hb];exact R.sub _ _ q
 ·by_cases hb:b=p
  ·grind
  ·rw[show(Fz.mk (cf F.F p o) F.μ).F b=cf F.F p o b from rfl,aI hb]at q;exact .inl q
def jX.alloc(R:jX K aa ab F h H)(hp:H p=none)(hn:jU K F.F (cf H p o) p true c.k vs)(hb:aq K F c.ps vs) :
  jX K aa ab ⟨F.F,F.μ++[p]⟩ (h++[c]) (cf H p o)/\Gr F ⟨F.F,F.μ++[p]⟩/\(F.μ++[p])[h.length]?=some p:=by
 have g:Gr F ⟨F.F,F.μ++[p]⟩:=⟨b7.refl _,λn a q=>by
  grind⟩
 have at':∀n a,(F.μ++[p])[n]?=some a->F.μ[n]?=some a\/n=F.μ.length/\a=p:=λn a q=>by
  grind
 have no:∀n a,F.μ[n]?=some a->a≠p:=λn a q z=>by
  subst z;obtain⟨_,o,ho⟩:=R.new n a q;rw[hp]at ho;cases ho
 refine⟨⟨λb u q=>by rw[aI (cH (R.sub _ _ q) hp)];exact R.sub _ _ q,R.keep.trans (dr hp),R.base.trans g,R.fresh,λn a q=>?_,by simp[R.hl],?_,λn d a hd ha hk=>?_⟩,g,by rw[R.hl];simp⟩
 ·rcases at' n a q with z | ⟨_,rfl⟩
  ·obtain⟨h1,u,h2⟩:=R.new n a z;exact⟨h1,u,dr hp _ _ h2⟩
  ·exact⟨R.keep.free hp,o,ar⟩
 ·rw[lN];refine⟨R.nd,by simp,λa ha b hb z=>?_⟩
  obtain⟨n,hn⟩:=tM.mp ha;rw[bc]at hb;exact no n a hn (z.trans hb)
 ·rcases at' n a ha with z | ⟨rfl,rfl⟩
  ·rw[nL (by rw[R.hl];exact(b8.mp z).1)]at hd
   obtain⟨h1,ws,h2,h3⟩:=R.cell n d a hd z hk;exact⟨h1,ws,h2.to (b7.refl _) (λu q=>dr hp _ _ q) id,h3.mono g⟩
  ·rw[<-R.hl,tx (ao _),uc]at hd;cases hd;exact⟨R.sub.free hp,vs,hn,hb.mono g⟩
def jX.write(R:jX K aa ab F h H)(hc:h[n]?=some c)(hl:live c=true)(ha:F.μ[n]?=some a)(hn:jU K F.F (cf H a o) a true d.k vs)(hb:aq K F d.ps vs) :
  jX K aa ab F (h.set n d) (cf H a o):=by
 obtain⟨hF,_⟩:=R.cell n c a hc ha hl;refine⟨λb u q=>by rw[aI (λz=>by grind)];exact R.sub _ _ q,λb u q=>?_,R.base,R.fresh,λm b q=>?_,by rw[lS];exact R.hl,R.nd,λm e b he jf hk=>?_⟩
 ·rw[aI (λz=>by subst z;rw[(R.new n b ha).1]at q;cases q)];exact R.keep _ _ q
 ·obtain⟨h1,u,h2⟩:=R.new m b q;refine⟨h1,?_⟩;by_cases hb:b=a
  ·subst hb;exact⟨o,ar⟩
  ·exact⟨u,by rw[aI hb];exact h2⟩
 ·by_cases hm:n=m
  ·grind
  ·rw[iH hm]at he;obtain⟨h1,ws,h2,h3⟩:=R.cell m e b he jf hk;have ne:b≠a:=λz=>by
    subst z;obtain⟨l1,e1⟩:=b8.mp jf;obtain⟨l2,e2⟩:=b8.mp ha;exact hm ((List.getElem_inj R.nd).mp (e2.trans e1.symm))
   exact⟨h1,ws,h2.to (b7.refl _) (λu q=>by rw[aI ne];exact q) id,h3⟩
end
def _root_.L2.PE.imp(h:PE X e t)(hi:∀σ H Q,t' σ H Q->t σ H Q):PE X e t':=λae s σ H Q I hw=>h ae s σ H Q I (hi _ _ _ hw)
def _root_.L2.PT.imp(h:PT X e t)(hi:∀σ H Q,t' σ H Q->t σ H Q):PT X e t':=λae s σ H Q I hw=>h ae s σ H Q I (hi _ _ _ hw)
def _root_.L2.PW.imp(h:PW X e t)(hi:∀σ H Q,t' σ H Q->t σ H Q):PW X e t':=λw ae s σ H Q I hw=>h w ae s σ H Q I (hi _ _ _ hw)
def _root_.L2.PA.imp(h:PA X e t)(hi:∀σ H Q,t' σ H Q->t σ H Q):PA X e t':=λpos ae s σ H Q I hw=>h pos ae s σ H Q I (hi _ _ _ hw)
def _root_.L2.PS.imp{st:Stmt}(h:PS X st t)(hi:∀D σ H,t' D σ H->t D σ H):PS X st t':=λae s σ H D I hw=>h ae s σ H D I (hi _ _ _ hw)
def _root_.L2.PSs.imp{st:List Stmt}(h:PSs X st t)(hi:∀D σ H,t' D σ H->t D σ H):PSs X st t':=λae s σ H D I hw=>h ae s σ H D I (hi _ _ _ hw)
def _root_.L2.PG.imp(h:PG X e t)(hi:∀v σ H Q,t' v σ H Q->t v σ H Q):PG X e t':=λae s σ H v u Q I r hw=>h ae s σ H v u Q I r (hi _ _ _ _ hw)
def _root_.L2.PGs.imp(h:PGs X e t)(hi:∀v σ H Q,t' v σ H Q->t v σ H Q):PGs X e t':=λae s σ H v u Q I r hw=>h ae s σ H v u Q I r (hi _ _ _ _ hw)
def _root_.L2.PI.imp(h:PI X tg e t)(hi:∀σ H Q,t' σ H Q->t σ H Q):PI X tg e t':=λae s σ H R I hw=>h ae s σ H R I (hi _ _ _ hw)
inductive Rs (α:Type) where
 | ok (a:α) | ex (m:Bool) (C:Str)
abbrev Gx(α:Type):=bU->Option (Rs α×bU)
noncomputable def Nk{α β:Type}(k:α->Gx β):Rs α×bU->Option (Rs β×bU)
 | (.ok a,st)=>k a st
 | (.ex m C,st)=>some (.ex m C,st)
def bnd{α β:Type}(f:Gx α)(k:α->Gx β):Gx β:=λst=>(f st).bind (Nk k)
noncomputable def b6{α:Type}(a:α):Gx α:=λst=>some (.ok a,st)
noncomputable def hp{α:Type}(g:List aj->Option α):Gx α:=λst=>(g st.h).map λa=>(.ok a,st)
noncomputable def fB{α:Type}(o:Option α):Gx α:=λst=>o.map λa=>(.ok a,st)
def Dm(H H':Hp):Prop:=∀b o,H b=some o->∃o',H' b=some o'
def ku(P:Program)(w:World):D3:=λaB H s E e s'=>∃a cls a0 B H',e=.ref a/\s'.os=s.os/\AllBare s'.gens/\Un (kE aB) [] H H' s.heap s'.heap/\ko P w H' s'.heap/\Dm H H'/\E cls none H' /\
 Heap.FlyingW B aB a cls a0 s'.heap/\(∀b o,H' b=some o->∃ob,B.get? b=some ob)/\∀b ob,s.heap.get? b=some ob->H b=none->b∉kE aB->B.get? b=some ob
def E2:yN (ku P w) X E0:=(by rintro _ _ _ _ _ _ _ ⟨_,_,_,_,_,_,_,_,_,_,_,h,_⟩;exact h.elim)
def E3(X:Cx)(aa:Hp)(ab F:Fz)(C:Str)(st:bU):Bool->Prop
 | true=>∀F' bA H' ae s h1 a cls vs,Rep X.K aa ab F' st bA H'->Gr F F'->Inv X ae bA H' s->ClsAt X.K C cls->Heap.MadeExcOf s.heap h1 a cls vs->X.xe (.ref a) {s with heap:=h1}
 | false=>∀bA ae H1 s1 e s',Inv X ae bA H1 s1->ku X.prog X.w X.stack H1 s1 (λcls _ H2=>ClsAt X.K C cls/\∃F',Rep X.K aa ab F' st bA H2/\Gr F F') e s'->X.xe e s'
section
variable {X:Cx} {aa H:Hp} {ab F F1:Fz} {st st1:bU} {σ:St} {α β γ δ:Type}
def E3.mono(h:E3 X aa ab F C st m)(s:Gr F F1):E3 X aa ab F1 C st m:=by
 cases m with
 | true=>exact λF' bA H' ae s1 h1 a cls vs R z=>h F' bA H' ae s1 h1 a cls vs R (s.trans z)
 | false =>
  rintro bA ae H1 s1 e s' I ⟨a,cls,a0,B,H',h1,h2,h3,h4,h5,h6,⟨c,F',R,z⟩,h8⟩
  exact h bA ae H1 s1 e s' I ⟨a,cls,a0,B,H',h1,h2,h3,h4,h5,h6,⟨c,F',R,s.trans z⟩,h8⟩
def E4(X:Cx)(aa:Hp)(ab F:Fz)(P:α->bU->Prop):Rs α×bU->Prop
 | (.ok a,st)=>P a st
 | (.ex m C,st)=>E3 X aa ab F C st m
def At(X:Cx)(aa:Hp)(ab F:Fz)(st:bU)(f:Gx α)(P:α->bU->Prop):Prop:=∃r,f st=some r/\E4 X aa ab F P r
def E4.imp(h:E4 X aa ab F P r)(g:Gr F F1)(i:∀a bM,P a bM->P' a bM):E4 X aa ab F1 P' r:=by
 match r,h with
 | (.ok a,st),h=>exact i a st h
 | (.ex m C,st),h=>exact E3.mono h g
def At.imp(h:At X aa ab F st f P)(g:Gr F F1)(i:∀a bM,P a bM->P' a bM):At X aa ab F1 st f P' :=
 let ⟨r,h1,h2⟩:=h;⟨r,h1,h2.imp g i⟩
def aE(h:o.bind f=some b):∃a,o=some a/\f a=some b:=by
 cases o with
 | none=>cases h
 | some a=>exact⟨a,rfl,h⟩
def aL(h:o.map f=some b):∃a,o=some a/\f a=b:=by
 simp_all
def At.bnd(h:At X aa ab F st (bnd f k) P):At X aa ab F st f (λa st1=>At X aa ab F st1 (k a) P):=by
 obtain⟨r,h1,h2⟩:=h;obtain⟨q,e1,e2⟩:=aE h1;refine⟨q,e1,?_⟩
 match q,e2 with
 | (.ok a,s1),e2=>exact⟨r,e2,h2⟩
 | (.ex m C,s1),e2=>cases e2;exact h2
def At.b6(h:At X aa ab F st (b6 a) P):P a st:=by
 obtain⟨r,h1,h2⟩:=h;cases h1;exact h2
def At.hp(h:At X aa ab F st (hp g) P):∃a,g st.h=some a/\P a st:=by
 obtain⟨r,h1,h2⟩:=h;obtain⟨a,e1,e2⟩:=aL h1;subst e2;exact⟨a,e1,h2⟩
def At.fB(h:At X aa ab F st (fB g) P):∃a,g=some a/\P a st:=by
 obtain⟨r,h1,h2⟩:=h;obtain⟨a,e1,e2⟩:=aL h1;subst e2;exact⟨a,e1,h2⟩
def Tx(X:Cx)(aa:Hp)(ab:Fz)(rl:Fz->α->β->Prop)(F:Fz)(st:bU)(f:Gx α)(σ:St)(Q:β->Hp->Prop):Prop :=
 At X aa ab F st f λa bM=>∀b H' F',Rep X.K aa ab F' bM σ H'->Gr F F'->rl F' a b->Q b H'
def tX(X:Cx)(aa:Hp)(ab:Fz)(rl:Fz->α->β->Prop)(f:Gx α):St->Hp->(β->Hp->Prop)->Prop:=λσ H Q=>∃F st,Rep X.K aa ab F st σ H/\Tx X aa ab rl F st f σ Q
def Tx.mono(h:Tx X aa ab rl F st f σ Q)(g:Gr F F1)(i:∀b H',Q b H'->Q' b H'):Tx X aa ab rl F1 st f σ Q' :=
 At.imp h g λa bM q b H' F' R s r=>i _ _ (q b H' F' R (g.trans s) r)
def Tx.bnd(h:Tx X aa ab rl' F st (bnd f k) σ Q)
  (i:∀a b F1 st1 H1,Rep X.K aa ab F1 st1 σ H1->Gr F F1->rl F1 a b->Tx X aa ab rl' F1 st1 (k a) σ Q->Q' b H1):Tx X aa ab rl F st f σ Q' :=
 At.imp (At.bnd h) (Gr.refl F) λa st1 q b H1 F1 R1 g1 r1=>i a b F1 st1 H1 R1 g1 r1 (Tx.mono (q) g1 λ_ _ z=>z)
def Tx.b6(h:Tx X aa ab rl F st (b6 a) σ Q):∀b H' F',Rep X.K aa ab F' st σ H'->Gr F F'->rl F' a b->Q b H':=At.b6 h
def Tx.hp(h:Tx X aa ab rl F st (hp g) σ Q):∃a,g st.h=some a/\∀b H' F',Rep X.K aa ab F' st σ H'->Gr F F'->rl F' a b->Q b H':=At.hp h
def Tx.fB(h:Tx X aa ab rl F st (fB g) σ Q):∃a,g=some a/\∀b H' F',Rep X.K aa ab F' st σ H'->Gr F F'->rl F' a b->Q b H':=At.fB h
end
abbrev rB:Fz->Bool->Bool->Prop:=λ_ a b=>a=b
abbrev tE(X:Cx)(aa:Hp)(ab:Fz)(f:Gx PV):TE:=tX X aa ab (aY X.K) f
abbrev tT(X:Cx)(aa:Hp)(ab:Fz)(f:Gx Bool):TT:=tX X aa ab rB f
abbrev tA(X:Cx)(aa:Hp)(ab:Fz)(f:Gx (List PV)):TA:=tX X aa ab (aq X.K) f
section
variable {X:Cx} {aa:Hp} {ab:Fz} {a b c e:Expr} {es rest:List Expr} {fa fb fc:Gx PV} {ga gb:Gx Bool} {ts:Gx (List PV)} {pos:Pos}
noncomputable def rd(i:Nat):Gx PV:=λst=>(st.ρ[i]?).join.map λp=>(.ok p,st)
def Ly(i:Nat)(h:PE X (.Name x pos) (MA i)):PE X (.Name x pos) (tE X aa ab (rd i)):=h.imp <| by
 rintro σ H Q ⟨F,st,R,r,h1,h2⟩
 obtain⟨p,e1,e2⟩:=aL h1;subst e2;cases z:st.ρ[i]? with
 | none=>rw[z]at e1;cases e1
 | some o =>
  rw[z]at e1;cases o with
  | none=>cases e1
  | some p' =>
   cases e1;obtain⟨v,h3,h4⟩:=R.l.av i p z;exact⟨v,h3,h2 v H F R (Gr.refl F) h4⟩
def vY(h:PE X e (tC v))(hb:∀F,aY X.K F p v):PE X e (tE X aa ab (b6 p)):=h.imp (by rintro σ H Q ⟨F,st,R,q⟩;exact q.b6 v H F R (Gr.refl F) (hb F))
def RE{j pos}:PE X (.Constant (.int i) j pos) (tE X aa ab (b6 (.int i))):=vY MB λ_=>au.mpr rfl
def Wn{j pos}:PE X (.Constant (.bool i) j pos) (tE X aa ab (b6 (.bl i))):=vY QQ λ_=>aQ.mpr rfl
def RF{j pos}:PE X (.Constant .none j pos) (tE X aa ab (b6 .aK)):=vY MC λ_=>cy.mpr rfl
def RG{j pos}:PE X (.Constant (.str i) j pos) (tE X aa ab (b6 (.str i))):=vY MD λ_=>bh.mpr rfl
abbrev G2:=List aj->PV->PV->Option PV
def rT(K:W.Frag)(g:G2):R2:=λx y H Q=>∃aa ab F st τ pa pb p,g st.h pa pb=some p/\Rep K aa ab F st τ H/\aY K F pa x/\aY K F pb y/\∀v H' F',Rep K aa ab F' st τ H'->Gr F F'->aY K F' p v->Q v H'
abbrev qC(X:Cx)(f:Value->Value->Sem Value)(g:G2):Prop:=OpR X f (rT X.K g)
def op2(g:G2)(fa fb:Gx PV):Gx PV:=bnd fa λx=>bnd fb λy=>hp λh=>g h x y
def nv(h:tE X aa ab (op2 g fa fb) σ H Q):MS (rT X.K g) (tE X aa ab fa) (tE X aa ab fb) σ H Q:=by
 obtain⟨F,st,R,h⟩:=h;refine⟨F,st,R,h.bnd λp v F1 st1 H1 R1 g1 b1 h1=>⟨F1,st1,R1,h1.bnd λq w F2 dw H2 R2 g2 b2 h2=>?_⟩⟩
 obtain⟨o,e,z⟩:=h2.hp;exact⟨aa,ab,F2,dw,σ,p,q,o,e,R2,b1.mono g2,b2,z⟩
def Wo(ho:qC X (binaryOp op) g)(ha:PE X a (tE X aa ab fa))(hb:PE X b (tE X aa ab fb)):PE X (.BinOp a op b pos) (tE X aa ab (op2 g fa fb)):=(Lr ho ha hb).imp λ_ _ _ h=>nv h
def RH(ho:qC X (compareOp op) g)(ha:PE X a (tE X aa ab fa))(hb:PE X b (tE X aa ab fb))(hm:behindInMarks op b=false):PE X (.Compare a [op] [b] pos) (tE X aa ab (op2 g fa fb)):=(Ay ho ha hb hm).imp λ_ _ _ h=>nv h
noncomputable def vZ:PV->Option Bool | .bl b=>some b | _=>none
def jY{b:Bool}(h:vZ p=some b):p=.bl b:=by
 cases p<;>first | (cases h;rfl) | cases h
def toB(f:Gx PV):Gx Bool:=bnd f λp=>fB (vZ p)
def toB_imp(h:tT X aa ab (toB fa) σ H Q):tE X aa ab fa σ H λv H1=>∃k,v=.bl k/\Q k H1:=by
 obtain⟨F,st,R,h⟩:=h;refine⟨F,st,R,h.bnd λp v F1 st1 H1 R1 g1 b1 h1=>?_⟩
 obtain⟨k,e,z⟩:=h1.fB;rw[jY e]at b1;exact⟨k,aQ.mp b1,z k H1 F1 R1 (Gr.refl _) rfl⟩
def RI(ho:qC X (compareOp op) g)(ha:PE X a (tE X aa ab fa))(hb:PE X b (tE X aa ab fb))(hm:behindInMarks op b=false):PT X (.Compare a [op] [b] pos) (tT X aa ab (toB (op2 g fa fb))) :=
 (Az ho ha hb hm).imp λ_ _ _ h=>nv (toB_imp h)
def chain(g g':G2)(fa fb fc:Gx PV):Gx PV:=bnd fa λx=>bnd fb λy=>bnd (hp λh=>(g h x y).bind vZ) λk=>if k=true then bnd fc λz=>hp λh=>g' h y z else b6 (.bl false)
def rN(h:tE X aa ab (chain g g' fa fb fc) σ H Q):yG (rT X.K g) (rT X.K g') (tE X aa ab fa) (tE X aa ab fb) (tE X aa ab fc) σ H Q:=by
 obtain⟨F,st,R,h⟩:=h;refine⟨F,st,R,h.bnd λp v F1 st1 H1 R1 g1 b1 h1=>⟨F1,st1,R1,h1.bnd λq w F2 dw H2 R2 g2 b2 h2=>?_⟩⟩
 obtain⟨k,e,z⟩:=At.hp (At.bnd h2);obtain⟨o,e1,e2⟩:=aE e;rw[jY e2]at e1;refine⟨aa,ab,F2,dw,σ,p,q,_,e1,R2,b1.mono g2,b2,λu H3 F3 R3 g3 b3=>⟨k,aQ.mp b3,?_⟩⟩
 cases k with
 | true =>
  have z:Tx X aa ab (aY X.K) F2 dw (bnd fc λz=>hp λh=>g' h q z) σ Q:=z
  refine⟨F3,dw,R3,(z.mono g3 λ_ _ y=>y).bnd λt o F4 Ig H4 R4 g4 b4 h4=>?_⟩
  obtain⟨o,e,z⟩:=h4.hp;exact⟨aa,ab,F4,Ig,σ,q,t,o,e,R4,b2.mono (g3.trans g4),b4,z⟩
 | false=>exact Tx.b6 z _ H3 F3 R3 g3 (aQ.mpr rfl)
def Jt(ho:qC X (compareOp op) g)(oO:qC X (compareOp vz) g')(ha:PE X a (tE X aa ab fa))(hb:PE X b (tE X aa ab fb))(hc:PE X c (tE X aa ab fc))
  (hm:lastMarks [op,vz] [b,c]=false):PE X (.Compare a [op,vz] [b,c] pos) (tE X aa ab (chain g g' fa fb fc)):=(EG ho oO ha hb hc hm).imp λ_ _ _ h=>rN h
end
def cG(h:List aj):PV->Option (Kd×List PV)
 | .nd k ps=>some (k,ps)
 | .ref n=>(h[n]?).bind λc=>if live c=true then some (c.k,c.ps)else none
 | _=>none
def bH{α:Type}{c:Prop} [Decidable c] {x:Option α} {y:α} (h:(if c then x else none)=some y):c/\x=some y:=by
 grind
def aw{α:Type}{c:Prop} [Decidable c] {x y:α} (h:(if c then some x else none)=some y):c/\x=y:=by
 grind
section
variable {K:W.Frag} {aa H:Hp} {ab F:Fz} {st:bU} {σ:St}
def Rep.at(R:Rep K aa ab F st σ H){p:PV}{k:Kd}{ps:List PV}{v:V}(e:cG st.h p=some (k,ps))(b:aY K F p v):∃a vs,v=.ref a/\jU K F.F H a false k vs/\aq K F ps vs:=by
 cases p with
 | nd k' vA =>
  cases e;obtain⟨a,vs,h1,h2,h3⟩:=gV.mp b;exact⟨a,vs,h1,h2.to (b7.refl _) (λo q=>R.sub _ _ q) id,h3⟩
 | ref n =>
  obtain⟨c,e1,e2⟩:=aE e;obtain⟨hl,e3⟩:=aw e2;cases e3;obtain⟨a,h1,h2⟩:=dk.mp b;obtain⟨_,vs,h3,h4⟩:=R.c.cell n c a e1 h1 hl;exact⟨a,vs,h2,h3.to (b7.refl _) (λo q=>q) (λz=>by cases z),h4⟩
 | _=>cases e
def E5(h:List aj)(p:PV):Option (List PV):=match cG h p with
 | some (.ag,ps)=>some ps
 | some (.lst,ps)=>some ps
 | _=>none
def Rep.seq(R:Rep K aa ab F st σ H){p:PV}{ps:List PV}{v:V}(e:E5 st.h p=some ps)(b:aY K F p v):∃a vs,v=.ref a/\(fw K H a vs\/gC K H a vs)/\aq K F ps vs:=by
 unfold E5 at e;split at e
 ·rename_i z;cases e;obtain⟨a,vs,h1,h2,h3⟩:=R.at z b;exact⟨a,vs,h1,.inl h2.2,h3⟩
 ·rename_i z;cases e;obtain⟨a,vs,h1,h2,h3⟩:=R.at z b;exact⟨a,vs,h1,.inr h2,h3⟩
 ·cases e
def Cj(h:List aj):PV->Option Bool
 | .aK=>some false
 | .bl b=>some b
 | .int i=>some (i != 0)
 | p=>match cG h p with
  | some (.ag,ps)=>some !ps.isEmpty
  | some (.lst,ps)=>some !ps.isEmpty
  | some (.eR false _,ps)=>some !ps.isEmpty
  | _=>none
def o9{ps:List PV}{vs:List V}(h:aq K F ps vs):ps.isEmpty=vs.isEmpty:=by
 cases ps with
 | nil=>rw[h.bN];rfl
 | cons p ps=>obtain⟨v,r,rfl,_,_⟩:=h.bE;rfl
def Rep.YI(R:Rep K aa ab F st σ H){p:PV}{k:Bool}{v:V}(e:Cj st.h p=some k)(b:aY K F p v):I0 K v H k:=by
 have more:(match cG st.h p with
  | some (.ag,ps)=>some !ps.isEmpty
  | some (.lst,ps)=>some !ps.isEmpty
  | some (.eR false _,ps)=>some !ps.isEmpty
  | _=>none)=some k->I0 K v H k:=λe=>by
  split at e
  ·rename_i z;cases e;obtain⟨a,vs,rfl,h2,h3⟩:=R.at z b;exact .inr (.inl ⟨vs,h2.2,by rw[o9 h3]⟩)
  ·rename_i z;cases e;obtain⟨a,vs,rfl,h2,h3⟩:=R.at z b;exact .inl ⟨vs,gC.sq h2,by rw[o9 h3]⟩
  ·rename_i z;cases e;obtain⟨a,vs,rfl,⟨kvs,h2,_,h4⟩,h3⟩:=R.at z b;refine .inr (.inr ⟨kvs,h2,?_⟩);rw[o9 h3,<-h4,oo]
  ·cases e
 cases p with
 | aK=>rw[cy.mp b];exact(bI e).symm
 | bl c=>rw[aQ.mp b];exact(bI e).symm
 | int i=>rw[au.mp b];exact(bI e).symm
 | str x=>exact more e
 | ref n=>exact more e
 | fn x=>exact more e
 | nd k ps=>exact more e
end
section
variable {X:Cx} {aa:Hp} {ab:Fz} {a b c e:Expr} {es rest:List Expr} {fa fb fc:Gx PV} {ga gb:Gx Bool} {ts:Gx (List PV)} {pos:Pos}
def v3(f:Gx PV):Gx Bool:=bnd f λp=>hp λh=>Cj h p
def RJ(h:PE X e (tE X aa ab fa))(he:∀il,isTrue e X.env il=(do let v <-il;standAt e.pos;holding [v] (truthy v))):PT X e (tT X aa ab (v3 fa)) :=
 (EJ h he).imp λσ H Q ⟨F,st,R,h⟩=>⟨F,st,R,h.bnd λp v F1 st1 H1 R1 g1 b1 h1=>by
  obtain⟨k,e,z⟩:=h1.hp;exact⟨k,R1.YI e b1,z k H1 F1 R1 (Gr.refl _) rfl⟩⟩
def Ju{op vz:CmpOp}{g g':G2}(ho:qC X (compareOp op) g)(oO:qC X (compareOp vz) g')(ha:PE X a (tE X aa ab fa))(hb:PE X b (tE X aa ab fb))(hc:PE X c (tE X aa ab fc))
  (hm:lastMarks [op,vz] [b,c]=false):PT X (.Compare a [op,vz] [b,c] pos) (tT X aa ab (toB (chain g g' fa fb fc))):=(EH ho oO ha hb hc hm).imp λ_ _ _ h=>rN (toB_imp h)
def iV{α:Type}(gc:Gx Bool)(f g:Gx α):Gx α:=bnd gc λx=>if x=true then f else g
def uw{α β:Type}{rl:Fz->α->β->Prop}{f g:Gx α}{σ:St}{H:Hp}{Q:β->Hp->Prop}(h:tX X aa ab rl (iV ga f g) σ H Q):tT X aa ab ga σ H λc H1=>if c=true then tX X aa ab rl f σ H1 Q else tX X aa ab rl g σ H1 Q:=by
 obtain⟨F,st,R,h⟩:=h;refine⟨F,st,R,h.bnd λx y F1 st1 H1 R1 g1 b1 h1=>?_⟩
 cases b1;cases x with
 | true=>exact⟨F1,st1,R1,h1⟩
 | false=>exact⟨F1,st1,R1,h1⟩
def ux{α β:Type}{rl:Fz->α->β->Prop}{a:α}{b:β}{σ:St}{H:Hp}{Q:β->Hp->Prop}(h:tX X aa ab rl (b6 a) σ H Q)(hb:∀F,rl F a b):Q b H:=by
 obtain⟨F,st,R,h⟩:=h;exact h.b6 b H F R (Gr.refl _) (hb F)
def v5{P P' Q Q':Prop}{c:Bool}(h:if c=true then P else Q)(h1:P->P')(h2:Q->Q'):if c=true then P' else Q':=by
 grind
def AK{α β:Type}{rl:Fz->α->β->Prop}{f:Gx α}{σ:St}{H:Hp}{Q Q':β->Hp->Prop}(h:tX X aa ab rl f σ H Q)(i:∀b H',Q b H'->Q' b H'):tX X aa ab rl f σ H Q':=let ⟨F,st,R,h⟩:=h;⟨F,st,R,h.mono (Gr.refl _) i⟩
def RK(ha:PT X a (tT X aa ab ga))(hb:PW X (.BoolOp .And (b::rest) pos) (tT X aa ab gb)):PW X (.BoolOp .And (a::b::rest) pos) (tT X aa ab (iV ga gb (b6 false))) :=
 (MF ha hb).imp λσ H Q h=>AK (uw h) λ_ _ z=>v5 z id λz=>ux z λ_=>rfl
def Wq(ha:PT X a (tT X aa ab ga))(hb:PW X (.BoolOp .Or (b::rest) pos) (tT X aa ab gb)):PW X (.BoolOp .Or (a::b::rest) pos) (tT X aa ab (iV ga (b6 true) gb)) :=
 (QR ha hb).imp λσ H Q h=>AK (uw h) λ_ _ z=>v5 z (λz=>ux z λ_=>rfl) id
def yV(f:Gx Bool):Gx Bool:=bnd f λx=>b6 !x
def RL(ha:PT X a (tT X aa ab ga)):PT X (.UnaryOp .Not a pos) (tT X aa ab (yV ga)):=(MH ha).imp λσ H Q ⟨F,st,R,h⟩=>⟨F,st,R,h.bnd λx y F1 st1 H1 R1 g1 b1 h1=>by
 cases b1;exact h1.b6 _ H1 F1 R1 (Gr.refl _) rfl⟩
def Nl(fa fb:Gx PV):Gx PV:=bnd fa λx=>bnd (hp λh=>Cj h x) λk=>if k=true then fb else b6 x
def Wr(fa fb:Gx PV):Gx PV:=bnd fa λx=>bnd (hp λh=>Cj h x) λk=>if k=true then b6 x else fb
def E6{f g:PV->Gx PV}{ae:List (Addr×Obj)}{s:Shared}{σ:St}{H:Hp}{Q:VK}(ha:PE X a (tE X aa ab fa))(I:Inv X ae σ H s)
  (h:tE X aa ab (bnd fa λx=>bnd (hp λh=>Cj h x) λk=>if k=true then f x else g x) σ H Q) :
  wpAny (model X.prog X.w) X.A (eval a X.env) (λv s1=>wpAny (model X.prog X.w) X.A (truthy v) (λk s2=>∃p xv F1 st1 H1,Inv X ae σ H1 s2/\RelV xv v/\Rep X.K aa ab F1 st1 σ H1/\aY X.K F1 p xv/\Tx X aa ab (aY X.K) F1 st1 (if k=true then f p else g p) σ Q) X.xe s1) X.xe s:=by
 obtain⟨F,st,R,h⟩:=h;refine thn (ha ae s σ H (λv H1=>∃F1 st1 p,Rep X.K aa ab F1 st1 σ H1/\aY X.K F1 p v/\Tx X aa ab (aY X.K) F1 st1 (bnd (hp λh=>Cj h p) λk=>if k=true then f p else g p) σ Q) I
  ⟨F,st,R,h.bnd λp v F1 st1 H1 R1 g1 b1 h1=>⟨F1,st1,p,R1,b1,h1⟩⟩) λv s1 ⟨xv,H1,I1,r1,F1,st1,p,R1,b1,h1⟩=>?_
 obtain⟨k,e,z⟩:=At.hp (At.bnd h1);exact thn (EI ae s1 σ H1 xv v (λk' H'=>k'=k/\H'=H1) I1 r1 ⟨k,R1.YI e b1,rfl,rfl⟩) <| by
  rintro c s2 ⟨H2,I2,ec,eh⟩
  subst ec eh;exact⟨p,xv,F1,st1,H2,I2,r1,R1,b1,z⟩
def Ws(ha:PE X a (tE X aa ab fa))(hb:PE X (.BoolOp .Or (b::rest) pos) (tE X aa ab fb)):PE X (.BoolOp .Or (a::b::rest) pos) (tE X aa ab (Wr fa fb)):=λae s σ H Q I h =>
 BoolOp_or (thn (E6 ha I h) λv s1 z=>thn z <| by
  rintro k s2 ⟨p,xv,F1,st1,H1,I1,r1,R1,b1,z⟩
  cases k with
  | true=>exact⟨xv,H1,I1,r1,Tx.b6 (z) _ H1 F1 R1 (Gr.refl _) b1⟩
  | false=>exact hb ae s2 σ H1 Q I1 ⟨F1,st1,R1,z⟩)
def RM(ha:PE X a (tE X aa ab fa))(hb:PE X (.BoolOp .And (b::rest) pos) (tE X aa ab fb)):PE X (.BoolOp .And (a::b::rest) pos) (tE X aa ab (Nl fa fb)):=λae s σ H Q I h =>
 BoolOp_and (thn (E6 ha I h) λv s1 z=>thn z <| by
  rintro k s2 ⟨p,xv,F1,st1,H1,I1,r1,R1,b1,z⟩
  cases k with
  | false=>exact⟨xv,H1,I1,r1,Tx.b6 (z) _ H1 F1 R1 (Gr.refl _) b1⟩
  | true=>exact hb ae s2 σ H1 Q I1 ⟨F1,st1,R1,z⟩)
def Nm(fa:Gx PV):Gx PV:=bnd (toB fa) λx=>b6 (.bl !x)
def RN(ha:PE X a (tE X aa ab fa)):PE X (.UnaryOp .Not a pos) (tE X aa ab (Nm fa)):=(MI ha).imp λσ H Q ⟨F,st,R,h⟩ =>
 toB_imp ⟨F,st,R,h.bnd λx y F1 st1 H1 R1 g1 b1 h1=>by
  cases b1;exact h1.b6 _ H1 F1 R1 (Gr.refl _) (aQ.mpr rfl)⟩
def Wt(hc:PT X c (tT X aa ab ga))(ha:PE X a (tE X aa ab fa))(hb:PE X b (tE X aa ab fb)):PE X (.IfExp c a b pos) (tE X aa ab (iV ga fa fb)):=(Et hc ha hb).imp λ_ _ _ h=>uw h
def fy(f:Gx PV)(g:Gx (List PV)):Gx (List PV):=bnd f λx=>bnd g λxs=>b6 (x::xs)
def RO:PA X [] (tA X aa ab (b6 [])):=oW.imp λσ H Q h=>ux h λ_=>.nil
def Nn(ha:PE X e (tE X aa ab fa))(hr:PA X es (tA X aa ab ts))(hs:starEach (e::es) X.env=(false,eval e X.env)::starEach es X.env:=by rfl):PA X (e::es) (tA X aa ab (fy fa ts)) :=
 (f7 ha hr hs).imp (by rintro σ H Q ⟨F,st,R,h⟩;exact⟨F,st,R,h.bnd λp v F1 st1 H1 R1 g1 b1 h1=>⟨F1,st1,R1,h1.bnd λps vs F2 dw H2 R2 g2 b2 h2=>h2.b6 _ H2 F2 R2 (Gr.refl _) (.cons (b1.mono g2) b2)⟩⟩)
noncomputable def gY:Nat:=4000000
def c9{n:Nat}(h:n<=gY):n<=sizeLine:=aM h (by decide)
def small(ps:List PV)(p:PV):Option PV:=if ps.length<=gY then some p else none
def Qh(k:Kd)(ts:Gx (List PV)):Gx PV:=bnd ts λps=>fB (small ps (.nd k ps))
def RP{x1}(h:PA X es (tA X aa ab ts)):PE X (.Tuple es x1 pos) (tE X aa ab (Qh .ag ts)):=(M7 h).imp λσ H Q ⟨F,st,R,h⟩=>⟨F,st,R,h.bnd λps vs F1 st1 H1 R1 g1 b1 h1=>by
 obtain⟨p,e,z⟩:=h1.fB;obtain⟨hl,rfl⟩:=aw e;refine⟨c9 (by rw[<-b1.length];exact hl),λa hn=>?_⟩
 obtain⟨R2,s2⟩:=R1.laid (.ag vs) hn;exact z _ _ _ R2 s2 (bu.mpr ⟨a,vs,rfl,fw.of ar,b1.mono s2⟩)⟩
def RQ(h:PA X es (tA X aa ab ts)):PE X (.List es pos) (tE X aa ab (Qh .lst ts)):=(EL h).imp λσ H Q ⟨F,st,R,h⟩=>⟨F,st,R,h.bnd λps vs F1 st1 H1 R1 g1 b1 h1=>by
 obtain⟨p,e,z⟩:=h1.fB;obtain⟨hl,rfl⟩:=aw e;refine⟨c9 (by rw[<-b1.length];exact hl),λa hn=>?_⟩
 obtain⟨R2,s2⟩:=R1.laid (.lst vs) hn;exact z _ _ _ R2 s2 (cJ.mpr ⟨a,vs,rfl,gC.of ar,b1.mono s2⟩)⟩
noncomputable def ix(c:aj):Gx PV:=λst=>some (.ok (.ref st.h.length),⟨st.ρ,st.h++[c]⟩)
def Tx.ix{c:aj}{F:Fz}{st:bU}{σ:St}{H:Hp}{Q:VK}{p:Addr}{o:HO}{vs:List V}(h:Tx X aa ab (aY X.K) F st (ix c) σ Q)(R:Rep X.K aa ab F st σ H)(hp:H p=none)
  (hn:jU X.K F.F (cf H p o) p true c.k vs) (hb:aq X.K F c.ps vs):Q (.ref p) (cf H p o):=by
 obtain⟨r,h1,h2⟩:=h;cases h1;obtain⟨C,g,hm⟩:=R.c.alloc hp hn hb;exact h2 _ _ _ ⟨C,R.l.mono g⟩ g (dk.mpr ⟨p,hm,rfl⟩)
def Np(ts:Gx (List PV)):Gx PV:=bnd ts λps=>bnd (fB (small ps .aK)) λ_=>ix ⟨.lst,ps⟩
def Nq(h:PA X es (tA X aa ab ts)):PE X (.List es pos) (tE X aa ab (Np ts)):=(EL h).imp λσ H Q ⟨F,st,R,h⟩=>⟨F,st,R,h.bnd λps vs F1 st1 H1 R1 g1 b1 h1=>by
 obtain⟨p,e,z⟩:=At.fB (At.bnd h1);obtain⟨hl,rfl⟩:=aw e;exact⟨c9 (by rw[<-b1.length];exact hl),λa hn=>Tx.ix z R1 hn ar b1⟩⟩
end
inductive d6 where
 | nx | bk | ct | rt (p:PV)
def v7(X:Cx)(aa:Hp)(ab F:Fz)(D:vO):d6->bU->Prop
 | .nx,st=>∀F' bA H',Rep X.K aa ab F' st bA H'->Gr F F'->D.nx bA H'
 | .bk,st=>∀F' bA H',Rep X.K aa ab F' st bA H'->Gr F F'->D.bk bA H'
 | .ct,st=>∀F' bA H',Rep X.K aa ab F' st bA H'->Gr F F'->D.ct bA H'
 | .rt p,st=>∀v F' H',jX X.K aa ab F' st.h H'->Gr F F'->aY X.K F' p v->D.rt v H'
def Sa(X:Cx)(aa:Hp)(ab F:Fz)(D:vO)(st:bU)(f:Gx d6):Prop:=At X aa ab F st f (v7 X aa ab F D)
noncomputable def tS(X:Cx)(aa:Hp)(ab:Fz)(f:Gx d6):TS:=λD σ H=>∃F st,Rep X.K aa ab F st σ H/\Sa X aa ab F D st f
section
variable {X:Cx} {aa:Hp} {ab F F1:Fz} {D:vO} {st:bU} {α β:Type}
theorem v7.mono(g:Gr F F1):∀(o:d6) (st:bU),v7 X aa ab F D o st->v7 X aa ab F1 D o st
 | .nx,_,h=>λF' bA H' R z=>h F' bA H' R (g.trans z)
 | .bk,_,h=>λF' bA H' R z=>h F' bA H' R (g.trans z)
 | .ct,_,h=>λF' bA H' R z=>h F' bA H' R (g.trans z)
 | .rt _,_,h=>λv F' H' R z=>h v F' H' R (g.trans z)
def Sa.mono(h:Sa X aa ab F D st f)(g:Gr F F1):Sa X aa ab F1 D st f:=At.imp h g (v7.mono g)
def Sa.bnd(h:Sa X aa ab F D st (bnd f k))
  (i:∀a b F1 st1 H1,Rep X.K aa ab F1 st1 σ H1->Gr F F1->rl F1 a b->Sa X aa ab F1 D st1 (k a)->Q b H1):Tx X aa ab rl F st f σ Q :=
 At.imp (At.bnd h) (Gr.refl F) λa st1 q b H1 F1 R1 g1 r1=>i a b F1 st1 H1 R1 g1 r1 (Sa.mono q g1)
end
section
variable {X:Cx} {aa:Hp} {ab:Fz} {a b c e tg iter:Expr} {es:List Expr} {fe:Gx PV} {gc:Gx Bool} {pos:Pos} {s:Stmt} {ss body:List Stmt} {f g fb:Gx d6}
def YJ(g:Gx d6):d6->Gx d6
 | .nx=>g
 | .bk=>b6 .bk
 | .ct=>b6 .ct
 | .rt p=>b6 (.rt p)
def qL(f g:Gx d6):Gx d6:=bnd f (YJ g)
def Nr:PSs X [] (tS X aa ab (b6 .nx)):=II.imp (by rintro D σ H ⟨F,st,R,h⟩;exact At.b6 h F σ H R (Gr.refl F))
def Jv(h1:PS X s (tS X aa ab f))(h2:PSs X ss (tS X aa ab g)):PSs X (s::ss) (tS X aa ab (qL f g)):=(Ew h1 h2).imp λD σ H ⟨F,st,R,h⟩ =>
 ⟨F,st,R,At.imp (At.bnd h) (Gr.refl F) λo st1 q=>match o,q with
  | .nx,q=>λF1 gW H1 R1 g1=>⟨F1,st1,R1,Sa.mono q g1⟩
  | .bk,q=>λF' bA H'=>At.b6 q F' bA H'
  | .ct,q=>λF' bA H'=>At.b6 q F' bA H'
  | .rt p,q=>λv F' H'=>At.b6 q v F' H'⟩
def Nt(h1:PS X s (tS X aa ab f)):PSs X [s] (tS X aa ab f):=IJ h1
def Nu:PS X (.Pass pos) (tS X aa ab (b6 .nx)):=IK.imp (by rintro D σ H ⟨F,st,R,h⟩;exact At.b6 h F σ H R (Gr.refl F))
def Jw:PS X (.Break pos) (tS X aa ab (b6 .bk)):=Ex.imp (by rintro D σ H ⟨F,st,R,h⟩;exact At.b6 h F σ H R (Gr.refl F))
def Nv:PS X (.Continue pos) (tS X aa ab (b6 .ct)):=vP.imp (by rintro D σ H ⟨F,st,R,h⟩;exact At.b6 h F σ H R (Gr.refl F))
def Ck(fe:Gx PV):Gx d6:=bnd fe λp=>b6 (.rt p)
def Lz(he:PE X e (tE X aa ab fe)):PS X (.Return (some e) pos) (tS X aa ab (Ck fe)):=(MK he).imp (by rintro D σ H ⟨F,st,R,h⟩;exact⟨F,st,R,h.bnd λp v F1 st1 H1 R1 g1 b1 h1=>At.b6 h1 v F1 H1 R1.c (Gr.refl _) b1⟩)
def Nw:PS X (.Return none pos) (tS X aa ab (b6 (.rt .aK))):=IM.imp (by rintro D σ H ⟨F,st,R,h⟩;exact At.b6 h _ F H R.c (Gr.refl _) (cy.mpr rfl))
def Wu(hc:PT X c (tT X aa ab gc))(ha:PSs X p (tS X aa ab f))(hb:PSs X r (tS X aa ab g)):PS X (.If c p r pos) (tS X aa ab (iV gc f g)) :=
 (QW hc ha hb).imp λD σ H ⟨F,st,R,h⟩=>⟨F,st,R,h.bnd λx y F1 st1 H1 R1 g1 b1 h1=>by
  cases b1;cases x with
  | true=>exact⟨F1,st1,R1,h1⟩
  | false=>exact⟨F1,st1,R1,h1⟩⟩
def E7(fe:Gx PV):Gx d6:=bnd fe λ_=>b6 .nx
def Nx(he:PE X e (tE X aa ab fe))(hs:swapsWith e none pos.line X.env=pure false:=by rfl):PS X (.Expr e pos) (tS X aa ab (E7 fe)):=(IL he hs).imp λD σ H ⟨F,st,R,h⟩ =>
 ⟨F,st,R,h.bnd λp v F1 st1 H1 R1 g1 b1 h1=>At.b6 h1 F1 σ H1 R1 (Gr.refl _)⟩
abbrev Tg:=PV->bU->Option bU
abbrev Qi:=List PV->bU->Option bU
def tG(K:W.Frag)(aa:Hp)(ab:Fz)(g:Tg):TG:=λv σ H Q=>∃F st p bM,Rep K aa ab F st σ H/\aY K F p v/\g p st=some bM/\∀bA H' F',Rep K aa ab F' bM bA H'->Gr F F'->Q bA H'
def RR(K:W.Frag)(aa:Hp)(ab:Fz)(g:Qi):Lq:=λvs σ H Q=>∃F st ps bM,Rep K aa ab F st σ H/\aq K F ps vs/\g ps st=some bM/\∀bA H' F',Rep K aa ab F' bM bA H'->Gr F F'->Q bA H'
noncomputable def cO(i:Nat):Tg:=λp st=>if i<st.ρ.length then some ⟨st.ρ.set i (some p),st.h⟩else none
def Lc.set{K:W.Frag}(L:Lc K F ρ σ)(hi:i<ρ.length)(hb:aY K F p v):Lc K F (ρ.set i (some p)) (σ.set i (some v)) where
 av:=λj q e=>by
  by_cases h:i=j
  ·subst h;rw[nS hi]at e;cases e;exact⟨v,nS (by rw[<-L.len];exact hi),hb⟩
  ·rw[iH h]at e;rw[iH h];exact L.av j q e
 len:=by rw[lS,lS];exact L.len
def Ny(i:Nat)(h:PG X (.Name x pos) (gName i)):PG X (.Name x pos) (tG X.K aa ab (cO i)):=h.imp <| by
 rintro v σ H Q ⟨F,st,p,bM,R,hb,hf,q⟩
 obtain⟨hi,rfl⟩:=aw hf;exact q _ _ _ ⟨R.c,R.l.set hi hb⟩ (Gr.refl F)
noncomputable def pd:Qi:=λps st=>match ps with | []=>some st | _=>none
noncomputable def dH(g:Tg)(r:Qi):Qi:=λps st=>match ps with | p::ps=>(g p st).bind λbM=>r ps bM | []=>none
def NA:PGs X [] (RR X.K aa ab pd):=IQ.imp <| by
 rintro vs σ H Q ⟨F,st,ps,bM,R,hb,hf,q⟩
 cases ps with
 | nil=>cases hf;exact⟨hb.bN,q _ _ _ R (Gr.refl F)⟩
 | cons _ _=>cases hf
def Jx(h1:PG X e (tG X.K aa ab t))(h2:PGs X es (RR X.K aa ab u))(hs:(assignEach (e::es) X.env).map (·.2)=assign e X.env::(assignEach es X.env).map (·.2):=by rfl) :
  PGs X (e::es) (RR X.K aa ab (dH t u)):=(EA h1 h2 hs).imp <| by
 rintro vs σ H Q ⟨F,st,ps,bM,R,hb,hf,q⟩
 cases ps with
 | nil=>cases hf
 | cons p ps =>
  obtain⟨v,r,rfl,b1,b2⟩:=hb.bE;obtain⟨st1,e1,e2⟩:=aE hf;exact⟨v,r,rfl,F,st,p,st1,R,b1,e1,λgW H1 F1 R1 s1=>⟨F1,st1,ps,bM,R1,b2.mono s1,e2,λAx H2 F2 R2 s2=>q Ax H2 F2 R2 (s1.trans s2)⟩⟩
def _root_.L2.Inv.kQ{s:Shared}{a:Addr}(I:Inv X ae σ H s)(h:gC X.K H a xs):∃(ak:List Value) (n:Nat),Vals xs ak/\s.heap.get? a=some {cls:=.type "list",data:=.seq ak.toArray n}/\xs.length<=sizeLine:=by
 rcases h with h | ⟨ak,n,e,z,r⟩
 ·obtain⟨z,ak,n,r,e⟩:=h.ok I.hok;exact⟨ak,n,r,e,z⟩
 ·exact⟨ak,n,r,I.oN a _ e,by rw[r.length];exact z⟩
def NB{es:List Expr}{k:Nat}{t:Lq}{n:Nat}(hc:X.calm=true)(h:PGs X es t)
 (hn:(assignEach es X.env).length=n:=by rfl) (kr:(assignEach es X.env).findIdx? (·.1)=none:=by rfl):PG X (.Tuple es k pos) (λv σ H Q=>∃a xs,v=.ref a/\gC X.K H a xs/\xs.length=n/\t xs σ H Q):=by
 intro ae s σ H v u Q I r hw;obtain⟨a,xs,e1,hq,hl,hw⟩:=hw;subst e1;cases r;obtain⟨ak,m,rv,e,hz⟩:=I.kQ hq;rw[PyProof.Rows.assign_Tuple];refine af (ua ?_);unfold unpack;rw[show(assignEach es X.env).length=ak.toArray.size by simp[hn,<-hl,rv.length],kr]
 refine af (cR (W.kun_itemsOf (I.ok.hd hc) ⟨_,e,rfl,_,rfl⟩ λh' hx=>?_))
 have I1:=I.kept (t':=s.toks) λb o e=>hx b o (aN (az e)) e
 exact h ae _ σ H xs _ Q I1 (by grind) hw
noncomputable def kR(n:Nat)(t:Qi):Tg:=λp st=>match p with | .nd .ag ps=>if ps.length=n then t ps st else none | .nd .lst ps=>if ps.length=n then t ps st else none | _=>none
def RS(hc:X.calm=true)(h:PGs X es (RR X.K aa ab t))(hn:(assignEach es X.env).length=n:=by rfl)(kr:(assignEach es X.env).findIdx? (·.1)=none:=by rfl) :
  PG X (.Tuple es k pos) (tG X.K aa ab (kR n t)):=by
 rintro ae s σ H v u Q I r ⟨F,st,p,bM,R,hb,hf,q⟩
 unfold kR at hf;split at hf
 ·obtain⟨hl,hf⟩:=bH hf;obtain⟨a,vs,rfl,hs,uy⟩:=bu.mp hb;exact ML hc h hn kr ae s σ H _ u Q I r ⟨a,vs,rfl,aS R.sub hs,by rw[<-uy.length];exact hl,F,st,_,bM,R,uy,hf,q⟩
 ·obtain⟨hl,hf⟩:=bH hf;obtain⟨a,vs,rfl,hs,uy⟩:=cJ.mp hb;exact NB hc h hn kr ae s σ H _ u Q I r ⟨a,vs,rfl,gF R.sub hs,by rw[<-uy.length];exact hl,F,st,_,bM,R,uy,hf,q⟩
 ·cases hf
noncomputable def stp(g:bU->Option bU):Gx d6:=λst=>(g st).map λbM=>(.ok .nx,bM)
def Sa.stp{st:bU}{g:bU->Option bU}(h:Sa X aa ab F D st (stp g)):∃bM,g st=some bM/\∀F' bA H',Rep X.K aa ab F' bM bA H'->Gr F F'->D.nx bA H':=by
 obtain⟨r,h1,h2⟩:=h;obtain⟨bM,e1,e2⟩:=aL h1;subst e2;exact⟨bM,e1,h2⟩
def pe(fe:Gx PV)(g:Tg):Gx d6:=bnd fe λp=>stp (g p)
def Jy{g:Tg}(h:tS X aa ab (pe fe g) D σ H):IS (tE X aa ab fe) (tG X.K aa ab g) D σ H:=by
 obtain⟨F,st,R,h⟩:=h;refine⟨F,st,R,h.bnd λp v F1 st1 H1 R1 g1 b1 h1=>?_⟩
 obtain⟨bM,e,z⟩:=h1.stp;exact⟨F1,st1,p,bM,R1,b1,e,λAx H2 F2 R2 s2=>z F2 Ax H2 R2 s2⟩
def RT{g:Tg}(he:PE X e (tE X aa ab fe))(hg:PG X tg (tG X.K aa ab g))(hs:swapsWithSole [tg] e pos.line X.env=pure false:=by rfl)(hw:swappedStores [tg] e X.env=pure none:=by rfl)
  (h1:(assignEach [tg] X.env).map (·.2)=[assign tg X.env]:=by rfl):PS X (.Assign [tg] e pos) (tS X aa ab (pe fe g)):=(EB he hg hs hw h1).imp λ_ _ _ h=>Jy h
def Walk(K:W.Frag)(F:Fz)(ps:List PV)(J:It):Prop:=∀(aa:Hp) (ab F':Fz) (st:bU) (σ:St) (H:Hp),Rep K aa ab F' st σ H->Gr F F'->∀i:Nat,
 (∀p,ps[i]?=some p->J.go i H/\∀x H',J.yld i H x H'->∃E8,Rep K aa ab E8 st σ H'/\Gr F' E8/\aY K E8 p x)/\(ps[i]?=none->J.stop i H)
abbrev tI(X:Cx)(aa:Hp)(ab:Fz)(f:Gx (List PV)):TI:=tX X aa ab (Walk X.K) f
def v9(r:Gx d6):d6->Gx d6
 | .nx=>r
 | .ct=>r
 | .bk=>b6 .nx
 | .rt p=>b6 (.rt p)
def ef(g:Tg)(body:Gx d6):List PV->Gx d6
 | []=>b6 .nx
 | p::ps=>bnd (stp (g p)) λ_=>bnd body (v9 (ef g body ps))
def Sa.oQ{st:bU}(N:St->Hp->Prop)(hN:∀F1 st1 gW H1,Rep X.K aa ab F1 st1 gW H1->Gr F F1->Sa X aa ab F1 D st1 r->N gW H1)(h:Sa X aa ab F D st (U.bnd fb (v9 r))):Sa X aa ab F {D with nx:=N,ct:=N,bk:=D.nx} st fb :=
 At.imp (At.bnd h) (Gr.refl F) λo st1 q=>match o,q with
  | .nx,q=>λF1 gW H1 R1 g1=>hN F1 st1 gW H1 R1 g1 (Sa.mono q g1)
  | .ct,q=>λF1 gW H1 R1 g1=>hN F1 st1 gW H1 R1 g1 (Sa.mono q g1)
  | .bk,q=>λF' bA H'=>At.b6 q F' bA H'
  | .rt p,q=>λv F' H'=>At.b6 q v F' H'
def l9(gc:Gx Bool)(body:Gx d6):Nat->Gx d6
 | 0=>λ_=>none
 | n+1=>bnd gc λc=>if c=true then bnd body (v9 (l9 gc body n))else b6 .nx
def Jz(n:Nat)(hp:PassesOwn (model X.prog X.w) X.A X.env X.xe)(hc:PT X c (tT X aa ab gc))(hb:PSs X body (tS X aa ab fb)):PS X (.While c body [] pos) (tS X aa ab (l9 gc fb n)) :=
 (EC hp hc hb).imp <| by
 rintro D σ H ⟨F,st,R,h⟩
 refine⟨λm bA H'=>∃F' bM,Rep X.K aa ab F' bM bA H'/\Sa X aa ab F' D bM (l9 gc fb m),⟨n,F,st,R,h⟩,λm bA H' ⟨F',bM,R',h'⟩=>?_⟩
 cases m with
 | zero=>obtain⟨r,e,_⟩:=h';cases e
 | succ m =>
  refine⟨F',bM,R',Sa.bnd h' λx y F1 st1 H1 R1 g1 b1 h1=>?_⟩
  cases b1;cases x with
  | false=>exact At.b6 h1 F1 bA H1 R1 (Gr.refl _)
  | true=>exact⟨λAx H2=>∃F2 dw,Rep X.K aa ab F2 dw Ax H2/\Sa X aa ab F2 D dw (l9 gc fb m),λAx H2 n2=>⟨m,lP m,n2⟩,F1,st1,R1,Sa.oQ _ (λF4 Ig LA H4 R4 g4 z=>⟨F4,Ig,R4,z⟩) h1⟩
end
def sizeOk(n:Nat)(p:PV):Option PV:=if n<=gY then some p else none
def iW(h:sizeOk n p=some q):n<=sizeLine/\p=q:=by
 obtain⟨h1,h2⟩:=aw h;exact⟨c9 h1,h2⟩
def jZ(h:List aj)(p:PV):Option (List PV):=match cG h p with | some (.lst,ps)=>some ps | _=>none
def dm(e:jZ h p=some ps):cG h p=some (.lst,ps):=by
 unfold jZ at e;split at e
 ·grind
 ·cases e
def kT:G2:=λh p q=>match p,q with
 | .int i,.int j=>some (.int (i+j))
 | .str x,.str y=>sizeOk (x.length+y.length) (.str (x++y))
 | .nd .ag xs,.nd .ag ys=>sizeOk (xs.length+ys.length) (.ag (xs++ys))
 | p,q=>(jZ h p).bind λxs=>(jZ h q).bind λys=>sizeOk (xs.length+ys.length) (.lst (xs++ys))
noncomputable def mZ(c:Int->Int->Bool)(f:Int->Int->PV):G2:=λ_ p q=>match p,q with
 | .int i,.int j=>if c i j=true then some (f i j)else none
 | _,_=>none
noncomputable def qM:Int:=18446744073709551616
def RU:G2:=mZ (λ_ _=>true) λi j=>.int (i-j)
def NC:G2:=mZ (λi j=>decide ((-qM<i/\i<qM)\/(-qM<j/\j<qM))) λi j=>.int (i*j)
def AL:G2:=mZ (λ_ j=>decide (0<j/\j<1073741824)) λi j=>.int (i/j)
def uz:G2:=mZ (λ_ j=>decide (0<j)) λi j=>.int (i%j)
def yW:G2:=mZ (λi j=>decide (0<=j/\j<=1000/\i.natAbs<1000)) λi j=>.int (i^j.toNat)
def YK:G2:=mZ (λ_ _=>true) λi j=>.bl (decide (i<j))
def YL:G2:=mZ (λ_ _=>true) λi j=>.bl (decide (i<=j))
def YM:G2:=mZ (λ_ _=>true) λi j=>.bl (decide (j<=i))
section
variable {X:Cx}
def wa{ws:List Value}(ht:IsTup s.heap t ([]:List Value).toArray)(hb:IsTup s.heap b ws.toArray)(h1:Q (.ref b) s):wpAny (model prog w) A (binaryOp .Add (.ref t) (.ref b)) Q E s:=by
 obtain⟨⟨cls,dd,data,sl⟩,ho,hc,n,hd⟩:=id ht;obtain⟨⟨V9,UT,Rk,UU⟩,M9,Rm,n2,Rq⟩:=id hb;simp only at hc hd Rm Rq;subst hc hd Rm Rq;exact concat_meets ⟨_,ho,rfl⟩ ⟨_,M9,rfl⟩ ym seq_tuple_add xQ xO (xJ _ _) (tuple_addW0 t b _ ws.toArray n n2 dd UT sl UU (by simp)) ⟨ho,M9,h1⟩
def JA:qC X (binaryOp .Add) kT:=by
 rintro ae s σ H x y v u Q I rx ry ⟨aa,ab,F,st,τ,pa,pb,p,e,R,ba,bb,k⟩
 unfold kT at e;split at e
 ·cases e;rw[au.mp ba]at rx;rw[au.mp bb]at ry;exact MV ae s σ H _ _ v u Q I rx ry ⟨_,_,rfl,rfl,k _ H F R (Gr.refl F) (au.mpr rfl)⟩
 ·obtain⟨hz,rfl⟩:=iW e;rw[bh.mp ba]at rx;rw[bh.mp bb]at ry;exact yI ae s σ H _ _ v u Q I rx ry ⟨_,_,rfl,rfl,hz,k _ H F R (Gr.refl F) (bh.mpr rfl)⟩
 ·rename_i xs ys;obtain⟨hz,rfl⟩:=iW e;obtain⟨a,vs,rfl,ha,eI⟩:=bu.mp ba;obtain⟨b,ws,rfl,hb,Ih⟩:=bu.mp bb;have ND:=aS R.sub ha;have jf:=aS R.sub hb;cases xs with
  | nil =>
   rw[eI.bN]at ND;cases rx;cases ry;obtain⟨ak,r1,p1,_⟩:=I.tuple ND;obtain⟨cD,r2,p2,_⟩:=I.tuple jf;cases r1;exact wa p1 p2 ⟨.ref b,H,I,rfl,k _ H F R (Gr.refl F) (bu.mpr ⟨b,ws,rfl,hb,Ih⟩)⟩
  | cons x0 xr =>
   refine Jk ae s σ H _ _ v u Q I rx ry ⟨a,b,vs,ws,rfl,rfl,ND,jf,?_,by rw[<-eI.length,<-Ih.length];exact hz,λz=>?_,λz q hq=>?_⟩
   ·intro z;have:=eI.length;rw[z]at this;cases this
   ·subst z;have hy:=iC Ih.length;subst hy;rw[eZ]at k;exact k _ H F R (Gr.refl F) (bu.mpr ⟨a,vs,rfl,ha,eI⟩)
   ·obtain⟨R2,s2⟩:=R.laid (.ag (vs++ws)) hq;exact k _ _ _ R2 s2 (bu.mpr ⟨q,_,rfl,fw.of ar,(eI.append Ih).mono s2⟩)
 ·obtain⟨xs,e1,e⟩:=aE e;obtain⟨ys,e2,e⟩:=aE e;obtain⟨hz,rfl⟩:=iW e;obtain⟨a,vs,rfl,ha,eI⟩:=R.at (dm e1) ba;obtain⟨b,ws,rfl,hb,Ih⟩:=R.at (dm e2) bb;cases rx;cases ry;obtain⟨ak,n,r,e1,z1⟩:=I.kQ ha;obtain⟨cD,n2,r2,e2,z2⟩:=I.kQ hb;have hl:=r.length;have U1:=r2.length;have hz':vs.length+ws.length<=sizeLine:=by rw[<-eI.length,<-Ih.length];exact hz
  refine PySem.P.add_list e1 e2 ?_ (by grind)
  have ea:ak.toArray++cD.toArray=(ak++cD).toArray:=by simp
  rw[ea];obtain⟨R2,s2⟩:=R.laid (.lst (vs++ws)) I.fresh;exact⟨.ref _,_,I.Nh (r.append r2) (by grind),rfl,k _ _ _ R2 s2 (cJ.mpr ⟨_,_,rfl,gC.of ar,(eI.append Ih).mono s2⟩)⟩
def eE(ho:OpR X f (rI C h))(hc:∀i j,c i j=true->C i j)(hg:∀i j F,aY X.K F (g i j) (h i j)):qC X f (mZ c g):=by
 rintro ae s σ H x y v u Q I rx ry ⟨aa,ab,F,st,τ,pa,pb,p,e,R,ba,bb,k⟩
 unfold mZ at e;split at e
 ·obtain⟨h1,rfl⟩:=aw e;rw[au.mp ba]at rx;rw[au.mp bb]at ry;exact ho ae s σ H _ _ v u Q I rx ry ⟨_,_,rfl,rfl,hc _ _ h1,k _ H F R (Gr.refl F) (hg _ _ F)⟩
 ·cases e
def rO(ho:OpR X f (Ia h)):OpR X f (rI (λ_ _=>True) h):=(by rintro ae s σ H x y v u Q I rx ry ⟨i,j,h1,h2,_,q⟩;exact ho ae s σ H x y v u Q I rx ry ⟨i,j,h1,h2,q⟩)
end
def NF:Operator->Option G2
 | .Add=>some kT
 | .Sub=>some RU
 | .Mult=>some NC
 | .FloorDiv=>some AL
 | .Mod=>some uz
 | .Pow=>some yW
 | _=>none
def AM(h:NF op=some g):qC X (binaryOp op) g:=by
 unfold NF at h;split at h<;>cases h
 ·exact JA
 ·exact eE (rO MW) (by grind) λ_ _ _=>au.mpr rfl
 ·exact eE MX (λi j e=>show(-qM<i/\i<qM)\/(-qM<j/\j<qM)from cX e) λ_ _ _=>au.mpr rfl
 ·exact eE IX (λ_ j e=>show 0<j/\j<1073741824 from cX e) λ_ _ _=>au.mpr rfl
 ·exact eE MY (λ_ _ e=>cX e) λ_ _ _=>au.mpr rfl
 ·exact eE MZ (λ_ _ e=>let ⟨h1,h2,h3⟩:=cX e;⟨h1,by lia,gT h3 (by decide)⟩) λ_ _ _=>au.mpr rfl
inductive Tr where
 | aK | bl (b:Bool) | int (i:Int) | str (x:Str) | ag (xs:List Tr) | lst (xs:List Tr)
mutual
def eqT:Tr->Tr->Bool
 | .aK,.aK=>true
 | .bl a,.bl b=>a==b
 | .bl a,.int b=>(if a then 1 else 0)==b
 | .int a,.bl b=>a==(if b then 1 else 0)
 | .int a,.int b=>a==b
 | .str a,.str b=>a==b
 | .ag xs,.ag ys=>kU xs ys
 | .lst xs,.lst ys=>kU xs ys
 | _,_=>false
def kU:List Tr->List Tr->Bool
 | [],[]=>true
 | x::xs,y::ys=>eqT x y&&kU xs ys
 | _,_=>false
end
mutual
def dep:Tr->Nat
 | .ag xs=>ju xs+1
 | .lst xs=>ju xs+1
 | _=>0
def ju:List Tr->Nat
 | []=>0
 | x::xs=>max (dep x) (ju xs)
end
mutual
theorem pf:∀p:Tr,eqT p p=true
 | .aK=>rfl
 | .bl b=>iN b
 | .int b=>iN b
 | .str b=>iN b
 | .ag xs=>ma xs
 | .lst xs=>ma xs
theorem ma:∀ps:List Tr,kU ps ps=true
 | []=>rfl
 | x::xs=>nY.mpr ⟨pf x,ma xs⟩
end
theorem kW:∀{xs ys:List Tr},xs.length≠ys.length->kU xs ys=false
 | [],[],h=>absurd rfl h
 | [],_::_,_=>rfl
 | _::_,[],_=>rfl
 | x::xs,y::ys,h=>by show(eqT x y&&kU xs ys)=false;rw[kW (by simpa using h),Bool.and_false]
noncomputable def ph(xs ys:List Tr)(j:Nat):Bool:=match xs[j]?,ys[j]? with
 | some x,some y=>eqT x y
 | _,_=>true
theorem kX:∀{xs ys:List Tr},xs.length=ys.length->(List.range xs.length).all (ph xs ys)=kU xs ys
 | [],[],_=>rfl
 | [],_::_,h=>by cases h
 | _::_,[],h=>by cases h
 | x::xs,y::ys,h=>by
  have ih:=kX (by simpa using h)
  rw[br,List.range_succ_eq_map,gr,List.all_map];have e0:ph (x::xs) (y::ys) 0=eqT x y:=rfl;have e1:(ph (x::xs) (y::ys) ∘ Nat.succ)=ph xs ys:=by
   funext j
   simp[ph,Function.comp]
  rw[e0,e1,ih];rfl
def AN(h1:xs.length=m)(h2:ys.length=n):((List.range (min m n)).all (ph xs ys)&&(m==n))=kU xs ys:=by
 subst h1 h2;by_cases h:xs.length=ys.length
 ·rw[<-h,Nat.min_self,kX h];simp
 ·rw[kW h];simp[h]
mutual
def cK(s:Shared):Tr->Value->Prop
 | .aK,u=>u=.none
 | .bl b,u=>u=.bool b
 | .int i,u=>∃t,u=.int i t
 | .str x,u=>∃t,u=.str x t
 | .ag ts,u=>∃a ak,u=.ref a/\s.heap.IsTuple a ak.toArray/\bF s ts ak
 | .lst ts,u=>∃a ak,u=.ref a/\s.heap.IsList a ak.toArray/\bF s ts ak
def bF(s:Shared):List Tr->List Value->Prop
 | [],us=>us=[]
 | t::ts,us=>∃u r,us=u::r/\cK s t u/\bF s ts r
end
section
variable {A:Around} {s:Shared}
theorem bF.len:∀{ts:List Tr} {us:List Value},bF s ts us->ts.length=us.length
 | [],_,h=>by simp only[bF]at h;rw[h];rfl
 | _::_,_,h=>by
  simp only[bF]at h;obtain⟨u,r,rfl,_,h⟩:=h;simp[bF.len h]
def je(h1:s.heap.IsTuple a x)(h2:s.heap.IsTuple a y):x=y:=by
 obtain⟨o,e,_,n,d⟩:=h1;obtain⟨o',e',_,n',d'⟩:=h2;rw[e]at e';cases e';rw[d]at d';cases d';rfl
def kH(h1:s.heap.IsList a x)(h2:s.heap.IsList a y):x=y:=by
 obtain⟨o,e,_,n,d⟩:=h1;obtain⟨o',e',_,n',d'⟩:=h2;rw[e]at e';cases e';rw[d]at d';cases d';rfl
def pj(h1:s.heap.IsTuple a x)(h2:s.heap.IsList a y):False:=by
 obtain⟨o,e,c,n,d⟩:=h1;obtain⟨o',e',c',n',d'⟩:=h2;rw[e]at e';cases e';rw[c]at c';simp at c'
mutual
theorem cK.inj:∀{p q:Tr} {u:Value},cK s p u->cK s q u->p=q
 | .aK,q,u,h,h'=>by cases q<;>simp_all [cK]
 | .bl b,q,u,h,h'=>by cases q<;>simp_all [cK]
 | .int b,q,u,h,h'=>by
  simp only[cK]at h;obtain⟨t,rfl⟩:=h;cases q<;>simp_all [cK]
 | .str b,q,u,h,h'=>by
  simp only[cK]at h;obtain⟨t,rfl⟩:=h;cases q<;>simp_all [cK]
 | .ag xs,q,u,h,h'=>by
  simp only[cK]at h;obtain⟨a,ak,rfl,h1,h2⟩:=h;cases q with
  | ag ys =>
   simp only[cK]at h';obtain⟨b,RV,e,g1,g2⟩:=h';cases e;have:=je h1 g1;have e:ak=RV:=by simpa using this
   subst e;rw[bF.inj h2 g2]
  | lst ys =>
   simp only[cK]at h';obtain⟨b,RV,e,g1,g2⟩:=h';cases e;exact(pj h1 g1).elim
  | _=>simp[cK]at h'
 | .lst xs,q,u,h,h'=>by
  simp only[cK]at h;obtain⟨a,ak,rfl,h1,h2⟩:=h;cases q with
  | lst ys =>
   simp only[cK]at h';obtain⟨b,RV,e,g1,g2⟩:=h';cases e;have:=kH h1 g1;have e:ak=RV:=by simpa using this
   subst e;rw[bF.inj h2 g2]
  | ag ys =>
   simp only[cK]at h';obtain⟨b,RV,e,g1,g2⟩:=h';cases e;exact(pj g1 h1).elim
  | _=>simp[cK]at h'
theorem bF.inj:∀{ps qs:List Tr} {us:List Value},bF s ps us->bF s qs us->ps=qs
 | [],qs,us,h,h'=>by
  simp only[bF]at h;subst h;cases qs with
  | nil=>rfl
  | cons _ _=>simp[bF]at h'
 | p::ps,qs,us,h,h'=>by
  simp only[bF]at h;obtain⟨u,r,rfl,h1,h2⟩:=h;cases qs with
  | nil=>simp[bF]at h'
  | cons q qs =>
   simp only[bF]at h';obtain⟨u',r',e,g1,g2⟩:=h';cases e;rw[cK.inj h1 g1,bF.inj h2 g2]
end
def pq(h:b=c)(r:SeqAt.RcAt A s u w b):SeqAt.RcAt A s u w c:=h▸r
def j0(h:b = !c)(r:SeqAt.RcNeAt A s u w b):SeqAt.RcNeAt A s u w (!c):=h▸r
def AO(hf:∀x t,u≠.float x t)(h:SeqAt.RcAt A s u w b)(hb:u=w->b=true):SeqAt.EqAt A s u w b:=λprog v E Q hq=>by
 unfold eqBool;refine cR ?_;refine wpAny_ite_split (λz=>?_) (λ_=>?_)
 ·rw[hb (aH z)]at hq;exact af (iR (ai hq))
 ·cases u with
  | float x t=>exact absurd rfl (hf x t)
  | _=>exact af (h prog v E _ (iL hq))
def cK.LB(h:cK s p u):∀y t,u≠.float y t:=λy t z=>by
 subst z;cases p<;>simp[cK]at h
mutual
theorem uA:∀(p q:Tr) (A:Around) (u w:Value),cK s p u->cK s q w->A.units+dep p<cLine->SeqAt.RcAt A s u w (eqT p q)/\SeqAt.RcNeAt A s u w (!(eqT p q))
 | .aK,q,A,u,w,ha,hb,hu=>by
  have fO:A.units<cLine := ‹_›;subst ha;cases q with
  | aK=>cases hb;exact⟨.none_none,.none_none⟩
  | bl=>cases hb;exact⟨(.none_bool _),(.none_bool _)⟩
  | int=>obtain⟨t,rfl⟩:=hb;exact⟨(.none_int _ _),(.none_int _ _)⟩
  | str=>obtain⟨t,rfl⟩:=hb;exact⟨(.none_str _ _),(.none_str _ _)⟩
  | ag=>obtain⟨a,ak,rfl,pR,_⟩:=hb;exact⟨(.none_tuple pR fO),(.none_tuple pR fO)⟩
  | lst=>obtain⟨a,ak,rfl,pR,_⟩:=hb;exact⟨(.none_list pR fO),(.none_list pR fO)⟩
 | .bl k,q,A,u,w,ha,hb,hu=>by
  have fO:A.units<cLine := ‹_›;subst ha;cases q with
  | aK=>cases hb;exact⟨(.bool_none _),(.bool_none _)⟩
  | bl=>cases hb;exact⟨(.bool_bool _ _),(.bool_bool _ _)⟩
  | int=>obtain⟨t,rfl⟩:=hb;exact⟨(.bool_int _ _ _),(.bool_int _ _ _)⟩
  | str=>obtain⟨t,rfl⟩:=hb;exact⟨(.bool_str _ _ _),(.bool_str _ _ _)⟩
  | ag=>obtain⟨a,ak,rfl,pR,_⟩:=hb;exact⟨(.bool_tuple _ pR fO),(.bool_tuple _ pR fO)⟩
  | lst=>obtain⟨a,ak,rfl,pR,_⟩:=hb;exact⟨(.bool_list _ pR fO),(.bool_list _ pR fO)⟩
 | .int k,q,A,u,w,ha,hb,hu=>by
  have fO:A.units<cLine := ‹_›;obtain⟨tk,rfl⟩:=ha;cases q with
  | aK=>cases hb;exact⟨(.int_none _ _),(.int_none _ _)⟩
  | bl=>cases hb;exact⟨(.int_bool _ _ _),(.int_bool _ _ _)⟩
  | int=>obtain⟨t,rfl⟩:=hb;exact⟨(.int_int _ _ _ _),(.int_int _ _ _ _)⟩
  | str=>obtain⟨t,rfl⟩:=hb;exact⟨(.int_str _ _ _ _),(.int_str _ _ _ _)⟩
  | ag=>obtain⟨a,ak,rfl,pR,_⟩:=hb;exact⟨(.int_tuple _ _ pR fO),(.int_tuple _ _ pR fO)⟩
  | lst=>obtain⟨a,ak,rfl,pR,_⟩:=hb;exact⟨(.int_list _ _ pR fO),(.int_list _ _ pR fO)⟩
 | .str k,q,A,u,w,ha,hb,hu=>by
  have fO:A.units<cLine := ‹_›;obtain⟨tk,rfl⟩:=ha;cases q with
  | aK=>cases hb;exact⟨(.str_none _ _),(.str_none _ _)⟩
  | bl=>cases hb;exact⟨(.str_bool _ _ _),(.str_bool _ _ _)⟩
  | int=>obtain⟨t,rfl⟩:=hb;exact⟨(.str_int _ _ _ _),(.str_int _ _ _ _)⟩
  | str=>obtain⟨t,rfl⟩:=hb;exact⟨(.str_str _ _ _ _),(.str_str _ _ _ _)⟩
  | ag=>obtain⟨a,ak,rfl,pR,_⟩:=hb;exact⟨(.str_tuple _ _ pR fO),(.str_tuple _ _ pR fO)⟩
  | lst=>obtain⟨a,ak,rfl,pR,_⟩:=hb;exact⟨(.str_list _ _ pR fO),(.str_list _ _ pR fO)⟩
 | .ag xs,q,A,u,w,ha,hb,hu=>by
  have fO:A.units<cLine:=by lia
  obtain⟨al,JB,rfl,pL,tL⟩:=ha;cases q with
  | aK=>cases hb;exact⟨(.tuple_none pL fO),(.tuple_none pL fO)⟩
  | bl=>cases hb;exact⟨(.tuple_bool _ pL fO),(.tuple_bool _ pL fO)⟩
  | int=>obtain⟨t,rfl⟩:=hb;exact⟨(.tuple_int _ _ pL fO),(.tuple_int _ _ pL fO)⟩
  | str=>obtain⟨t,rfl⟩:=hb;exact⟨(.tuple_str _ _ pL fO),(.tuple_str _ _ pL fO)⟩
  | lst=>obtain⟨a,ak,rfl,pR,_⟩:=hb;exact⟨(.tuple_list pL pR fO),(.tuple_list pL pR fO)⟩
  | ag ys =>
   obtain⟨a,JC,rfl,pR,tR⟩:=hb;have e1:xs.length=JB.toArray.size:=by rw[bV,tL.len]
   have e2:ys.length=JC.toArray.size:=by rw[bV,tR.len]
   have el:=λj (h1:j<JB.toArray.size) (h2:j<JC.toArray.size)=>uB xs ys A.in1 JB JC tL tR (by rw[oj];have hu:_+(ju _+1)<_:=hu;lia) j (by simpa using h1) (by simpa using h2)
   exact⟨pq (AN e1 e2) (.tuples pL pR fO el),j0 (by rw[AN e1 e2];rfl) (.tuples pL pR fO el)⟩
 | .lst xs,q,A,u,w,ha,hb,hu=>by
  have fO:A.units<cLine:=by lia
  obtain⟨al,JB,rfl,pL,tL⟩:=ha;cases q with
  | aK=>cases hb;exact⟨(.list_none pL fO),(.list_none pL fO)⟩
  | bl=>cases hb;exact⟨(.list_bool _ pL fO),(.list_bool _ pL fO)⟩
  | int=>obtain⟨t,rfl⟩:=hb;exact⟨(.list_int _ _ pL fO),(.list_int _ _ pL fO)⟩
  | str=>obtain⟨t,rfl⟩:=hb;exact⟨(.list_str _ _ pL fO),(.list_str _ _ pL fO)⟩
  | ag=>obtain⟨a,ak,rfl,pR,_⟩:=hb;exact⟨(.list_tuple pL pR fO),(.list_tuple pL pR fO)⟩
  | lst ys =>
   obtain⟨a,JC,rfl,pR,tR⟩:=hb;have e1:JB.toArray.size=xs.length:=by rw[bV,tL.len]
   have e2:JC.toArray.size=ys.length:=by rw[bV,tR.len]
   by_cases hl:xs.length=ys.length
   ·have sz:JB.toArray.size=JC.toArray.size:=by rw[e1,e2];exact hl
    have el:=λj (h1:j<JB.toArray.size) (h2:j<JC.toArray.size)=>uB xs ys A.in1 JB JC tL tR (by rw[oj];have hu:_+(ju _+1)<_:=hu;lia) j (by simpa using h1) (by simpa using h2)
    exact⟨pq (by rw[e1,kX hl];rfl) (.lists pL pR sz fO el),j0 (by rw[e1,kX hl];rfl) (.lists pL pR sz fO el)⟩
   ·have sz:(JB.toArray.size != JC.toArray.size)=true:=by rw[e1,e2];simpa using hl
    exact⟨pq (kW hl).symm (.lists_lengths pL pR sz fO),j0 (fj not (kW hl)).symm (.lists_lengths pL pR sz fO)⟩
theorem uB:∀(ps qs:List Tr) A (us zs:List Value),bF s ps us->bF s qs zs->A.units+ju ps<cLine ->
  ∀j h1 (h2:j<zs.length),SeqAt.EqAt A s us[j] zs[j] (ph ps qs j)
 | [],qs,A,us,zs,b1,b2,hu=>λj h1 h2=>by
  simp only[bF]at b1;subst b1;cases h1
 | p::ps,qs,A,us,zs,b1,b2,hu=>λj h1 h2=>by
  simp only[bF]at b1;obtain⟨u,ur,rfl,c1,d1⟩:=b1;cases qs with
  | nil =>
   simp only[bF]at b2;subst b2;cases h2
  | cons q qs =>
   simp only[bF]at b2;obtain⟨z,zr,rfl,c2,d2⟩:=b2;have hm:A.units+dep p<cLine/\A.units+ju ps<cLine:=by
    simp only[ju]at hu
    lia
   cases j with
   | zero =>
    refine AO c1.LB (uA p q A _ _ c1 c2 hm.1).1 λe=>?_
    simp only[List.getElem_cons_zero]at e;rw[e]at c1;rw[c1.inj c2];exact pf q
   | succ j=>exact uB ps qs A _ _ d1 d2 hm.2 j (by simpa using h1) (by simpa using h2)
end
def NG(b1:cK s p u)(b2:cK s q w)(hu:A.units+dep p<cLine):SeqAt.EqAt A s u w (eqT p q):=by
 refine AO b1.LB (uA p q A _ _ b1 b2 hu).1 λz=>?_
 rw[z]at b1;rw[b1.inj b2];exact pf q
end
noncomputable def aT{α β:Type}(f:α->Option β):List α->Option (List β)
 | []=>some []
 | x::xs=>(f x).bind λy=>(aT f xs).map λys=>y::ys
noncomputable def qD:Kd->List Tr->Option Tr
 | .ag,ts=>some (.ag ts)
 | .lst,ts=>some (.lst ts)
 | _,_=>none
def toT(h:List aj):Nat->PV->Option Tr
 | 0,_=>none
 | n+1,p=>match p with
  | .aK=>some .aK
  | .bl b=>some (.bl b)
  | .int i=>some (.int i)
  | .str x=>some (.str x)
  | .fn _=>none
  | p=>(cG h p).bind λq=>(aT (toT h n) q.2).bind (qD q.1)
def cP(h:aT f (x::xs)=some ys):∃y r,f x=some y/\aT f xs=some r/\ys=y::r:=by
 obtain⟨y,h1,h2⟩:=aE h;obtain⟨r,h3,h4⟩:=aL h2;exact⟨y,r,h1,h3,h4.symm⟩
theorem uC(h:List aj):∀(n:Nat) (p:PV) (t:Tr),toT h n p=some t->dep t<=n
 | 0,_,_,e=>by cases e
 | n+1,p,t,e=>by
  have go:((cG h p).bind λq=>(aT (toT h n) q.2).bind (qD q.1))=some t->dep t<=n+1:=λe=>by
   obtain⟨q,_,e⟩:=aE e;obtain⟨ts,e1,e2⟩:=aE e;have hd:∀ps ts,aT (toT h n) ps=some ts->ju ts<=n:=by
    intro ps;induction ps with
    | nil=>intro ts z;cases z;simp[ju]
    | cons p ps ih =>
     intro ts z;obtain⟨y,r,h1,h2,rfl⟩:=cP z;have:=uC h n p y h1;have:=ih r h2;simp only[ju];lia
   have:=hd _ _ e1;unfold qD at e2;split at e2<;>cases e2<;>simp only[dep]<;>lia
  unfold toT at e;split at e<;>first | (cases e;simp[dep];done) | (cases e;done) | exact go e
section
variable {X:Cx} {ae:List (Addr×Obj)} {σ τ:St} {s:Shared} {aa H:Hp} {ab F:Fz} {st:bU}
theorem Rep.tree(R:Rep X.K aa ab F st τ H)(I:Inv X ae σ H s):∀(n:Nat) (p:PV) (t:Tr) (v:V) (u:Value),toT st.h n p=some t->aY X.K F p v->RelV v u->cK s t u
 | 0,_,_,_,_,e,_,_=>by cases e
 | n+1,p,t,v,u,e,b,r=>by
  have go:((cG st.h p).bind λq=>(aT (toT st.h n) q.2).bind (qD q.1))=some t->cK s t u:=λe=>by
   obtain⟨⟨k,ps⟩,e0,e⟩:=aE e;obtain⟨ts,e1,e2⟩:=aE e;obtain⟨a,vs,rfl,h2,h3⟩:=R.at e0 b;have hd:∀ps ts vs us,aT (toT st.h n) ps=some ts->aq X.K F ps vs->Vals vs us->bF s ts us:=by
    intro ps;induction ps with
    | nil=>intro ts vs us z b r;cases z;rw[b.bN]at r;cases r;simp[bF]
    | cons p ps ih =>
     intro ts vs us z b r;obtain⟨y,q,h1,h2,rfl⟩:=cP z;obtain⟨v,w,rfl,b1,b2⟩:=b.bE;cases r with
     | cons ra rr =>
      simp only[bF];exact⟨_,_,rfl,R.tree I n p y v _ h1 b1 ra,ih q w _ h2 b2 rr⟩
   cases r
   match k,e2,h2 with
   | .ag,e2,h2 =>
    cases e2;obtain⟨ak,rr,pl,_⟩:=I.tuple h2.2;simp only[cK];exact⟨a,ak,rfl,pl,hd _ _ _ _ e1 h3 rr⟩
   | .lst,e2,h2 =>
    cases e2;obtain⟨ak,rr,pl,_⟩:=I.list (gC.sq h2);simp only[cK];exact⟨a,ak,rfl,pl.isList,hd _ _ _ _ e1 h3 rr⟩
  unfold toT at e;split at e
  ·cases e;rw[cy.mp b]at r;cases r;simp[cK]
  ·cases e;rw[aQ.mp b]at r;cases r;simp[cK]
  ·cases e;rw[au.mp b]at r;obtain⟨t,rfl⟩:=r;simp[cK]
  ·cases e;rw[bh.mp b]at r;obtain⟨t,rfl⟩:=r;simp[cK]
  ·cases e
  ·exact go e
end
def fq:Nat:=1000
def RW(h:List aj)(p q:PV):Option Bool:=(toT h fq p).bind λx=>(toT h fq q).map λy=>eqT x y
def AQ:G2:=λh p q=>(RW h p q).map .bl
def JD:G2:=λh p q=>(RW h p q).map λb=>.bl !b
noncomputable def kY:PV->Bool
 | .aK=>true
 | _=>false
noncomputable def Wv(b:Bool):PV->Option Bool
 | .bl a=>some (a==b)
 | _=>none
def wb(h:Wv b p=some c):∃a,p=.bl a/\c=(a==b):=by
 cases p<;>cases h
 exact⟨_,rfl,rfl⟩
def U2:G2:=λ_ p q=>match q with | .aK=>some (.bl (kY p)) | .bl b=>(Wv b p).map .bl | _=>none
def Ww(h:List aj)(p:PV)(ps:List PV):Option Bool:=(toT h fq p).bind λx=>(aT (toT h fq) ps).map λys=>ys.any λy=>eqT y x
section
variable {X:Cx}
def wc(e:RW h p q=some b):∃x y,toT h fq p=some x/\toT h fq q=some y/\b=eqT x y:=by
 obtain⟨x,e1,e⟩:=aE e;obtain⟨y,e2,e3⟩:=aL e;exact⟨x,y,e1,e2,e3.symm⟩
def NH(hu:X.A.units+1150<cLine):qC X (compareOp .Eq) AQ:=by
 rintro ae s σ H x y v u Q I rx ry ⟨aa,ab,F,st,τ,pa,pb,p,e,R,ba,bb,k⟩
 obtain⟨b,e',rfl⟩:=aL e;obtain⟨ta,tb,e1,e2,rfl⟩:=wc e';have hd:=uC _ _ _ _ e1;exact(uA ta tb X.A v u (R.tree I _ _ _ _ _ e1 ba rx) (R.tree I _ _ _ _ _ e2 bb ry) (by unfold fq at hd;lia)).1 X.prog X.w X.xe _ ⟨.bl _,H,I,rfl,k _ H F R (Gr.refl F) (aQ.mpr rfl)⟩
def NI(hu:X.A.units+1150<cLine):qC X (compareOp .NotEq) JD:=by
 rintro ae s σ H x y v u Q I rx ry ⟨aa,ab,F,st,τ,pa,pb,p,e,R,ba,bb,k⟩
 obtain⟨b,e',rfl⟩:=aL e;obtain⟨ta,tb,e1,e2,rfl⟩:=wc e';have hd:=uC _ _ _ _ e1;exact(uA ta tb X.A v u (R.tree I _ _ _ _ _ e1 ba rx) (R.tree I _ _ _ _ _ e2 bb ry) (by unfold fq at hd;lia)).2 X.prog X.w X.xe _ ⟨.bl _,H,I,rfl,k _ H F R (Gr.refl F) (aQ.mpr rfl)⟩
def AR{K:W.Frag}(b:aY K F p x):decide (x=.aK)=kY p:=by
 cases p with
 | aK=>rw[cy.mp b];rfl
 | bl _=>rw[aQ.mp b];rfl
 | int _=>rw[au.mp b];rfl
 | str _=>rw[bh.mp b];rfl
 | ref _=>obtain⟨_,_,rfl⟩:=dk.mp b;rfl
 | fn _=>obtain⟨_,rfl,_⟩:=l8.mp b;rfl
 | nd _ _=>obtain⟨_,_,rfl,_⟩:=gV.mp b;rfl
def NJ:qC X (compareOp .Is) U2:=by
 rintro ae s σ H x y v u Q I rx ry ⟨aa,ab,F,st,τ,pa,pb,p,e,R,ba,bb,k⟩
 unfold U2 at e;split at e
 ·cases e;exact M1 ae s σ H x y v u Q I rx ry ⟨cy.mp bb,k _ H F R (Gr.refl F) (aQ.mpr (by rw[AR ba]))⟩
 ·rename_i b;obtain⟨c,e1,rfl⟩:=aL e;obtain⟨a,rfl,rfl⟩:=wb e1;rw[aQ.mp ba]at rx;rw[aQ.mp bb]at ry;cases rx;cases ry;exact wpAny_is_plain rfl ⟨.bl _,H,I,(by cases a<;>cases b<;>rfl),k _ H F R (Gr.refl F) (aQ.mpr rfl)⟩
 ·cases e
open Classical in
noncomputable def jv (s:Shared) (p:Tr) (u:Value):Bool:=if h:∃q,cK s q u then eqT h.choose p else false
def uD(b:cK s q u):jv s p u=eqT q p:=by
 have h:∃q,cK s q u:=⟨q,b⟩
 unfold jv;rw[dif_pos h,cK.inj h.choose_spec b]
theorem uE:∀{ts:List Tr} {us:List Value},bF s ts us->us.any (jv s p)=ts.any λy=>eqT y p
 | [],_,b=>by simp only[bF]at b;subst b;rfl
 | q::ts,_,b=>by
  simp only[bF]at b;obtain⟨u,r,rfl,c1,d1⟩:=b;rw[lU,lU,uD c1,uE d1]
theorem ny(bp:cK s p w):∀{ts:List Tr} {us:List Value},bF s ts us->A.units+ju ts<cLine->∀u∈us,SeqAt.EqAt A s u w (jv s p u)
 | [],_,b,_=>λu hu=>by simp only[bF]at b;subst b;cases hu
 | q::ts,_,b,hz=>λu hu=>by
  simp only[bF]at b;obtain⟨u',r,rfl,c1,d1⟩:=b;simp only[ju]at hz;rcases aF.mp hu with rfl | hu
  ·rw[uD c1];exact NG c1 bp (by lia)
  ·exact ny bp d1 (by lia) u hu
theorem Rep.trees{st:bU}(R:Rep X.K aa ab F st τ H)(I:Inv X ae σ H s)(n:Nat):∀(ps:List PV) (ts:List Tr) (vs:List V) (us:List Value),aT (toT st.h n) ps=some ts->aq X.K F ps vs->Vals vs us->bF s ts us/\ju ts<=n
 | [],ts,vs,us,z,b,r=>by cases z;rw[b.bN]at r;cases r;simp[bF,ju]
 | p::ps,ts,vs,us,z,b,r=>by
  obtain⟨y,q,h1,h2,rfl⟩:=cP z;obtain⟨v,w,rfl,b1,b2⟩:=b.bE;cases r with
  | cons ra rr =>
   obtain⟨h3,h4⟩:=R.trees I n ps q w _ h2 b2 rr;have:=uC _ _ _ _ h1;simp only[ju];exact⟨⟨_,_,rfl,R.tree I n p y v _ h1 b1 ra,h3⟩,by lia⟩
def E9(e:Ww h p ps=some b):∃x ys,toT h fq p=some x/\aT (toT h fq) ps=some ys/\b=ys.any λy=>eqT y x:=by
 obtain⟨x,e1,e⟩:=aE e;obtain⟨y,e2,e3⟩:=aL e;exact⟨x,y,e1,e2,e3.symm⟩
def Fb(hu:X.A.units+1150<cLine){st:bU}(I:Inv X ae σ H s)(rx:RelV x v)(ry:RelV y u)(R:Rep X.K aa ab F st τ H)(ba:aY X.K F pa x)(bb:aY X.K F pb y)
  (es:E5 st.h pb=some ps) (eb:Ww st.h pa ps=some b) :
  (Q (.bl b) H->wpAny (model X.prog X.w) X.A (compareOp .In v u) (EP X ae σ Q) X.xe s)/\(Q (.bl !b) H->wpAny (model X.prog X.w) X.A (compareOp .NotIn v u) (EP X ae σ Q) X.xe s):=by
 obtain⟨t,ts,e1,e2,rfl⟩:=E9 eb;obtain⟨a,vs,rfl,hs,hb⟩:=R.seq es bb;have tp:=R.tree I _ _ _ _ _ e1 ba rx;cases ry;rcases hs with hs | hs
 ·obtain⟨ak,r,pl,_⟩:=I.tuple hs;obtain⟨h1,h2⟩:=R.trees I _ _ _ _ _ e2 hb r;have ml:=λw (hw:w∈ak.toArray)=>ny (A:=X.A.in1) tp h1 (by rw[oj];unfold fq at h2;lia) w (by grind)
  have ea:ak.toArray.any (jv s t)=ts.any λy=>eqT y t:=by rw[show ak.toArray.any (jv s t)=ak.any (jv s t) by simp,uE h1]
  exact⟨λq=>SeqAt.in_tupleAt (jv s t) pl ml ⟨.bl _,H,I,rfl,by grind⟩,λq=>SeqAt.notIn_tupleAt (jv s t) pl ml ⟨.bl _,H,I,rfl,by grind⟩⟩
 ·obtain⟨ak,r,pl,_⟩:=I.list hs.sq;obtain⟨h1,h2⟩:=R.trees I _ _ _ _ _ e2 hb r;have ml:=λw (hw:w∈ak.toArray)=>ny (A:=X.A.in1) tp h1 (by rw[oj];unfold fq at h2;lia) w (by grind)
  have ea:ak.toArray.any (jv s t)=ts.any λy=>eqT y t:=by rw[show ak.toArray.any (jv s t)=ak.any (jv s t) by simp,uE h1]
  exact⟨λq=>SeqAt.in_listAt (jv s t) pl.isList ml ⟨.bl _,H,I,rfl,by grind⟩,λq=>SeqAt.notIn_listAt (jv s t) pl.isList ml ⟨.bl _,H,I,rfl,by grind⟩⟩
end
section
variable {K:W.Frag} {F:Fz}
def aq.oZ{ps:List PV}{vs:List V}{i:Int}{p:PV}(h:aq K F ps vs)(e:L2.oZ ps i=some p):∃v,L2.oZ vs i=some v/\aY K F p v:=by
 unfold L2.oZ at e ⊢;rw[<-h.length];cases z:Ie ps.length i with
 | none=>rw[z]at e;cases e
 | some j =>
  rw[z]at e;exact h.get e
def ej(xs:List PV)(lo hi:Option Int):List PV:=(xs.drop (HT.dy xs.length 0 lo)).take (HT.dy xs.length xs.length hi-HT.dy xs.length 0 lo)
def aq.YN{ps:List PV}{vs:List V}(h:aq K F ps vs)(lo hi:Option Int):aq K F (ej ps lo hi) (vT vs lo hi):=by
 unfold ej vT;rw[h.length];exact(h.drop _).take _
def cj{p:PV}{vs:List V}(b:aq K F [p] vs):∃v,vs=[v]/\aY K F p v:=by
 obtain⟨v,r,rfl,c,d⟩:=b.bE;rw[d.bN];exact⟨v,rfl,c⟩
def kZ{p q:PV}{vs:List V}(b:aq K F [p,q] vs):∃v w,vs=[v,w]/\aY K F p v/\aY K F q w:=by
 obtain⟨v,r,rfl,c,d⟩:=b.bE;obtain⟨w,rfl,e⟩:=cj d;exact⟨v,w,rfl,c,e⟩
end
def k0{prog:Program}{w:World}{A:Around}{E:Value->Shared->Prop}{s:Shared}{t sl:Addr}{ak:Array Value}{vl vu:Value}{lo hi:Option Int}{Q:Value->Shared->Prop}(ht:IsTup s.heap t ak)(hs:s.heap.IsSliceOf sl vl vu .none)(pl:IsPart vl lo)(pu:IsPart vu hi)
  (h0:HT.dy ak.size 0 lo=0) (h1:HT.dy ak.size ak.size hi=ak.size) (h:Q (.ref t) s):wpAny (model prog w) A (getItem (.ref t) (.ref sl)) Q E s:=by
 obtain⟨os,Ic,UW,Lv⟩:=id hs;have hT:s.TypeIs (.ref sl) "slice":=⟨os,Ic,UW⟩;unfold getItem
 try with_reducible refine cR ?_
 first | refine af (ai ?_) | skip
 refine af (wpAny_sequenceKey ht.typeIs (by decide) ?_)
 refine af (eS ht.typeIs lJ (eX lJ ht.typeIs entry_tuple_getitem ?_ (args_tuple_getitem _ _)));show wpAny _ _ (Builtin.Tuple.tupleItemsOf (.ref t) >>= _) _ _ s;refine af (tupleItemsOf_ ht (af (jS hT ?_)));refine af (HT.gE hs pl pu ?_);have hc:(((HT.dy ak.size 0 lo:Nat):Int)==0&&(1:Int)==1&&(HT.dy ak.size ak.size hi-HT.dy ak.size 0 lo)==ak.size)=true:=by
  rw[h0,h1];simp
 show wpAny _ _ (if(((HT.dy ak.size 0 lo:Nat):Int)==0&&1==1&&(HT.dy ak.size ak.size hi-HT.dy ak.size 0 lo)==ak.size)=true then _ else _) _ _ s
 rw[if_pos hc];unfold Builtin.Tuple.tupleIsExact;refine af (af (jS ht.typeIs (ai ?_)));exact af (iR (ai ⟨_,rfl,ai h⟩))
def rP(h:List aj)(lo hi:Option Int)(p:PV):Option PV:=match cG h p with
 | some (.lst,ps)=>some (.lst (ej ps lo hi))
 | some (.ag,ps)=>some (.ag (ej ps lo hi))
 | _=>none
section
variable {X:Cx} {aa:Hp} {ab:Fz} {a b e:Expr} {es:List Expr} {fa fb:Gx PV} {ts:Gx (List PV)} {pos p1 p2:Pos} {lo hi:Option Expr}
def rSl(K:W.Frag):V->Option Int->Option Int->Hp->VK->Prop:=λx lo hi H Q=>∃aa ab F st τ pa p,rP st.h lo hi pa=some p/\Rep K aa ab F st τ H/\aY K F pa x/\∀v H' F',Rep K aa ab F' st τ H'->Gr F F'->aY K F' p v->Q v H'
def slT:UX X (rSl X.K):=by
 rintro ae s σ H x v vl vu lo hi sl Q I rx hs pl pu ⟨aa,ab,F,st,τ,pa,p,e,R,ba,k⟩
 unfold rP at e;split at e
 ·rename_i z;cases e;obtain⟨a,vs,rfl,ha,eI⟩:=R.at z ba;refine Jn ae s σ H _ v vl vu lo hi sl Q I rx hs pl pu ⟨a,vs,rfl,gC.sq ha,λq hq=>?_⟩
  obtain⟨R2,s2⟩:=R.laid (.lst (vT vs lo hi)) hq;exact k _ _ _ R2 s2 (cJ.mpr ⟨q,_,rfl,gC.of ar,(eI.YN lo hi).mono s2⟩)
 ·rename_i ps z;cases e;cases pa with
  | nd kk pp =>
   cases z;obtain⟨a,vs,rfl,ha,eI⟩:=bu.mp ba;by_cases hw:HT.dy vs.length 0 lo=0/\HT.dy vs.length vs.length hi=vs.length
   ·cases rx;obtain⟨ak,r,ht,hz⟩:=I.tuple (aS R.sub ha);have dj:ak.toArray.size=vs.length:=by rw[bV];exact r.length.symm
    refine⟨"tuple",_,lJ.lookup,ht.typeIs,?_⟩;refine k0 ht hs pl pu (by grind) (by grind) ⟨.ref a,H,I,rfl,k _ H F R (Gr.refl F) ?_⟩
    have hc:ej ps lo hi=ps:=by
     unfold ej;rw[eI.length,hw.1,hw.2,List.drop_zero,Nat.sub_zero,<-eI.length,tV]
    rw[hc];exact ba
   ·refine Nb ae s σ H _ v vl vu lo hi sl Q I rx hs pl pu ⟨a,vs,rfl,aS R.sub ha,hw,λq hq=>?_⟩
    obtain⟨R2,s2⟩:=R.laid (.ag (vT vs lo hi)) hq;exact k _ _ _ R2 s2 (bu.mpr ⟨q,_,rfl,fw.of ar,(eI.YN lo hi).mono s2⟩)
  | ref n =>
   obtain⟨c,e1,e2⟩:=aE z;obtain⟨hl,e3⟩:=aw e2;have hk:c.k=.ag:=by grind
   unfold live at hl;rw[hk]at hl;cases hl
  | _=>cases z
 ·cases e
abbrev JE(X:Cx)(aa:Hp)(ab:Fz)(f:Gx (Option Int)):TO:=tX X aa ab (λ_ a b=>a=b) f
def _root_.L2.PO.imp{X:Cx}{e:Option Expr}{t t':TO}(h:PO X e t)(hi:∀σ H Q,t' σ H Q->t σ H Q):PO X e t':=λae s σ H Q I hw=>h ae s σ H Q I (hi _ _ _ hw)
noncomputable def qN:PV->Option Int | .int i=>some i | _=>none
def ek{p:PV}{i:Int}(h:qN p=some i):p=.int i:=by
 cases p<;>first | (cases h;rfl) | cases h
def Fc(fe:Gx PV):Gx (Option Int):=bnd fe λp=>fB ((qN p).map some)
def NK:PO X none (JE X aa ab (b6 none)):=Ji.imp λσ H Q h=>ux h λ_=>rfl
def NL(h:PE X e (tE X aa ab fa)):PO X (some e) (JE X aa ab (Fc fa)):=(Jj h).imp λσ H Q ⟨F,st,R,h⟩=>⟨F,st,R,h.bnd λp v F1 st1 H1 R1 g1 b1 h1=>by
 obtain⟨o,e,z⟩:=h1.fB;obtain⟨i,e1,rfl⟩:=aL e;rw[ek e1]at b1;exact⟨i,au.mp b1,z _ H1 F1 R1 (Gr.refl _) rfl⟩⟩
def cutE(fa:Gx PV)(fl fh:Gx (Option Int)):Gx PV:=bnd fa λp=>bnd fl λl=>bnd fh λr=>hp λh=>rP h l r p
def RX{fl fh:Gx (Option Int)}(ha:PE X e (tE X aa ab fa))(hl:PO X lo (JE X aa ab fl))(hh:PO X hi (JE X aa ab fh)):PE X (.Subscript e (.Slice lo hi none p2) pos) (tE X aa ab (cutE fa fl fh)):=(EO slT ha hl hh).imp λσ H Q ⟨F,st,R,h⟩ =>
 ⟨F,st,R,h.bnd λp v F1 st1 H1 R1 g1 b1 h1=>⟨F1,st1,R1,h1.bnd λl l' F2 dw H2 R2 g2 b2 h2=>⟨F2,dw,R2,h2.bnd λr r' F3 IU H3 R3 g3 b3 h3=>by
  cases b2;cases b3;obtain⟨o,e,z⟩:=h3.hp;exact⟨aa,ab,F3,IU,σ,p,o,e,R3,b1.mono (g2.trans g3),z⟩⟩⟩⟩
abbrev GC:=List aj->List PV->Option PV
def rC(K:W.Frag)(g:GC):List V->Hp->VK->Prop:=λxs H Q=>∃aa ab F st τ ps p,g st.h ps=some p/\Rep K aa ab F st τ H/\aq K F ps xs/\∀v H' F',Rep K aa ab F' st τ H'->Gr F F'->aY K F' p v->Q v H'
abbrev yX(X:Cx)(f:Value)(g:GC):Prop:=jB X f (rC X.K g)
def yY(g:GC)(ts:Gx (List PV)):Gx PV:=bnd ts λps=>hp λh=>g h ps
def gZ{g:GC}{σ:St}{H:Hp}{Q:VK}(h:tE X aa ab (yY g ts) σ H Q):V8 (rC X.K g) (tA X aa ab ts) σ H Q:=by
 obtain⟨F,st,R,h⟩:=h;refine⟨F,st,R,h.bnd λps vs F1 st1 H1 R1 g1 b1 h1=>?_⟩
 obtain⟨o,e,z⟩:=h1.hp;exact⟨aa,ab,F1,st1,σ,ps,o,e,R1,b1,z⟩
def YO(h:List aj)(p:PV):Option Nat:=match cG h p with
 | some (.ag,ps)=>some ps.length
 | some (.lst,ps)=>some ps.length
 | some (.eR _ ks,_)=>some ks.length
 | _=>none
def jW:GC:=λh ps=>match ps with
 | [.str z]=>if z.length<=gY then some (.int z.length)else none
 | [p]=>(YO h p).map λn=>.int n
 | _=>none
def uF:GC:=λh ps=>match ps with
 | [.nd .ag qs]=>some (.ag qs)
 | [p]=>(jZ h p).map λqs=>.ag qs
 | _=>none
noncomputable def yZ:GC:=λ_ ps=>match ps with
 | [.int i]=>some (.int i)
 | [.bl b]=>some (.int (if b then 1 else 0))
 | _=>none
noncomputable def JF:GC:=λ_ ps=>match ps with
 | [.int i]=>if 0<=i/\i<1000 then some (.str (toString i))else none
 | _=>none
def Fe(ps:List PV):Option (List Int):=aT qN ps
def JG:GC:=λh ps=>match ps with
 | [p]=>(jZ h p).bind λqs=>(Fe qs).map λns=>.int ns.sum
 | _=>none
def wd{A:Around}{E:Value->Shared->Prop}{s:Shared}{d:Addr}{o:Obj}{es:Array DictEntry}{ep n:Nat}{Q:Value->Shared->Prop}(hd:(d==sysModules)=false)(ho:s.heap.get? d=some o)(hc:o.ExactDict)(me:o.data=.dict es ep)(hn:es.size=n)(RY:(n:Int)<2^63)
  (h:Q (.int n (s.toks+1)) {s with toks:=s.toks+1+1}):wpAny (model X.prog X.w) A (call (.builtin "len") [.ref d]) Q E s:=by
 have ty:s.TypeIs (.ref d) "dict":=⟨o,ho,hc.1⟩;have hm:MeetsIn X.prog X.w (Builtin.«dict.__len__» ⟨[.ref d],[]⟩) (λ_ R s'=>s'.heap.get? d=some o/\R (.ok (.ret (.int n s'.toks))) {s' with toks:=s'.toks+1}):=.of_wp <| by
  rintro A R s' ⟨oO,hR⟩
  show wpAny _ _ (dictSize d >>= _) _ _ s';refine af (af (yb oO me (ai ?_)));refine af (wpAny_pendingCount_other hd ?_);refine wpAny_ret_mkInt ?_;rw[Nat.add_zero,hn];exact hR
 refine Calls.call_function_entry kind_len plain_len entry_len (args_len1 _) ?_;refine af (ai ?_);refine af (eS ty F.slot_dict_len (call_meetsIn F.slot_dict_len ty F.entry_dict_len (F.args_dict_len_1 _) hm ⟨ho,?_⟩));show wpAny _ _ _ _ _ {s with toks:=s.toks+1}
 refine af (cR (ai ?_));refine af (lX ?_);show wpAny _ _ (if((n:Nat):Int)>=2^63 then _ else _) _ _ _
 rw[if_neg (by lia)]
 exact af (wpAny_mkInt (ai ⟨_,rfl,h⟩))
def AS{n:Nat}(h:n<=sizeLine):(n:Int)<2^63:=by
 have h1:n<=2^62:=aM h (by decide)
 have h62:2^62=4611686018427387904:=by decide
 lia
def JH{ae:List (Addr×Obj)}{s:Shared}{σ:St}{H:Hp}{a:Addr}{t:Bool}{ks:List (List cC)}{vs:List V}{us:List Value}{Q:VK}{F:Hp}(I:Inv X ae σ H s)(rs:Vals [V.ref a] us)(h:jU X.K F H a false (.eR t ks) vs)(q:Q (.int ks.length) H):wpAny (model X.prog X.w) X.A (call (.builtin "len") us) (λu s'=>∃v H',Inv X ae σ H' s'/\RelV v u/\Q v H') X.xe s:=by
 obtain⟨u,rfl,ru⟩:=ip rs;cases ru;cases t with
 | false =>
  obtain⟨kvs,h1,h2,h3⟩:=h;obtain⟨z,y,ws,hk,o,es,ep,g1,g2,g3,g4,g5,g6⟩:=(I.hok a _ h1);have hl:ks.length=kvs.length:=by grind
  have hn:es.size=ks.length:=by rw[hl,iP hk,<-g5.length,lL]
  exact wd y g1 g2 g3 hn (AS (by grind)) ⟨.int ks.length,H,I.tok _,⟨_,rfl⟩,q⟩
 | true =>
  obtain⟨xs,h1,_,h2,_⟩:=h;obtain⟨z,y,o,es,ep,g1,g2,g3,g4,g5⟩:=(I.hok a _ h1);have hl:ks.length=xs.length:=by grind
  exact wd y g1 g2 g3 (by rw[<-lL,g4,ah,hl]) (AS (by grind)) ⟨.int ks.length,H,I.tok _,⟨_,rfl⟩,q⟩
def Cm:yX X (.builtin "len") jW:=by
 rintro ae s σ H xs us Q I rs ⟨aa,ab,F,st,τ,ps,p,e,R,bs,k⟩
 unfold jW at e;split at e
 ·obtain⟨hz,rfl⟩:=aw e;obtain⟨v,rfl,b⟩:=cj bs;rw[bh.mp b]at rs;exact uv ae s σ H _ us Q I rs ⟨_,rfl,c9 hz,k _ H F R (Gr.refl F) (au.mpr rfl)⟩
 ·obtain⟨n,e1,rfl⟩:=aL e;obtain⟨v,rfl,b⟩:=cj bs;unfold YO at e1;split at e1
  ·rename_i z;cases e1;obtain⟨a,vs,rfl,ha,eI⟩:=R.at z b;exact kN ae s σ H _ us Q I rs ⟨a,vs,rfl,.inr ha.2,k _ H F R (Gr.refl F) (au.mpr (by rw[eI.length]))⟩
  ·rename_i z;cases e1;obtain⟨a,vs,rfl,ha,eI⟩:=R.at z b;exact kN ae s σ H _ us Q I rs ⟨a,vs,rfl,.inl (gC.sq ha),k _ H F R (Gr.refl F) (au.mpr (by rw[eI.length]))⟩
  ·rename_i z;cases e1;obtain⟨a,vs,rfl,ha,eI⟩:=R.at z b;exact JH I rs ha (k _ H F R (Gr.refl F) (au.mpr rfl))
  ·cases e1
 ·cases e
def Cn:yX X (.type "tuple") uF:=by
 rintro ae s σ H xs us Q I rs ⟨aa,ab,F,st,τ,ps,p,e,R,bs,k⟩
 unfold uF at e;split at e
 ·cases e;obtain⟨v,rfl,b⟩:=cj bs;obtain⟨a,vs,rfl,ha,eI⟩:=bu.mp b;exact jC ae s σ H _ us Q I rs ⟨a,vs,rfl,.inr ⟨aS R.sub ha,k _ H F R (Gr.refl F) b⟩⟩
 ·obtain⟨qs,e1,rfl⟩:=aL e;obtain⟨v,rfl,b⟩:=cj bs;obtain⟨a,vs,rfl,ha,eI⟩:=R.at (dm e1) b;refine jC ae s σ H _ us Q I rs ⟨a,vs,rfl,.inl ⟨gC.sq ha,λq hq=>?_⟩⟩
  obtain⟨R2,s2⟩:=R.laid (.ag vs) hq;exact k _ _ _ R2 s2 (bu.mpr ⟨q,_,rfl,fw.of ar,eI.mono s2⟩)
 ·cases e
def Co:yX X (.type "int") yZ:=by
 rintro ae s σ H xs us Q I rs ⟨aa,ab,F,st,τ,ps,p,e,R,bs,k⟩
 unfold yZ at e;split at e
 ·cases e;obtain⟨v,rfl,b⟩:=cj bs;rw[au.mp b]at rs;exact rD ae s σ H _ us Q I rs (.inl ⟨_,rfl,k _ H F R (Gr.refl F) (au.mpr rfl)⟩)
 ·cases e;obtain⟨v,rfl,b⟩:=cj bs;rw[aQ.mp b]at rs;exact rD ae s σ H _ us Q I rs (.inr ⟨_,rfl,k _ H F R (Gr.refl F) (au.mpr rfl)⟩)
 ·cases e
def Cp:yX X (.type "str") JF:=by
 rintro ae s σ H xs us Q I rs ⟨aa,ab,F,st,τ,ps,p,e,R,bs,k⟩
 unfold JF at e;split at e
 ·rename_i i;obtain⟨⟨h0,h1⟩,rfl⟩:=aw e;obtain⟨v,rfl,b⟩:=cj bs;rw[au.mp b]at rs;exact uo ae s σ H _ us Q I rs ⟨i,rfl,(by
   by_cases h:i.natAbs=0
   ·simp_all
   ·exact jG (Nat.log2_le_self _) (by lia)),k _ H F R (Gr.refl F) (bh.mpr rfl)⟩
 ·cases e
theorem we{K:W.Frag}{F:Fz}:∀{ps:List PV} {ns:List Int} {vs:List V},Fe ps=some ns->aq K F ps vs->vs=ns.map V.int
 | [],ns,vs,h,b=>by cases h;exact b.bN
 | p::r,ns,vs,h,b=>by
  obtain⟨i,ms,h1,h2,rfl⟩:=cP h;obtain⟨v,vr,rfl,c,d⟩:=b.bE;rw[ek h1]at c;rw[au.mp c,we h2 d];rfl
def JI{ae:List (Addr×Obj)}{σ:St}{H:Hp}{s:Shared}{F:Fz}(I:Inv X ae σ H s){a:Addr}{vs:List V}{ps:List PV}{ns:List Int}(hn:Fe ps=some ns)(ha:gC X.K H a vs)(eI:aq X.K F ps vs) :
  ∃xs:Array (Int×Tok),s.heap.IsList a (intItems xs)/\ns=xs.toList.map (·.1):=by
 obtain⟨ak,r,pl,_⟩:=I.list ha.sq;have ev:=we hn eI;subst ev;have hi:=yQ r;obtain⟨xs,ex⟩:=hi.allInts.items;exact⟨xs,by rw[<-ex];exact pl.isList,by rw[<-hi.numsOf,<-nums_intItems,<-ex]⟩
def Cq(hc:X.A.handled=none):yX X (.builtin "sum") JG:=by
 rintro ae s σ H xs us Q I rs ⟨aa,ab,F,st,τ,ps,p,e,R,bs,k⟩
 unfold JG at e;split at e
 ·obtain⟨qs,e1,e⟩:=aE e;obtain⟨ns,e2,rfl⟩:=aL e;obtain⟨v,rfl,b⟩:=cj bs;obtain⟨a,vs,rfl,ha,eI⟩:=R.at (dm e1) b;obtain⟨xs,hl,hn⟩:=JI I e2 ha eI;obtain⟨u,rfl,ru⟩:=ip rs;cases ru;refine sum_intListG hc hl λh' tk t' hk=>⟨.int ns.sum,H,I.kept hk,⟨t',?_⟩,k _ H F R (Gr.refl F) (au.mpr rfl)⟩
  rw[preSum_eq,iF (by simp),hn]
 ·cases e
inductive Ty where
 | int | str | bool | tuple | list
noncomputable def Ty.nm:Ty->String
 | .int=>"int" | .str=>"str" | .bool=>"bool" | .tuple=>"tuple" | .list=>"list"
def RZ(h:List aj):PV->Option String
 | .aK=>some "NoneType"
 | .bl _=>some "bool"
 | .int _=>some "int"
 | .str _=>some "str"
 | p=>match cG h p with
  | some (.ag,_)=>some "tuple"
  | some (.lst,_)=>some "list"
  | _=>none
def NM(t:Ty)(y:String):Bool:=y==t.nm || (t.nm=="int"&&y=="bool")
def Wx(t:Ty)(fa:Gx PV):Gx PV:=bnd fa λp=>hp λh=>(RZ h p).map λy=>.bl (NM t y)
def rIs(K:W.Frag)(t:Ty):List V->Hp->VK->Prop:=λxs H Q=>∃aa ab F st τ p x y,xs=[x,.ty t.nm]/\Rep K aa ab F st τ H/\aY K F p x/\RZ st.h p=some y/\Q (.bl (NM t y)) H
def JJ(t:Ty):jB X (.builtin "isinstance") (rIs X.K t):=by
 rintro ae s σ H xs us Q I rs ⟨aa,ab,F,st,τ,p,x,y,ex,R,b,ey,q⟩
 subst ex;obtain⟨u,w,rfl,ru,Jm⟩:=AA rs;cases Jm;have iS:∀tk,EP X ae σ Q (.bool (NM t y)) {s with toks:=tk}:=λtk=>⟨.bl _,H,I.tok tk,rfl,q⟩
 have more:(match cG st.h p with
  | some (.ag,_)=>some "tuple"
  | some (.lst,_)=>some "list"
  | _=>none)=some y->wpAny (model X.prog X.w) X.A (call (.builtin "isinstance") [u,.type t.nm]) (EP X ae σ Q) X.xe s:=λey=>by
  split at ey
  ·rename_i z;cases ey;obtain⟨a,vs,rfl,h2,h3⟩:=R.at z b;cases ru;obtain⟨ak,_,⟨o,h1,h2,_⟩,_⟩:=I.tuple h2.2;exact W.kia_one W.kitx_tuple I.oN ⟨o,h1,h2⟩ (by cases t<;>kernel_rfl) (λz=>nomatch z) iS
  ·rename_i z;cases ey;obtain⟨a,vs,rfl,h2,h3⟩:=R.at z b;cases ru;obtain⟨ak,n,_,h1,_⟩:=I.kQ h2;exact W.kia_one W.kitx_list I.oN ⟨_,h1,rfl⟩ (by cases t<;>kernel_rfl) (λz=>nomatch z) iS
  ·cases ey
 cases p with
 | aK =>
  cases ey;rw[cy.mp b]at ru;cases ru;exact W.kia_one W.kitx_none I.oN True.intro (by cases t<;>kernel_rfl) (λz=>nomatch z) iS
 | bl y =>
  cases ey;rw[aQ.mp b]at ru;cases ru;exact W.kia_one W.kitx_bool I.oN True.intro (by cases t<;>kernel_rfl) (λz=>nomatch z) iS
 | int i =>
  cases ey;rw[au.mp b]at ru;obtain⟨tk,rfl⟩:=ru;exact W.kia_one W.kitx_int I.oN True.intro (by cases t<;>kernel_rfl) (λz=>nomatch z) iS
 | str y =>
  cases ey;rw[bh.mp b]at ru;obtain⟨tk,rfl⟩:=ru;exact W.kia_one W.kitx_str I.oN True.intro (by cases t<;>kernel_rfl) (λz=>nomatch z) iS
 | ref n=>exact more ey
 | fn x=>exact more ey
 | nd k ps=>exact more ey
def m4:bootBuiltins "isinstance"=some (.builtin "isinstance"):=by kernel_rfl
def g9(t:Ty):bootBuiltins (Str.ofString t.nm)=some (.type t.nm):=by cases t<;>kernel_rfl
noncomputable def tys:List Ty:=[.int,.str,.bool,.tuple,.list]
def AU(x:Str):Option Ty:=tys.find? λt=>x==Str.ofString t.nm
def Ff{x:Str}{t:Ty}(h:AU x=some t):x=Str.ofString t.nm:=by
 have:=List.find?_some h;exact aH this
def Wy{x:Str}{t:Ty}(ht:AU x=some t)(hg:Gl X "isinstance")(hm:X.mg "isinstance"=none)(hg2:Gl X x)(U3:X.mg x=none)(ha:PE X a (tE X aa ab fa))(hs:∀es,starEach (a::es) X.env=(false,eval a X.env)::starEach es X.env) :
  PE X (.Call (.Name "isinstance" p1) [a,.Name x p2] [] pos) (tE X aa ab (Wx t fa)):=by
 have hx:=Ff ht;subst hx;refine(iT (JJ t) hg hm m4 (f7 ha (f7 (IG (v:=.ty t.nm) hg2 U3 (g9 t) rfl (by cases t<;>decide) (by cases t<;>decide)) oW rfl) (hs _)) (by decide) (by decide) (hs _)).imp λσ H Q ⟨F,st,R,h⟩=>?_
 refine⟨F,st,R,h.bnd λp v F1 st1 H1 R1 g1 b1 h1=>?_⟩
 obtain⟨o,e,z⟩:=h1.hp;obtain⟨y,e1,rfl⟩:=aL e;exact⟨aa,ab,F1,st1,σ,p,v,y,rfl,R1,b1,e1,z _ H1 F1 R1 (Gr.refl _) (aQ.mpr rfl)⟩
def NN(fa:Gx PV):Gx PV:=bnd fa λp=>fB ((qN p).map λi=>.int (-i))
def R0(ha:PE X a (tE X aa ab fa)):PE X (.UnaryOp .USub a pos) (tE X aa ab (NN fa)):=(Q6 M0 ha).imp λσ H Q ⟨F,st,R,h⟩=>⟨F,st,R,h.bnd λp v F1 st1 H1 R1 g1 b1 h1=>by
 obtain⟨o,e,z⟩:=h1.fB;obtain⟨i,e1,rfl⟩:=aL e;rw[ek e1]at b1;exact⟨i,au.mp b1,z _ H1 F1 R1 (Gr.refl _) (au.mpr rfl)⟩⟩
end
noncomputable def mE(a m:Int)(n:Nat):List Nat:=sliceRange (sliceBounds (some a) none (some m) n).1 (sliceBounds (some a) none (some m) n).2.1 (sliceBounds (some a) none (some m) n).2.2
def iq{α:Type}(a m:Int)(ps:List α):List α:=(mE a m ps.length).filterMap (ps[·]?)
def NO(p:PV)(l m:Option Int):Option PV:=match p,l,m with
 | .nd .lst ps,some a,some b=>if(b != 0&&decide ((mE a b ps.length).length<=gY))=true then some (.lst (iq a b ps))else none
 | _,_,_=>none
def NP(fa:Gx PV)(fl fm:Gx (Option Int)):Gx PV:=bnd fa λp=>bnd fl λl=>bnd fm λm=>fB (NO p l m)
theorem mh{xs:List V}{us:List Value}(r:Vals xs us):∀is:List Nat,Vals (is.filterMap (xs[·]?)) (is.filterMap (us[·]?))
 | []=>.nil
 | i::is=>by
  cases h:xs[i]? with
  | none =>
   rw[tH h,tH (r.none_of h)];exact mh r is
  | some x =>
   obtain⟨u,h1,h2⟩:=r.get h;rw[tF h,tF h1];exact .cons h2 (mh r is)
theorem mi{K:W.Frag}{F:Fz}{ps:List PV}{vs:List V}(r:aq K F ps vs):∀is:List Nat,aq K F (is.filterMap (ps[·]?)) (is.filterMap (vs[·]?))
 | []=>.nil
 | i::is=>by
  cases h:ps[i]? with
  | none =>
   have h2:vs[i]?=none:=by
    have:=r.length;have:=fJ.mp h;exact fJ.mpr (by lia)
   rw[tH h,tH h2];exact mi r is
  | some p =>
   obtain⟨v,h1,h2⟩:=r.get h;rw[tF h,tF h1];exact .cons h2 (mi r is)
section
variable {X:Cx} {aa:Hp} {ab:Fz} {e:Expr} {fa:Gx PV} {pos p2:Pos} {lo:Option Expr} {hi:Expr}
def rSp(K:W.Frag):V->Option Int->Option Int->Hp->VK->Prop:=λx l m H Q=>∃c a b vs,x=.ref c/\l=some a/\m=some b/\gC K H c vs/\b≠0/\(mE a b vs.length).length<=gY/\∀q,H q=none->Q (.ref q) (cf H q (.lst (iq a b vs)))
def NQ{te:TE}{tl th:TO}(he:PE X e te)(hl:PO X lo tl)(hu:PO X (some hi) th):PE X (.Subscript e (.Slice lo none (some hi) p2) pos) (YE (rSp X.K) te tl th):=by
 intro ae s σ H Q I h;refine Subscript_ (thn (he ae s σ H _ I h) λv s1 ⟨x,H1,I1,r1,q1⟩=>?_)
 refine wpAny_Slice (thn (hl ae s1 σ H1 _ I1 q1) λvl s2 ⟨l,H2,I2,pl,q2⟩=>?_)
 rw[evalPart_none];refine ai ?_;refine thn (hu ae s2 σ H2 _ I2 q2) λvu s3 ⟨u,H3,I3,pu,q3⟩=>?_
 have I4:Inv X ae σ H3 {s3 with heap:=s3.heap.push {cls:=.type "slice",data:=.fields #[vl,.none,vu]}}:=I3.kept λb ob q=>ax _ q
 show wpAny (model X.prog X.w) X.A (subscriptTail e (.Slice lo none (some hi) p2) v (.ref s3.heap.objs.size)) (EP X ae σ Q) X.xe {s3 with heap:=s3.heap.push {cls:=.type "slice",data:=.fields #[vl,.none,vu]}}
 obtain⟨c,a,b,vs,rfl,rfl,rfl,hs,YQ,uy,q⟩:=q3;cases r1;obtain⟨ak,r,ht,hz⟩:=I4.list (gC.sq hs);have dj:ak.toArray.size=vs.length:=by rw[bV];exact r.length.symm
 have hg:wpAny (model X.prog X.w) X.A (getItem (.ref c) (.ref s3.heap.objs.size)) (EP X ae σ Q) X.xe {s3 with heap:=s3.heap.push {cls:=.type "slice",data:=.fields #[vl,.none,vu]}}:=by
  refine wpAny_getItem_list_slice ht.isList (Heap.IsSliceOf.new ..) pl .none pu (by simpa using YQ) ?_ (by rw[dj];exact hz)
  have R6:slicePick ak.toArray (some a) none (some b)=((mE a b vs.length).filterMap (ak[·]?)).toArray:=by
   unfold slicePick mE;rw[dj];refine fj (λf=>(List.filterMap f _).toArray) (funext λi=>?_)
   rw[lK]
  rw[R6];refine⟨.ref _,_,I4.laid (o:=.lst (iq a b vs)) (λb ob q=>ax _ q) (ao _) ?_,rfl,q _ (I4.hok.fresh (ao _))⟩
  exact⟨aM (List.length_filterMap_le _ _) (aM uy (by decide)),_,0,mh r _,aZ _ rfl⟩
 exact lY (ops:=[.ref c,.ref s3.heap.objs.size]) ht.isList.typeIs slot_list_getitem.lookup hg (by with_unfolding_all rfl)
def R7{fl fh:Gx (Option Int)}(ha:PE X e (tE X aa ab fa))(hl:PO X lo (JE X aa ab fl))(hh:PO X (some hi) (JE X aa ab fh)):PE X (.Subscript e (.Slice lo none (some hi) p2) pos) (tE X aa ab (NP fa fl fh)):=(NQ ha hl hh).imp λσ H Q ⟨F,st,R,h⟩ =>
 ⟨F,st,R,h.bnd λp v F1 st1 H1 R1 g1 b1 h1=>⟨F1,st1,R1,h1.bnd λl l' F2 dw H2 R2 g2 b2 h2=>⟨F2,dw,R2,h2.bnd λr r' F3 IU H3 R3 g3 b3 h3=>by
  cases b2;cases b3;obtain⟨o,e,z⟩:=h3.fB;unfold NO at e;split at e
  ·rename_i ps a b;obtain⟨hc,rfl⟩:=aw e;simp only[aC,bne_iff_ne,iK]at hc;obtain⟨ad,vs,rfl,hs,hb⟩:=cJ.mp (b1.mono (g2.trans g3));rw[hb.length]at hc;refine⟨ad,a,b,vs,rfl,rfl,rfl,gF R3.sub hs,hc.1,hc.2,λq hq=>?_⟩
   obtain⟨R4,s4⟩:=R3.laid (.lst (iq a b vs)) hq;refine z _ _ _ R4 s4 (cJ.mpr ⟨q,_,rfl,gC.of ar,?_⟩);unfold iq;rw[hb.length];exact(mi hb _).mono s4
  ·cases e⟩⟩⟩
end
noncomputable def Fg:PV->Option cC
 | .int i=>some (.inl i)
 | .str x=>some (.inr x)
 | _=>none
def iX:Bool->PV->Option (List cC)
 | false,p=>(Fg p).map λk=>[k]
 | true,.nd .ag ps=>if ps.length<1000 then aT Fg ps else none
 | true,_=>none
noncomputable def gv(k:List cC)(ks:List (List cC)):Bool:=ks.any λj=>decide (j=k)
noncomputable def da(k:List cC):List (List cC)->List PV->Option PV
 | j::ks,p::ps=>if j=k then some p else da k ks ps
 | _,_=>none
noncomputable def wj(k:List cC)(q:PV):List (List cC)->List PV->List PV
 | j::ks,p::ps=>(if j=k then q else p)::wj k q ks ps
 | _,ps=>ps
def wm:wj k q [] ps=ps:=by cases ps<;>rfl
def uG(t:Bool)(k:List cC)(q:PV)(ks:List (List cC))(ps:List PV):aj:=if gv k ks=true then⟨.eR t ks,wj k q ks ps⟩else⟨.eR t (ks++[k]),ps++[q]⟩
section
variable {K:W.Frag} {F:Fz}
def pw(h:Fg p=some k)(b:aY K F p v):v=kV k:=by
 cases p<;>cases h
 ·exact au.mp b
 ·exact bh.mp b
theorem rQ:∀{ps:List PV} {ks:List cC} {vs:List V},aT Fg ps=some ks->aq K F ps vs->vs=ks.map kV
 | [],_,_,h,b=>by cases h;exact b.bN
 | _::_,_,_,h,b=>by
  obtain⟨k,r,h1,h2,rfl⟩:=cP h;obtain⟨v,w,rfl,b1,b2⟩:=b.bE;rw[pw h1 b1,rQ h2 b2];rfl
def gG(h:iX false p=some k)(b:aY K F p v):∃j,k=[j]/\v=kV j:=by
 obtain⟨j,e,rfl⟩:=aL h;exact⟨j,rfl,pw e b⟩
def iY(h:iX true p=some k)(b:aY K F p v):∃c,v=.ref c/\fw K F.F c (k.map kV):=by
 unfold iX at h;split at h
 ·grind
 ·obtain⟨_,h⟩:=bH h;obtain⟨c,vs,rfl,hs,hb⟩:=bu.mp b;rw[rQ h hb]at hs;exact⟨c,rfl,hs⟩
 ·cases h
theorem iZ(j:cC):∀kvs:List (cC×V),gv [j] (kvs.map λy=>[y.1])=(fX kvs j).isSome
 | []=>rfl
 | (i,v)::r=>by
  have ih:=iZ j r;unfold gv at ih ⊢;rw[aA,lU,ih];by_cases h:i=j
  ·subst h;rw[kO rfl];simp
  ·rw[kP h];simp[h]
theorem nz:∀{kvs:List (cC×V)} {ps:List PV} {p:PV},da [j] (kvs.map λy=>[y.1]) ps=some p->aq K F ps (kvs.map (·.2))->∃v,fX kvs j=some v/\aY K F p v
 | [],_,_,h,_=>by cases h
 | (i,v)::r,[],_,h,_=>by cases h
 | (i,v)::r,q::ps,p,h,b=>by
  obtain⟨v',w,e,b1,b2⟩:=b.bE;cases e;have h:(if [i]=[j]then some q else da [j] (r.map λy=>[y.1]) ps)=some p:=h
  by_cases hi:i=j
  ·subst hi;rw[if_pos rfl]at h;cases h;exact⟨v,kO rfl,b1⟩
  ·rw[if_neg (by grind)]at h
   rw[kP hi];exact nz h b2
def Fh(bq:aY K F q v)(b:aq K F ps (kvs.map (·.2))) :
  ∃rR vA,uG false [j] q (kvs.map λy=>[y.1]) ps=⟨.eR false rR,vA⟩/\(putK kvs j v).map (λy=>[y.1])=rR/\aq K F vA ((putK kvs j v).map (·.2)):=by
 unfold uG putK;rw[iZ,o7];cases e:(fX kvs j).isSome with
 | false=>exact⟨_,_,rfl,by simp,by simpa using b.append (.cons bq .nil)⟩
 | true =>
  refine⟨_,_,rfl,?_,?_⟩
  ·rw[if_pos rfl,bS];exact List.map_congr_left λy _=>by grind
  ·rw[if_pos rfl];clear e;induction kvs generalizing ps with
   | nil=>rw[bL,wm];exact b
   | cons y r ih =>
    cases ps with
    | nil=>have:=b.length;simp at this
    | cons p ps =>
     obtain⟨v',w,e,b1,b2⟩:=b.bE;simp only[aA,t6]at e;obtain⟨rfl,rfl⟩:=e;have ih:=ih b2;by_cases hy:y.1=j
     ·simpa only[aA,wj,hy,dE]using aq.cons bq ih
     ·have:¬ [y.1]=[j]:=by grind
      simpa only[aA,wj,hy,this,cu]using aq.cons b1 ih
def y9(k:List cC)(xs:List (List cC×Addr×Value)):gv k (xs.map (·.1))=(atKey xs k).isSome:=(Ci xs k).symm
theorem AV:∀{xs:List (List cC×Addr×Value)} {ps:List PV} {vs:List V} {p:PV},da k (xs.map (·.1)) ps=some p->aq K F ps vs->Vals vs (xs.map (·.2.2))->∃a r v,atKey xs k=some (a,r)/\RelV v r/\aY K F p v
 | [],_,_,_,h,_,_=>by cases h
 | x::r,[],_,_,h,_,_=>by cases h
 | x::r,q::ps,vs,p,h,b,rv=>by
  obtain⟨v',w,rfl,b1,b2⟩:=b.bE;cases rv with
  | cons r1 r2 =>
   have h:(if x.1=k then some q else da k (r.map (·.1)) ps)=some p:=h
   by_cases hi:x.1=k
   ·rw[if_pos hi]at h;cases h;exact⟨x.2.1,x.2.2,v',by simp[atKey,hi],r1,b1⟩
   ·rw[if_neg hi]at h;obtain⟨a,r',v,h1,h2,h3⟩:=AV h b2 r2;exact⟨a,r',v,by unfold atKey at h1 ⊢;rw[oA,aV hi];exact h1,h2,h3⟩
def NR(bq:aY K F q v)(rq:RelV v r)(hc:fw K F.F c (k.map kV))(hk:ee K F.F xs)(b:aq K F ps vs)(rv:Vals vs (xs.map (·.2.2))) :
  ∃rR vA wo,uG true k q (xs.map (·.1)) ps=⟨.eR true rR,vA⟩/\(storedH xs k c r).map (·.1)=rR/\ee K F.F (storedH xs k c r)/\aq K F vA wo/\Vals wo ((storedH xs k c r).map (·.2.2)):=by
 unfold uG storedH;rw[y9];cases e:(atKey xs k).isSome with
 | false =>
  refine⟨_,_,vs++[v],rfl,by simp,λx hx=>?_,b.append (.cons bq .nil),by simpa using rv.append (.cons rq .nil)⟩
  simp only[cW,cu,bK,bc]at hx;rcases hx with hx | rfl
  ·exact hk x hx
  ·exact hc
 | true =>
  simp only[dE];have hm:(xs.map (putAt k r)).map (·.1)=xs.map (·.1):=by
   rw[bS];exact List.map_congr_left λy _=>by simp only[Function.comp,putAt];split<;>rfl
  have key:ee K F.F (xs.map (putAt k r)):=λx hx=>by
   obtain⟨y,hy,rfl⟩:=bQ.mp hx;have:=hk y hy;unfold putAt;split<;>exact this
  suffices h:∃wo,aq K F (wj k q (xs.map (·.1)) ps) wo/\Vals wo ((xs.map (putAt k r)).map (·.2.2)) by
   obtain⟨wo,h1,h2⟩:=h;exact⟨_,_,wo,rfl,hm,key,h1,h2⟩
  clear e hk hm key;induction xs generalizing ps vs with
  | nil=>exact⟨vs,by rw[bL,wm];exact b,rv⟩
  | cons x xs ih =>
   cases ps with
   | nil=>rw[b.bN]at rv;cases rv
   | cons p ps =>
    obtain⟨v',w,rfl,b1,b2⟩:=b.bE;cases rv with
    | cons r1 r2 =>
     obtain⟨wo,h1,h2⟩:=ih b2 r2;by_cases hx:x.1=k
     ·exact⟨v::wo,by simpa only[aA,wj,hx,dE]using aq.cons bq h1,by simpa only[aA,putAt,hx,dE]using Paired.cons rq h2⟩
     ·exact⟨v'::wo,by simpa only[aA,wj,hx,cu]using aq.cons b1 h1,by simpa only[aA,putAt,hx,cu]using Paired.cons r1 h2⟩
end
def dI:G2:=λh p q=>match p with
 | .str z=>(qN q).bind λi=>if z.length<=gY then(oZ z.cps.toList i).map λc=>.str ⟨#[c]⟩else none
 | p=>match cG h p with
  | some (.ag,ps)=>(qN q).bind (oZ ps)
  | some (.lst,ps)=>(qN q).bind (oZ ps)
  | some (.eR t ks,ps)=>(iX t q).bind λk=>da k ks ps
  | _=>none
section
variable {X:Cx} {aa:Hp} {ab:Fz} {a b e:Expr} {fa fb:Gx PV} {pos:Pos}
def ixT(hu:X.A.units+1150<cLine):Qg X (rT X.K dI):=by
 rintro value slice ae s σ H x y v u Q I rx ry ⟨aa,ab,F,st,τ,pa,pb,p,e,R,ba,bb,k⟩ hs
 have more:(match cG st.h pa with
  | some (.ag,ps)=>(qN pb).bind (oZ ps)
  | some (.lst,ps)=>(qN pb).bind (oZ ps)
  | some (.eR t ks,ps)=>(iX t pb).bind λk=>da k ks ps
  | _=>none)=some p->wpAny (model X.prog X.w) X.A (subscriptTail value slice v u) (EP X ae σ Q) X.xe s:=λe=>by
  split at e
  ·rename_i z;obtain⟨i,e1,e2⟩:=aE e;rw[ek e1]at bb;rw[au.mp bb]at ry;obtain⟨a,vs,rfl,ha,eI⟩:=R.at z ba;obtain⟨w,hw,bw⟩:=eI.oZ e2;exact Nd value slice ae s σ H _ _ v u Q I rx ry ⟨a,vs,_,w,rfl,rfl,ha.2,hw,k _ H F R (Gr.refl F) bw⟩ hs
  ·rename_i z;obtain⟨i,e1,e2⟩:=aE e;rw[ek e1]at bb;rw[au.mp bb]at ry;obtain⟨a,vs,rfl,ha,eI⟩:=R.at z ba;obtain⟨w,hw,bw⟩:=eI.oZ e2;exact Jl value slice ae s σ H _ _ v u Q I rx ry ⟨a,vs,_,w,rfl,rfl,gC.sq ha,hw,k _ H F R (Gr.refl F) bw⟩ hs
  ·rename_i t ks ps z;obtain⟨kk,e1,e2⟩:=aE e;obtain⟨a,vs,rfl,ha,eI⟩:=R.at z ba;cases rx;cases t with
   | false =>
    obtain⟨kvs,g1,g2,g3⟩:=ha;obtain⟨j,rfl,rfl⟩:=gG e1 bb;subst g2 g3;obtain⟨w,hw,bw⟩:=nz e2 eI;obtain⟨_,hd,us,rel,dd⟩:=AJ I.hok (.inl g1);have hr:=rel.val j;rw[hw]at hr;cases hv:valueAt us j with
    | none=>rw[hv]at hr;exact hr.elim
    | some u' =>
     rw[hv]at hr;exact lY dd.typeIs PySem.F.slot_dict_getitem.lookup (wpAny_getItem_of (mD ry) dd.mapOf hv ⟨w,H,I.tok _,hr,k _ H F R (Gr.refl F) bw⟩) hs
   | true =>
    obtain⟨xs,g1,g2,g3,g4⟩:=ha;obtain⟨c,rfl,hc⟩:=iY e1 bb;cases ry;subst g3;obtain⟨ad,r,w,hw,Jm,bw⟩:=AV e2 eI g4;obtain⟨_,hd,dd⟩:=rM I (.inl g1) (λz hz=>aS R.sub (g2 z hz))
    obtain⟨o,_,_,ho,hx,_⟩:=id dd;refine lY ⟨o,ho,hx.1⟩ PySem.F.slot_dict_getitem.lookup (RD (by lia) I (.inl g1) (λz hz=>aS R.sub (g2 z hz)) (aS R.sub hc) hw λs' I'=>⟨w,H,I',Jm,k _ H F R (Gr.refl F) bw⟩) hs
  ·cases e
 cases pa with
 | str z =>
  obtain⟨i,e1,e2⟩:=aE e;rw[ek e1]at bb;obtain⟨hz,e2⟩:=bH e2;obtain⟨c,e3,rfl⟩:=aL e2;rw[bh.mp ba]at rx;rw[au.mp bb]at ry;exact Nf value slice ae s σ H _ _ v u Q I rx ry ⟨z,i,c,rfl,rfl,c9 hz,e3,k _ H F R (Gr.refl F) (bh.mpr rfl)⟩ hs
 | aK=>exact more e
 | bl _=>exact more e
 | int _=>exact more e
 | ref _=>exact more e
 | fn _=>exact more e
 | nd _ _=>exact more e
def Wz(hu:X.A.units+1150<cLine)(ha:PE X a (tE X aa ab fa))(hb:PE X b (tE X aa ab fb))(hs:kM b):PE X (.Subscript a b pos) (tE X aa ab (op2 dI fa fb)):=(ER (ixT hu) ha hb hs).imp λ_ _ _ h=>nv h
def Cr(n:Bool):G2:=λh p q=>match cG h q with
 | some (.eR t ks,_)=>(iX t p).map λk=>.bl (if n=true then !gv k ks else gv k ks)
 | _=>(E5 h q).bind λqs=>(Ww h p qs).map λb=>.bl (if n=true then !b else b)
def NS(hu:X.A.units+1150<cLine):qC X (compareOp .In) (Cr false):=by
 rintro ae s σ H x y v u Q I rx ry ⟨aa,ab,F,st,τ,pa,pb,p,e,R,ba,bb,k⟩
 unfold Cr at e;split at e
 ·rename_i t ks ps z;obtain⟨kk,e1,rfl⟩:=aL e;obtain⟨a,vs,rfl,ha,eI⟩:=R.at z bb;cases ry;cases t with
  | false =>
   obtain⟨kvs,g1,g2,g3⟩:=ha;obtain⟨j,rfl,rfl⟩:=gG e1 ba;obtain⟨_,hd,us,rel,dd⟩:=AJ I.hok (.inl g1);refine wpAny_in_of (mD rx) hd dd.mapOf ⟨.bl (fX kvs j).isSome,H,I.tok _,?_,k _ H F R (Gr.refl F) (aQ.mpr ?_)⟩
   ·rw[(rel.val j).rK];rfl
   ·rw[<-g2,iZ];rfl
  | true =>
   obtain⟨xs,g1,g2,g3,g4⟩:=ha;obtain⟨c,rfl,hc⟩:=iY e1 ba;cases rx;exact RB (by lia) I (.inl g1) (λz hz=>aS R.sub (g2 z hz)) (aS R.sub hc) λs' I'=>⟨.bl _,H,I',rfl,k _ H F R (Gr.refl F) (aQ.mpr (by rw[<-g3,y9];rfl))⟩
 ·obtain⟨qs,e1,e⟩:=aE e;obtain⟨b,e2,rfl⟩:=aL e;exact(Fb hu I rx ry R ba bb e1 e2).1 (k _ H F R (Gr.refl F) (aQ.mpr rfl))
def Cs(hu:X.A.units+1150<cLine):qC X (compareOp .NotIn) (Cr true):=by
 rintro ae s σ H x y v u Q I rx ry ⟨aa,ab,F,st,τ,pa,pb,p,e,R,ba,bb,k⟩
 unfold Cr at e;split at e
 ·rename_i t ks ps z;obtain⟨kk,e1,rfl⟩:=aL e;obtain⟨a,vs,rfl,ha,eI⟩:=R.at z bb;cases ry;cases t with
  | false =>
   obtain⟨kvs,g1,g2,g3⟩:=ha;obtain⟨j,rfl,rfl⟩:=gG e1 ba;obtain⟨_,hd,us,rel,dd⟩:=AJ I.hok (.inl g1);refine wpAny_notIn_of (mD rx) hd dd.mapOf ⟨.bl (!(fX kvs j).isSome),H,I.tok _,?_,k _ H F R (Gr.refl F) (aQ.mpr ?_)⟩
   ·rw[(rel.val j).rK];rfl
   ·rw[<-g2,iZ];rfl
  | true =>
   obtain⟨xs,g1,g2,g3,g4⟩:=ha;obtain⟨c,rfl,hc⟩:=iY e1 ba;cases rx;exact RC (by lia) I (.inl g1) (λz hz=>aS R.sub (g2 z hz)) (aS R.sub hc) λs' I'=>⟨.bl _,H,I',rfl,k _ H F R (Gr.refl F) (aQ.mpr (by rw[<-g3,y9];rfl))⟩
 ·obtain⟨qs,e1,e⟩:=aE e;obtain⟨b,e2,rfl⟩:=aL e;exact(Fb hu I rx ry R ba bb e1 e2).2 (k _ H F R (Gr.refl F) (aQ.mpr rfl))
end
def JK:G2:=λ_ p q=>match q with | .aK=>some (.bl (!kY p)) | .bl b=>(Wv b p).map λc=>.bl (!c) | _=>none
def JL:qC X (compareOp .IsNot) JK:=by
 rintro ae s σ H x y v u Q I rx ry ⟨aa,ab,F,st,τ,pa,pb,p,e,R,ba,bb,k⟩
 unfold JK at e;split at e
 ·cases e;exact IZ ae s σ H x y v u Q I rx ry ⟨cy.mp bb,k _ H F R (Gr.refl F) (aQ.mpr (by rw[AR ba]))⟩
 ·rename_i b;obtain⟨c,e1,rfl⟩:=aL e;obtain⟨a,rfl,rfl⟩:=wb e1;rw[aQ.mp ba]at rx;rw[aQ.mp bb]at ry;cases rx;cases ry;exact wpAny_isNot_plain rfl ⟨.bl _,H,I,(by cases a<;>cases b<;>rfl),k _ H F R (Gr.refl F) (aQ.mpr rfl)⟩
 ·cases e
def YR:G2:=mZ (λ_ _=>true) λi j=>.bl (decide (j<i))
def wq:G2:=λh p q=>match p,q with
 | .str a,.str b=>some (.bl (!(decide (b.cps.toList<a.cps.toList))))
 | p,q=>YL h p q
def NT:qC X (compareOp .LtE) wq:=by
 rintro ae s σ H x y v u Q I rx ry ⟨aa,ab,F,st,τ,pa,pb,p,e,R,ba,bb,k⟩
 unfold wq at e;split at e
 ·cases e;rw[bh.mp ba]at rx;rw[bh.mp bb]at ry;obtain⟨t1,rfl⟩:=rx;obtain⟨t2,rfl⟩:=ry;exact PySem.P.le_str ⟨.bl _,H,I,rfl,k _ H F R (Gr.refl F) (aQ.mpr rfl)⟩
 ·exact eE (rO Q8) (λ_ _ _=>trivial) (λ_ _ _=>aQ.mpr rfl) ae s σ H x y v u Q I rx ry ⟨aa,ab,F,st,τ,pa,pb,p,e,R,ba,bb,k⟩
def za:CmpOp->Option G2
 | .Eq=>some AQ
 | .NotEq=>some JD
 | .Lt=>some YK
 | .LtE=>some wq
 | .Gt=>some YR
 | .GtE=>some YM
 | .Is=>some U2
 | .IsNot=>some JK
 | .In=>some (Cr false)
 | .NotIn=>some (Cr true)
def jg(hu:X.A.units+1150<cLine)(h:za op=some g):qC X (compareOp op) g:=by
 have nn:∀i j:Int,(λ_ _=>true) i j=true->(λ_ _=>True) i j:=by grind
 cases op<;>cases h
 ·exact NH hu
 ·exact NI hu
 ·exact eE (rO Q7) nn λ_ _ _=>aQ.mpr rfl
 ·exact NT
 ·exact eE (rO Q9) nn λ_ _ _=>aQ.mpr rfl
 ·exact eE (rO Ra) nn λ_ _ _=>aQ.mpr rfl
 ·exact NJ
 ·exact JL
 ·exact NS hu
 ·exact Cs hu
end L2.U
namespace L2
open PySem PySem.Spec PyProof.Rows
section
variable {X:Cx}
def Fj:PE X (.Dict [] [] pos) (Lx (.dK [])):=λae s σ H Q I h =>
 wpAny_Dict_empty ⟨.ref s.heap.objs.size,_,I.laid (o:=.dK []) (λ_ _ q=>ax _ q) (ao _)
  ⟨fg _,fK.mpr (bj (aN (iU I))),[],.nil,yt s.heap⟩,rfl,h _ (I.hok.fresh (ao _))⟩
def R8:V->List V->Hp->VK->Prop:=λx vs H Q=>∃a kvs k y,x=.ref a/\vs=[kV k,y]/\H a=some (.dK kvs)/\kvs.length<sizeLine/\(∀v,fX kvs k=some v->Q v H)/\(fX kvs k=none->Q y (cf H a (.dK (kvs++[(k,y)]))))
def NU:Nc X "dict.setdefault" R8:=by
 intro ae s σ H x xs v us Q I rx rv h;obtain⟨a,kvs,k,y,rfl,rfl,e,hl,h1,h2⟩:=h;cases rx;obtain⟨u1,u2,rfl,r1,r2⟩:=rv.two;obtain⟨z,hd,vs,rel,dd⟩:=EY I.hok e;refine call_meetsIn DX dd.typeIs PySem.F.entry_dict_setdefault (PySem.F.args_dict_setdefault_3 _ _ _) (kt_meets_setdefault (bD X.prog X.w) a (mD r1) hd u2) ⟨vs,dd,by rw[<-rel.length];exact z,λw hw=>?_,λhn h' Nj hs=>?_⟩
 ·have rk:=rel.val k;rw[hw]at rk;cases hv:fX kvs k with
  | none=>rw[hv]at rk;exact rk.elim
  | some v0=>rw[hv]at rk;exact⟨v0,H,I.tok _,rk,h1 v0 hv⟩
 ·have rk:=rel.val k;rw[hn]at rk;have hv:fX kvs k=none:=by
   cases hv:fX kvs k with
   | none=>rfl
   | some v0=>rw[hv]at rk;exact rk.elim
  have JM:=rel.put k r2;rw[EX y hv]at JM;have he:∃q,h'.get? a=some q:=let ⟨q,_,_,hq,_⟩:=Nj;⟨q,hq⟩
  exact⟨y,_,I.write (o:=.dK (kvs++[(k,y)])) (by rw[e];exact True.intro) (.inl rfl) (λc q' hc z=>(hs.2 c hc).trans z) he ⟨by rw[bC];exact hl,hd,_,JM,Nj⟩,r2,h2 hv⟩
def AW:V->List V->Hp->VK->Prop:=λx vs H Q=>∃(l:Addr) (xs:List V) (i:Int) (y:V),x=.ref l/\vs=[.int i,y]/\H l=some (.lst xs)/\xs.length<sizeLine/\0<=i/\i<=1000000/\Q .aK (cf H l (.lst (xs.take i.toNat++y::xs.drop i.toNat)))
def NV(h0:0<=i)(hi:i<=1000000):¬(!Builtin.List.listFitsIndex i)=true:=by
 unfold Builtin.List.listFitsIndex;have h1:decide (-(2^63:Int)<=i)=true:=by grind
 have h2:decide (i<2^63)=true:=by grind
 rw[h1,h2];simp
noncomputable def R9(i:Int)(u:Value):Array Value->Array Value:=λxs=>have k:=if i<0 then(i+((xs.size:Nat):Int)).toNat else min i.toNat xs.size;(xs.extract 0 k).push u++xs.extract k
def JN(h0:0<=i)(ak:List Value)(u:Value):R9 i u ak.toArray=(ak.take i.toNat++u::ak.drop i.toNat).toArray:=by
 unfold R9;have h1:¬i<0:=by lia
 simp only[h1,bV];apply Array.ext';simp only[List.extract_eq_drop_take];by_cases hb:i.toNat<=ak.length
 ·rw[ou hb];have h2:List.take (ak.length-i.toNat) (List.drop i.toNat ak)=List.drop i.toNat ak:=iF (by grind)
  simp[h2]
 ·grind
def Ct:UY X "list.insert" AW:=by
 intro ae s σ H x vs v us Q I rx rv h;obtain⟨l,xs,i,y,rfl,rfl,hH,hz,h0,hi,q⟩:=h;cases rx;obtain⟨u1,u2,rfl,⟨t,rfl⟩,r2⟩:=rv.two;obtain⟨z,ak,n,r,hl,e⟩:=I.gu hH;have U4:=r.length;have J:=I.Jo (t':=s.toks) hH e (JN h0 ak u2) ((r.take i.toNat).append (.cons r2 (r.drop i.toNat))) (by grind)
 exact dD F.slot_list_insert ⟨_,e,rfl⟩ F.entry_list_insert (F.args_list_insert_3 _ _ _) (@PySem.AutoListH.list_insert_list_int_val_1 l ak.toArray n i t u2 (NV h0 hi) (by grind)) ⟨e,.aK,_,J,rfl,q⟩
def NW(K:W.Frag):V->List V->Hp->VK->Prop:=λx vs H Q=>∃l b xs zs,x=.ref l/\vs=[.ref b]/\H l=some (.lst xs)/\(fw K H b zs\/gC K H b zs)/\xs.length+zs.length<=sizeLine/\Q .aK (cf H l (.lst (xs++zs)))
def uH(l:Addr)(ak:Array Value)(n:Nat)(b:Addr)(more:Array Value)(n2:Nat)(dd:Option Addr)(sl:Array (Option Value))(h0:¬(!ak.isEmpty&&Builtin.List.listTooLong (ak.size+more.size))=true)(h1:ak.size<=sizeLine)(h2:ak.size+more.size<=sizeLine+1) :
  Meets (Builtin.«list.extend» ⟨[.ref l,.ref b],[]⟩) (λ_ R s=>s.heap.get? l=some {cls:=.type "list",dict:=none,data:=.seq ak n,slots:=#[]}/\s.heap.get? b=some {cls:=.type "tuple",dict:=dd,data:=.seq more n2,slots:=sl} /\
   R (.ok (.ret Value.none)) {s with heap:=s.heap.update l (Obj.mapSeq λx=>x++more),toks:=s.toks}) :=
 .of_wp λprog w A R s h=>by
  obtain⟨hp,g,d,tk,os⟩:=s;obtain⟨hl,hb,h⟩:=h;have f1:=AutoSeq1.idx_int;have f2:=AutoSeq1.sub_tuple_tuple;have f3:=AutoSeq1.sub_list_list;have f4:=AutoSeq1.sub_tuple_list;have f5:=AutoSeq1.sub_list_tuple
  wp_walk using (oy hl rfl (_hz':=(by rw[Array.size_append];exact h2))),iD hl,iD hb
  exact⟨_,rfl,h⟩
def NX:UY X "list.extend" (NW X.K):=by
 intro ae s σ H x vs v us Q I rx rv h;obtain⟨l,b,xs,zs,rfl,rfl,hH,hB,hz,q⟩:=h;cases rx;obtain⟨u,rfl,ru⟩:=rv.one;cases ru;obtain⟨z,ak,n,r,hl,e⟩:=I.gu hH;have go:∀cD,Vals zs cD->(¬(!ak.toArray.isEmpty&&Builtin.List.listTooLong (ak.toArray.size+cD.toArray.size))=true/\ak.toArray.size<=sizeLine/\ak.toArray.size+cD.toArray.size<=sizeLine+1) /\
   EP X ae σ Q Value.none {s with heap:=s.heap.update l (Obj.mapSeq λx=>x++cD.toArray),toks:=s.toks}:=λcD r2=>by
  have U1:=r2.length;have hsz:ak.toArray.size+cD.toArray.size<=sizeLine:=by grind
  refine⟨⟨?_,by grind,(Nat.le_add_right_of_le ‹_›)⟩,.aK,_,I.Jo hH e (by simp) (r.append r2) (by grind),rfl,q⟩
  rw[vU hsz,Bool.and_false];exact dP
 rcases hB with hB | hB
 ·obtain⟨cD,r2,⟨⟨cls,dd,YS,sl⟩,e2,hc,n2,hd⟩,_⟩:=I.tuple hB;simp only at hc hd;subst hc hd;obtain⟨⟨g1,g2,g3⟩,g4⟩:=go cD r2;exact dD F.slot_list_extend ⟨_,e,rfl⟩ F.entry_list_extend (F.args_list_extend_2 _ _) (uH l ak.toArray n b cD.toArray n2 dd sl g1 g2 g3) ⟨e,e2,g4⟩
 ·obtain⟨cD,n2,r2,e2,_⟩:=I.kQ hB;obtain⟨⟨g1,g2,g3⟩,g4⟩:=go cD r2;exact dD F.slot_list_extend ⟨_,e,rfl⟩ F.entry_list_extend (F.args_list_extend_2 _ _) (AutoSeq1.list_extend_list_list_0 l ak.toArray n b cD.toArray n2 g1 g2 g3) ⟨e,e2,g4⟩
def AX(kvs:List (cC×V))(k:cC)(v:V):(putK kvs k v).length<=kvs.length+1:=by
 unfold putK;split
 ·grind
 ·grind
def Sb:Ey:=λo i v H Q=>∃a kvs k,o=.ref a/\i=kV k/\H a=some (.dK kvs)/\kvs.length<sizeLine/\Q (cf H a (.dK (putK kvs k v)))
def NY:Ez X Sb:=by
 rintro ae s σ H o i v ov iv u Q I ro ri rv ⟨a,kvs,k,ex,ey,e1,e2,q⟩
 subst ex ey;cases ro;obtain⟨z,hd,vs,rel,dd⟩:=EY I.hok e1;refine wpAny_setItem_pairs (mD ri) dd (λh' Nj Sd=>?_) (by rw[<-rel.length];exact z)
 have JM:=rel.put k rv;have he:∃q,h'.get? a=some q:=let ⟨q,_,_,hq,_⟩:=Nj;⟨q,hq⟩
 exact⟨_,I.write (o:=.dK (putK kvs k v)) (by rw[e1];exact True.intro) (.inl rfl) (λc q' hc z=>(Sd.2 c hc).trans z) he ⟨by have:=AX kvs k v;lia,hd,_,JM,Nj⟩,q⟩
def Se(K:W.Frag):Ey:=λo i v H Q=>∃a b xs k,o=.ref a/\i=.ref b/\H a=some (.dT xs)/\ee K H xs/\fw K H b (k.map kV)/\xs.length<sizeLine/\∀r,RelV v r->Q (cf H a (.dT (storedH xs k b r)))
def NZ(hu:X.A.units+1<cLine):Ez X (Se X.K):=by
 rintro ae s σ H o i v ov iv u Q I ro ri rv ⟨a,b,xs,k,ex,ey,e1,e2,e3,e4,q⟩
 subst ex ey;cases ro;cases ri;exact Ni hu I e1 e2 e3 e4 λs4 I4=>⟨_,I4,q u rv⟩
end
end L2
namespace L2.U
open PySem PySem.Spec PyProof.Rows
abbrev MG:=aj->List PV->Option (aj×PV)
def zb(h:List aj):PV->Option (Nat×aj)
 | .ref n=>(h[n]?).bind λc=>if live c=true then some (n,c)else none
 | _=>none
def gH(e:zb h p=some (n,c)):p=.ref n/\h[n]?=some c/\live c=true:=by
 cases p with
 | ref m =>
  obtain⟨d,e1,e2⟩:=aE e;obtain⟨hl,e3⟩:=aw e2;cases e3;exact⟨rfl,e1,hl⟩
 | _=>cases e
def j1(g:MG)(p:PV)(as:List PV):Gx PV:=λst=>(zb st.h p).bind λc=>(g c.2 as).map λr=>(.ok r.2,⟨st.ρ,st.h.set c.1 r.1⟩)
section
variable {X:Cx} {aa H:Hp} {ab F:Fz} {st:bU} {σ:St}
def wt(K:W.Frag)(r:V->List V->Hp->VK->Prop)(g:MG):Prop:=∀(aa H:Hp) (ab F:Fz) (st:bU) (σ:St) (n:Nat) (c c':aj) (a:Addr) (as:List PV) (ws:List V) (q:PV) (Q:VK),
 Rep K aa ab F st σ H->st.h[n]?=some c->live c=true->F.μ[n]?=some a->g c as=some (c',q)->aq K F as ws->(∀v F' H',Rep K aa ab F' ⟨st.ρ,st.h.set n c'⟩ σ H'->Gr F F'->aY K F' q v->Q v H')->r (.ref a) ws H Q
def Rep.put(R:Rep X.K aa ab F st σ H){c d:aj}(hc:st.h[n]?=some c)(hl:live c=true)(ha:F.μ[n]?=some a)(hn:jU X.K F.F (cf H a o) a true d.k vs)(hb:aq X.K F d.ps vs) :
  Rep X.K aa ab F ⟨st.ρ,st.h.set n d⟩ σ (cf H a o):=⟨R.c.write hc hl ha hn hb,R.l⟩
noncomputable def gu(f:List PV->List PV->Option (List PV)):MG:=λc as=>match c.k with
 | .lst=>(f c.ps as).map λqs=>(⟨.lst,qs⟩,.aK)
 | _=>none
def uI
  (h:∀(H:Hp) (F:Fz) (ps as qs:List PV) (vs ws:List V) (a:Addr) (Q:VK) (h:List aj),b7 F.F H->f ps as=some qs->H a=some (.lst vs)->aq X.K F ps vs->aq X.K F as ws->(∀wo,aq X.K F qs wo->Q .aK (cf H a (.lst wo)))->r (.ref a) ws H Q):wt X.K r (gu f):=by
 intro aa H ab F st σ n c c' a as ws q Q R hc hl ha hg hb k;unfold gu at hg;split at hg
 ·rename_i hk;obtain⟨qs,e1,e2⟩:=aL hg;cases e2;obtain⟨_,vs,h2,h3⟩:=R.c.cell n c a hc ha hl;rw[hk]at h2;exact h H F c.ps as qs vs ws a Q st.h R.sub e1 h2 h3 hb λwo b'=>k _ F _ (R.put hc hl ha ar b') (Gr.refl _) (cy.mpr rfl)
 ·cases hg
def j2:List PV->List PV->Option (List PV):=λps as=>match as with | [p]=>if ps.length<gY then some (ps++[p])else none | _=>none
def JO:wt X.K AI (gu j2):=uI λH F ps as qs vs ws a Q h hs hf ha bp ba k=>by
 unfold j2 at hf;split at hf
 ·obtain⟨hl,rfl⟩:=aw hf;obtain⟨v,rfl,b⟩:=cj ba;exact⟨a,vs,v,rfl,rfl,ha,by rw[<-bp.length];exact bP hl (c9 (ao _)),k _ (bp.append ba)⟩
 ·cases hf
noncomputable def JP:List PV->List PV->Option (List PV):=λps as=>match as with | []=>some ps.reverse | _=>none
def JQ:wt X.K vV (gu JP):=uI λH F ps as qs vs ws a Q h hs hf ha bp ba k=>by
 unfold JP at hf;split at hf
 ·cases hf;exact⟨a,vs,rfl,ba.bN,ha,k _ bp.reverse⟩
 ·cases hf
def JR:List PV->List PV->Option (List PV):=λps as=>match as with
 | [.int i,p]=>if(0<=i/\i<=1000000/\ps.length<gY)then some (ps.take i.toNat++p::ps.drop i.toNat)else none
 | _=>none
def JS:wt X.K AW (gu JR):=uI λH F ps as qs vs ws a Q h hs hf ha bp ba k=>by
 unfold JR at hf;split at hf
 ·obtain⟨⟨h1,h2,h3⟩,rfl⟩:=aw hf;obtain⟨w1,w2,rfl,b1,b2⟩:=kZ ba;rw[au.mp b1];exact⟨a,vs,_,w2,rfl,rfl,ha,bP (by rw[<-bp.length];exact h3) (c9 (ao _)),h1,h2,k _ ((bp.take _).append (.cons b2 (bp.drop _)))⟩
 ·cases hf
def Fl(p:PV)(as:List PV):Gx PV:=λst=>match as with
 | [q]=>(E5 st.h q).bind λrs=>j1 (gu λps _=>if ps.length+rs.length<=gY then some (ps++rs)else none) p [] st
 | _=>none
def JT:MG:=λc as=>match c.k,as with
 | .eR false ks,[kp,y]=>(iX false kp).bind λk=>if ks.length<gY then(if gv k ks=true then(da k ks c.ps).map λp=>(c,p)else some (⟨.eR false (ks++[k]),c.ps++[y]⟩,y))else none
 | _,_=>none
def JU:wt X.K R8 JT:=by
 intro aa H ab F st σ n c c' a as ws q Q R hc hl ha hg hb k;unfold JT at hg;split at hg
 ·rename_i ks kp y hk;obtain⟨kk,e1,e2⟩:=aE hg;obtain⟨hz,e2⟩:=bH e2;obtain⟨w1,w2,rfl,b1,b2⟩:=kZ hb;obtain⟨j,rfl,rfl⟩:=gG e1 b1;obtain⟨_,vs,h2,h3⟩:=R.c.cell n c a hc ha hl;have hnd:=h2;rw[hk]at h2;obtain⟨kvs,g1,g2,g3⟩:=h2;rw[<-g3]at h3;refine⟨a,kvs,j,w2,rfl,rfl,g1,(by
   have:ks.length=kvs.length:=by grind
   exact bP (by grind) (c9 (ao _))),λv hv=>?_,λhv=>?_⟩
  ·rw[if_pos (by rw[<-g2,iZ,hv];rfl)]at e2
   obtain⟨p,e3,e4⟩:=aL e2;cases e4;rw[<-g2]at e3;obtain⟨v',M4,bv⟩:=nz e3 h3;rw[hv]at M4;cases M4;have e:st.h.set n c=st.h:=by
    apply List.ext_getElem?;intro i;by_cases hi:n=i
    ·grind
    ·grind
   rw[e]at k;exact k v F H R (Gr.refl _) bv
  ·rw[if_neg (by rw[<-g2,iZ,hv];simp)]at e2
   cases e2;refine k w2 F _ (R.put (vs:=kvs.map (·.2)++[w2]) hc hl ha ⟨kvs++[(j,w2)],ar,by grind⟩ ?_) (Gr.refl _) b2
   exact h3.append (.cons b2 .nil)
 ·cases hg
def Tx.mut(hg:wt X.K r g)(h:Tx X aa ab (aY X.K) F st (j1 g p as) σ Q)(R:Rep X.K aa ab F st σ H)(bp:aY X.K F p v)(ba:aq X.K F as ws):r v ws H Q:=by
 obtain⟨q,h1,h2⟩:=h;obtain⟨⟨n,c⟩,e1,e2⟩:=aE h1;obtain⟨⟨c',x⟩,e3,e4⟩:=aL e2;subst e4;obtain⟨rfl,hc,hl⟩:=gH e1;obtain⟨a,ha,rfl⟩:=dk.mp bp;exact hg aa H ab F st σ n c c' a as ws x Q R hc hl ha e3 ba λv F' H' R' g' b'=>h2 v H' F' R' g' b'
def Tx.ext{Q:VK}(h:Tx X aa ab (aY X.K) F st (Fl p as) σ Q)(R:Rep X.K aa ab F st σ H)(bp:aY X.K F p v)(ba:aq X.K F as ws):NW X.K v ws H Q:=by
 obtain⟨x,h1,h2⟩:=h;unfold Fl at h1;split at h1
 ·rename_i q;obtain⟨rs,e0,h1⟩:=aE h1;obtain⟨w,rfl,bw⟩:=cj ba;obtain⟨b,zs,rfl,hs,hb⟩:=R.seq e0 bw;obtain⟨⟨n,c⟩,e1,e2⟩:=aE h1;obtain⟨⟨c',y⟩,e3,e4⟩:=aL e2;subst e4;obtain⟨rfl,hc,hl⟩:=gH e1;obtain⟨a,ha,rfl⟩:=dk.mp bp;unfold gu at e3;split at e3
  ·rename_i hk;obtain⟨qs,e5,e6⟩:=aL e3;cases e6;obtain⟨hz,rfl⟩:=aw e5;obtain⟨_,vs,g2,g3⟩:=R.c.cell n c a hc ha hl;rw[hk]at g2;exact⟨a,b,vs,zs,rfl,rfl,g2,hs,by rw[<-g3.length,<-hb.length];exact c9 hz,h2 .aK _ F (R.put hc hl ha ar (g3.append hb)) (Gr.refl _) (cy.mpr rfl)⟩
  ·cases e3
 ·cases h1
end
section
variable {prog:Program} {w:World} {A:Around} {R:Result->Shared->Prop} {s:Shared}
abbrev nb(prog:Program)(w:World)(A:Around)(env:Env)(R:Result->Shared->Prop):Value->Shared->Prop:=notedBy (model prog w) A env λe s'=>R (.error e) s'
noncomputable abbrev AY(ifs:List Expr)(env:Env):Sem Bool:=forIn ifs true λc r=>if r=true then do let ok <-isTrue c env (eval c env);pure (ForInStep.yield ok)else pure (ForInStep.yield r)
def Cu(I:Nat->Shared->Prop)
  (oQ:∀n s,I n s->wpAny (model prog w) A (pyNext it) (λr s1=>match r with
   | none=>R (.ok .next) s1
   | some v=>wpAny (model prog w) A (letOwnedTupleGo tg it v) (λ_ YT=>wpAny (model prog w) A (assign tg env v) (λ_ s2=>wpAny (model prog w) A (AY ifs env) (λok s3 =>
      if ok=true then wpAny (model prog w) A (eval elt env) (λx s4=>wpAny (model prog w) A (call (.builtin "list.append") [acc,x]) (λ_ s5=>∃m,m<n/\I m s5) (nb prog w A env R) s4) (nb prog w A env R) s3
      else ∃m,m<n/\I m s3) (nb prog w A env R) s2) (nb prog w A env R) YT) (nb prog w A env R) s1) (nb prog w A env R) s)
  (n:Nat) (h:I n s):codeAny (model prog w) A (.compLoop (.ListComp elt [⟨tg,iter,ifs,0⟩] scope pos) 0 it acc env) R s:=by
 refine codeAny_loop rfl I (λn s hI=>?_) n h
 refine wpAny_noted ?_;rw[compTurn_list];refine af (ua (af (thn (oQ n s hI) λr s1 h1=>?_)))
 cases r with
 | none=>exact ai h1
 | some v =>
  refine af (thn h1 λ_ YT WA=>af (thn WA λ_ s2 h2=>af (thn h2 λok s3 h3=>?_)))
  cases ok with
  | false=>exact ai ⟨rfl,h3⟩
  | true=>exact af (af (thn h3 λx s4 h4=>af (thn h4 λ_ s5 h5=>ai (ai ⟨rfl,h5⟩))))
end
noncomputable def mj(env:Env):List (Str×NameKind)->List (Str×Addr)->List (Str×Addr)
 | [],cs=>cs
 | (n,k)::r,cs=>mj env r (if k==.free then(match env.cells.lookup n with | some c=>(n,c)::cs | none=>cs)else cs)
def zc(h:∀y∈scope.names,y.2=.free->∃c,env.cells.lookup y.1=some c):closureFor scope env=pure (mj env scope.names []):=by
 have all:∀(l:List (Str×NameKind)) (cs:List (Str×Addr)),(∀y∈l,y.2=.free->∃c,env.cells.lookup y.1=some c) ->
   (forIn l cs λx r=>(match x with | (name,kind)=>if(kind==NameKind.free)=true then do let a <-cellOf env name;pure (ForInStep.yield ((name,a)::r))else pure (ForInStep.yield r):Sem (ForInStep (List (Str×Addr)))))=pure (mj env l cs):=by
  intro l;induction l with
  | nil=>intro cs _;rfl
  | cons y l ih =>
   intro cs hl;obtain⟨n,k⟩:=y;rw[oq];by_cases hk:k=.free
   ·subst hk;obtain⟨c,hc⟩:=hl (n,.free) cz rfl;have DL:=hc;have e1:cellOf env n=pure c:=by unfold cellOf;rw[DL]
    simp only[e1,mj,DL];exact ih _ λy hy=>hl y (b9 _ hy)
   ·have hb:(k==NameKind.free)=false:=by simpa using hk
    simp only[hb,mj];exact ih _ λy hy=>hl y (b9 _ hy)
 unfold closureFor;have:=all scope.names [] h;simp only[bind_pure]at this ⊢;exact this
theorem wu:∀(l:List (Str×NameKind)) (cs:List (Str×Addr)) (p:Str×Addr),p∈mj env l cs->p∈cs\/env.cells.lookup p.1=some p.2
 | [],_,_,h=>.inl h
 | (n,k)::r,cs,p,h=>by
  unfold mj at h;rcases wu r _ p h with q | q
  ·grind
  ·grind
def dc(h:(mj env l []).lookup x=some c):env.cells.lookup x=some c:=by
 rcases wu l [] (x,c) (d9 h)with q | q
 ·cases q
 ·exact q
theorem rS:∀(l:List (Str×NameKind)) (cs:List (Str×Addr)),(∃c,(x,c)∈cs)->∃c,(x,c)∈mj env l cs
 | [],_,h=>h
 | (n,k)::r,cs,⟨c,h⟩=>by
  unfold mj;refine rS r _ ⟨c,?_⟩;split
  ·grind
  ·exact h
theorem px:∀(l:List (Str×NameKind)) (cs:List (Str×Addr)),(x,NameKind.free)∈l->(∃c,env.cells.lookup x=some c)->∃c,(x,c)∈mj env l cs
 | [],_,h,_=>by cases h
 | (n,k)::r,cs,h,hc=>by
  unfold mj;rcases aF.mp h with z | z
  ·cases z;obtain⟨c,e⟩:=hc;refine rS r _ ⟨c,?_⟩;simp[e]
  ·exact px r _ z hc
theorem gw:∀{l:List (Str×Addr)},(x,c)∈l->∃c',l.lookup x=some c'
 | [],h=>by cases h
 | (n,d)::r,h=>by
  rw[gq];cases hx:x==n with
  | true=>exact⟨d,rfl⟩
  | false =>
   rcases aF.mp h with z | z
   ·grind
   ·exact gw z
def bT(X:Cx)(N:List Str)(scope:Scope)(C:Addr)(s:Shared)(H:Hp)(fp:List Addr):Cx where
 prog:=X.prog
 w:=X.w
 K:=X.K
 mg:=X.mg
 base:=X.base
 A:=X.A
 N:=N
 s₀:=s
 aa:=H
 env:=compEnvC scope (mj X.env scope.names []) C X.env
 aB:=X.stack
 stack:=X.stack
 ex:=fp
 fn:=λ_=>false
 calm:=X.calm
 pn:=[]
 xe:=λ_ _=>False
theorem fP{env:Env}:∀(names:List (Str×NameKind)) (x:Str),(names.map fun(n,k)=>if(k==NameKind.free&&env.scope.kind==.function&&env.kindOf n==some .cell)then(n,NameKind.cell)else(n,k)).lookup x =
  (names.lookup x).map λk=>if(k==NameKind.free&&env.scope.kind==.function&&env.kindOf x==some .cell)then NameKind.cell else k
 | [],_=>rfl
 | (n,j)::r,x=>by
  have e:(if(j==NameKind.free&&env.scope.kind==.function&&env.kindOf n==some .cell)=true then(n,NameKind.cell)else(n,j))=(n,if(j==NameKind.free&&env.scope.kind==.function&&env.kindOf n==some .cell)=true then NameKind.cell else j):=by split<;>rfl
  show List.lookup x ((if(j==NameKind.free&&env.scope.kind==.function&&env.kindOf n==some .cell)=true then(n,NameKind.cell)else(n,j))::_)=_
  rw[e,gq,gq];cases hx:x==n with
  | true =>
   have mF:=aH hx;subst mF;rfl
  | false=>exact fP r x
def k6{env:Env}{names:List (Str×NameKind)}(h:(names.map fun(n,k)=>if(k==NameKind.free&&env.scope.kind==.function&&env.kindOf n==some .cell)then(n,NameKind.cell)else(n,k)).lookup x=some k) :
  names.lookup x=some k\/(k=.cell/\names.lookup x=some .free):=by
 rw[fP]at h;cases z:names.lookup x with
 | none=>rw[z]at h;cases h
 | some j =>
  rw[z]at h;have h:(if(j==NameKind.free&&env.scope.kind==.function&&env.kindOf x==some .cell)=true then NameKind.cell else j)=k:=by grind
  split at h
  ·grind
  ·grind
def uJ{env:Env}{names:List (Str×NameKind)}(h:names.lookup x=some .free) :
  (names.map fun(n,k)=>if(k==NameKind.free&&env.scope.kind==.function&&env.kindOf n==some .cell)then(n,NameKind.cell)else(n,k)).lookup x=some .cell \/
  (names.map fun(n,k)=>if(k==NameKind.free&&env.scope.kind==.function&&env.kindOf n==some .cell)then(n,NameKind.cell)else(n,k)).lookup x=some .free:=by
 rw[fP,h];show some (if _ then _ else _)=_\/some (if _ then _ else _)=_
 split
 ·grind
 ·grind
structure gI (X:Cx) (N:List Str) (link:List (Option Nat)) (scope:Scope):Prop where
 kind:scope.kind=.function
 cell:∀y∈scope.names,y.2≠.cell
 names:∀y∈scope.names,y.2=.local->scope.names.lookup y.1=some .local
 free:∀y∈scope.names,y.2=.free->(X.env.kindOf y.1=some .cell\/X.env.kindOf y.1=some .free)
 len:link.length=N.length
 link:∀(i j:Nat) (x:Str),link[i]?=some (some j)->N[i]?=some x->X.N[j]?=some x/\scope.names.lookup x=some .free
noncomputable def ir(link:List (Option Nat))(σ:St):St:=link.map λo=>o.bind λj=>(σ[j]?).join
section
variable {X:Cx} {ae:List (Addr×Obj)} {σ:St} {H:Hp} {s:Shared}
def Inv.adopt(I:Inv X ae σ H s)(hn:H D=none)(h1:X.s₀.heap.objs.size<=D)(h2:D≠X.env.locals)(h3:∀x c,X.env.cells.lookup x=some c->c≠D)(h4:∀p∈X.pn++ae,p.1≠D)
  (ho:eG X.prog X.w (cf H D o) s.heap D o):Inv X ae σ (cf H D o) s:=by
 have ne:∀b u,H b=some u->b≠D:=λb u e z=>by rw[z,hn]at e;cases e
 refine I.step (ch:=[D]) (λb hb=>?_) (λb u _ _ _ e _=>e) (λb u _ _ _ e _=>⟨u.slots,e⟩) (λb u hc _ n=>?_) (λb u _ e=>⟨u,e⟩)
  (λb xs e=>by rw[aI (ne b _ e)];exact e) (λb u xs e=>by rw[aI (ne b _ e)];exact e) (λb ps e=>by rw[aI (ne b _ e)];exact e) (λm hm=>hm) (λb u e=>?_) I.bare
 ·have e:b=D:=by simpa using hb
  subst e;exact⟨.inr h1,h2,h3,h4⟩
 ·rw[aI (λz=>hc (by simp[z]))];exact n
 ·by_cases hb:b=D
  ·subst hb;rw[ar]at e;cases e;exact ho
  ·rw[aI hb]at e;exact(I.hok b u e).vK (λ_ _ _ q=>q) (λc q=>by rw[aI (ne c _ q)];exact q) (λc xs q=>by rw[aI (ne c _ q)];exact q) λc ob v q=>by rw[aI (ne c _ q)];exact q
def zd{N:List Str}{link:List (Option Nat)}(S:gI X N link scope)(I:Inv X ae σ H s)(U5:∀b∈fp,oR X ae H b)
  (hC:s.heap.objs.size<=C) (ns:h.Ns C λ_=>none) (hk:∀b o,s.heap.get? b=some o->h.get? b=some o) (WB:∀b∈fp,∃o,s.heap.get? b=some o) :
  Inv (bT X N scope C s H fp) [] (ir link σ) H {s with heap:=h,toks:=tk}:=by
 have vN:∀y∈scope.names,y.2=.free->∃c,X.env.cells.lookup y.1=some c:=λy hy hf=>I.ok.has y.1 (S.free y hy hf)
 have WC:∀x c,X.env.cells.lookup x=some c->c<s.heap.objs.size:=λx c e=>let ⟨v,o,ho,_⟩:=I.cell x c e;az ho
 refine⟨⟨I.ok.mod,S.kind,I.ok.glob,I.ok.blt,hC,λx y c h1 h2=>I.ok.inj x y c (dc h1) (dc h2),λx hx=>?_,λx c hx=>(by cases hx),I.ok.hd,I.ok.frames,.inl rfl,λb hb=>⟨?_,λx c e=>(U5 b hb).2.2.2.2.1 x c (dc e)⟩,I.bs,aM I.ok.bsz I.sz,
  λb o e hb=>?_,λb hb z=>?_,I.stack,I.uj,I.tabs⟩,rfl,I.bare,Un.kept hk,⟨_,ns,λi x v e1 e2 e3=>?_⟩,λx c e=>?_,I.hok.fresh hC,λx c e=>I.freeC x c (dc e),λp hp=>(by cases hp),I.hok.kept hk,by unfold ir;rw[ah];exact S.len⟩
 ·-- Lh cells Vw there
  have mF:=hx;have hf:scope.names.lookup x=some .free:=by
   rcases mF with h1 | h1
   ·rcases k6 h1 with q | ⟨_,q⟩
    ·exact absurd rfl (S.cell _ (d9 q))
    ·exact q
   ·rcases k6 h1 with q | ⟨z,_⟩
    ·exact q
    ·cases z
  have hm:=d9 hf;obtain⟨c,hc⟩:=px scope.names [] hm (vN _ hm rfl);exact gw hc
 ·intro z;obtain⟨o,ho⟩:=WB b hb;exact absurd (bP (az ho) (aM hC (iQ z.symm))) (dC _)
 ·rcases(U5 b hb).2.2.2.1 with z | z
  ·exact I.ok.noex b o e z
  ·exact absurd (bP (az e) (aM I.ok.bsz z)) (dC _)
 ·rcases aF.mp (I.ui b z)with q | q
  ·exact(U5 b hb).2.1 q
  ·exact(U5 b hb).2.2.1 q
 ·-- a slot: YU aaH from Lh WD
  have hi:i<link.length:=by
   have:=(b8.mp e2).1;unfold ir at this
   rwa [ah]at this
  unfold ir at e2;rw[aX,bB hi]at e2;have e2:=bI e2;cases z:link[i]with
  | none=>rw[z]at e2;cases e2
  | some j =>
   rw[z]at e2;have e2:(σ[j]?).join=some v:=e2;obtain⟨hX,hf⟩:=S.link i j x (by rw[bB hi,z]) e1
   have hm:=d9 hf;have U6:=S.free _ hm rfl;obtain⟨m,hn,hl⟩:=I.loc;obtain⟨u,r,l⟩:=hl j x v hX (by
    cases q:σ[j]? with
    | none=>rw[q]at e2;cases e2
    | some q'=>rw[q]at e2;cases q' with
     | none=>cases e2
     | some v'=>cases e2;rfl) (by rcases U6 with q | q;exact .inr (.inl q);exact .inr (.inr q))
   refine⟨u,r,.inr ⟨uJ hf,?_⟩⟩;obtain⟨c,hc⟩:=px scope.names [] hm (vN _ hm rfl);obtain⟨c',DL⟩:=gw hc;refine⟨c',DL,?_⟩;rcases l with⟨lk,_⟩ | ⟨_,d,hd,rA⟩
   ·rcases U6 with q | q<;>(rw[show X.env.kindOf x=some .local from lk]at q;cases q)
   ·have:=dc DL;rw[hd]at this;cases this;exact rA.keeps hk
 ·obtain⟨v,o,ho,hd⟩:=I.cell x c (dc e);exact⟨v,o,hk _ _ ho,hd⟩
end
abbrev TB:=V->St->Hp->(Option V->St->Hp->Prop)->Prop
def PB(X:Cx)(tg:Expr)(ifs:List Expr)(elt:Expr)(tb:TB):Prop :=
 ∀(ae:List (Addr×Obj)) (s:Shared) (σ:St) (H:Hp) (v:V) (u:Value) (Q:Option V->St->Hp->Prop),Inv X ae σ H s->RelV v u->tb v σ H Q ->
  wpAny (model X.prog X.w) X.A (assign tg X.env u) (λ_ s2=>wpAny (model X.prog X.w) X.A (AY ifs X.env) (λok s3 =>
   if ok=true then wpAny (model X.prog X.w) X.A (eval elt X.env) (λy s4=>∃v' bA H',Inv X ae bA H' s4/\RelV v' y/\Q (some v') bA H') X.xe s3
   else ∃bA H',Inv X ae bA H' s3/\Q none bA H') X.xe s2) X.xe s
def Fm(hg:PG X tg g)(he:PE X elt te):PB X tg [] elt (λv σ H Q=>g v σ H λgW H1=>te gW H1 λy H2=>Q (some y) gW H2):=by
 intro ae s σ H v u Q I r h;refine thn (hg ae s σ H v u _ I r h) λ_ s2 ⟨gW,H1,I1,q1⟩=>ai ?_
 rw[if_pos rfl];exact thn (he ae s2 gW H1 _ I1 q1) (by rintro y s4 ⟨v',H2,I2,r2,q2⟩;exact⟨v',gW,H2,I2,r2,q2⟩)
def JV(hg:PG X tg g)(hc:PT X c tc)(he:PE X elt te) :
  PB X tg [c] elt (λv σ H Q=>g v σ H λgW H1=>tc gW H1 λb H2=>if b=true then te gW H2 λy H3=>Q (some y) gW H3 else Q none gW H2):=by
 intro ae s σ H v u Q I r h;refine thn (hg ae s σ H v u _ I r h) λ_ s2 ⟨gW,H1,I1,q1⟩=>?_
 refine wpAny_tests_one (thn (hc ae s2 gW H1 _ I1 q1) λb s3 ⟨H2,I2,q2⟩=>?_)
 cases b with
 | true =>
  rw[if_pos rfl]at q2 ⊢;exact thn (he ae s3 gW H2 _ I2 q2) (by rintro y s4 ⟨v',H3,I3,r3,q3⟩;exact⟨v',gW,H3,I3,r3,q3⟩)
 | false =>
  rw[if_neg dP]at q2 ⊢;exact⟨gW,H2,I2,q2⟩
def rV(link:List (Option Nat))(wi:TI)(tb:TB):TE:=λσ H Q=>wi σ H λJ H1=>∃W:Nat->Nat->List V->St->Hp->Prop,(∃m,W 0 m [] (ir link σ) H1)/\∀i m acc bA H',W i m acc bA H' ->
 (J.stop i H'/\acc.length<=sizeLine/\∀D,H' D=none->Q (.ref D) (cf H' D (.lst acc))) \/
 (J.go i H'/\acc.length<sizeLine/\∀x H2,J.yld i H' x H2->tb x bA H2 λo mX H3=>∃m',m'<m/\W (i+1) m' (acc++o.toList) mX H3)
structure WE (X:Cx) (ae:List (Addr×Obj)) (H:Hp) (C:Addr):Prop where
 free:H C=none
 above:X.s₀.heap.objs.size<=C
 loc:C≠X.env.locals
 cell:∀x c,X.env.cells.lookup x=some c->c≠C
 pin:∀p∈X.pn++ae,p.1≠C
def rW(hc:X.calm=true)(S:gI X N link scope)(hi:PI X tg iter wi)
  (hb:∀(C:Addr) (s:Shared) (H:Hp) (fp:List Addr),PB (bT X N scope C s H fp) tg ifs elt tb) (hs:∀x,foldedSetIterable iter X.env x=pure x) (I:Inv X ae σ H s) (h:rV link wi tb σ H Q)
  (WG:∀(s5:Shared) (D C:Addr) (H5:Hp) (m:Str->Option Value),Inv X ae σ H5 s5->Q (.ref D) H5->s5.heap.Ns C m->WE X ae H5 C->compPost (model X.prog X.w) X.A X.xe use Q' (.ref D) C (.ok .next) s5) :
  wpAny (model X.prog X.w) X.A (comprehension (.ListComp elt [⟨tg,iter,ifs,0⟩] scope pos) scope X.env qI (newList []) false (eval iter X.env) use) Q' X.xe s:=by
 have vN:∀y∈scope.names,y.2=.free->∃c,X.env.cells.lookup y.1=some c:=λy hy hf=>I.ok.has y.1 (S.free y hy hf)
 refine wpAny_comprehension_free rfl hs (zc vN) S.kind S.names (thn (hi ae s σ H _ I h) λv s1 h1=>thn h1 λVU s2 h2=>?_)
 obtain⟨it,fp,tn,J,H2,rfl,I2,T,dw,f2,W,⟨m0,w0⟩,oQ⟩:=h2;refine jJ (wpAny_newFunctionEnv S.cell (by grind) (λfQ ns sb=>?_) S.kind)
 dsimp only at ns sb ⊢
 generalize hD:s2.heap.push {cls:=.type "list",dict:=none,data:=.seq [].toArray}=HD at ns sb ⊢
 have hC:HD.objs.size=s2.heap.objs.size+1:=by rw[<-hD,cQ]
 have U7:s2.heap.objs.size≠HD.objs.size:=by grind
 have Fo:s2.heap.objs.size<=HD.objs.size:=by grind
 have old:∀b o,s2.heap.get? b=some o->fQ.get? b=some o:=λb o e=>by
  have wx:=az e;exact sb.extBut b o (aN (bP wx Fo)) (ax _ (by rw[<-hD];exact ax _ e))
 have WH:fQ.get? s2.heap.objs.size=some {cls:=.type "list",data:=.seq [].toArray} :=
  sb.extBut _ _ U7 (ax _ (by rw[<-hD];exact aZ _ rfl))
 generalize eD:s2.heap.objs.size=D at *
 generalize eC:HD.objs.size=C at *
 have YV:∀b∈fp,∃o,s2.heap.get? b=some o:=λb jf=>let ⟨o,e,_⟩:=T.obj _ _ dw b jf;⟨o,e⟩
 have I3:∀tk,Inv (bT X N scope C s2 H2 fp) [] (ir link σ) H2 {s2 with heap:=fQ,toks:=tk}:=λtk =>
  zd S I2 f2 (by rw[eD];exact Fo) ns old YV
 have YW:∀b∈fp,b≠D:=λb jf z=>by
  obtain⟨o,e⟩:=YV b jf;have:=az e;rw[z,<-eD]at this;exact dC _ this
 have yF:∀{H':Hp} {pl:List (Addr×Obj)},(∀b∈fp,H' b=none)->(∀p∈pl,p.1=D)->∀b∈fp,oR (bT X N scope C s2 H2 fp) pl H' b:=λ{H' pl} hn hp b jf=>by
  have K0:=(I3 0).ok.exf b jf;exact⟨hn b jf,K0.1,(I3 0).ok.exfs b jf,.inl jf,K0.2,λp xE z=>YW b jf (z▸hp p (by simpa[bT]using xE))⟩
 have Sf:∀x c,(bT X N scope C s2 H2 fp).env.cells.lookup x=some c->c≠D:=λx c e z=>by
  obtain⟨v,o,ho,_⟩:=I2.cell x c (dc e);have:=az ho;rw[z,<-eD]at this;exact dC _ this
 have fsD:D∉(bT X N scope C s2 H2 fp).fs:=λz=>by
  obtain⟨_,o,ho,_⟩:=I2.stack.mem z;have:=az ho;rw[<-eD]at this;exact dC _ this
 have loop:∀s3:Shared,s3={s2 with heap:=fQ,toks:=s2.toks+([]:List (Str×Value)).length} ->
   codeAny (model X.prog X.w) X.A (.compLoop (.ListComp elt [⟨tg,iter,ifs,0⟩] scope pos) 0 (.ref it) (.ref D) (bT X N scope C s2 H2 fp).env) (compPost (model X.prog X.w) X.A X.xe use Q' (.ref D) C) s3:=by
  rintro s3 rfl
  refine Cu (λn s'=>∃i acc bA H' ak nn,Inv (bT X N scope C s2 H2 fp) [] bA H' s'/\tn i s'.heap/\(∀b∈fp,H' b=none)/\H' D=none/\s'.heap.get? D=some {cls:=.type "list",data:=.seq ak.toArray nn}/\Vals acc ak/\W i n acc bA H') ?_ m0
   ⟨0,[],_,H2,[],0,I3 _,T.keep _ _ _ dw λb jf o e=>old b o e,λb jf=>(f2 b jf).1,I2.hok.fresh (iQ eD),WH,.nil,w0⟩
  rintro n s4 ⟨i,acc,LA,H4,ak,nn,I4,Ig,YX,hD4,EV,hv,w4⟩
  have Sg:Inv (bT X N scope C s2 H2 fp) [(D,{cls:=.type "list",data:=.seq ak.toArray nn})] LA H4 s4:=I4.kF λp hp=>by
   have e:p=(D,{cls:=.type "list",data:=.seq ak.toArray nn}):=by simpa using hp
   subst e;exact⟨EV,hD4,U7,fsD,λv=>by simp⟩
  have Fp:∀p∈[(D,({cls:=.type "list",data:=.seq ak.toArray nn}:Obj))],p.1=D:=λp hp=>by
   have e:p=(D,{cls:=.type "list",data:=.seq ak.toArray nn}):=by simpa using hp
   rw[e]
  rcases oQ i n acc LA H4 w4 with⟨stop,hz,q⟩ | ⟨go,hz,step⟩
  ·refine thn (T.done (bT X N scope C s2 H2 fp) rfl rfl rfl hc i _ s4 LA H4 _ Sg (yF YX Fp) Ig stop) λr s5 ⟨hr,I5⟩=>?_
   subst hr;obtain⟨m,hn,_⟩:=I5.loc;have pD:=I5.pin (D,{cls:=.type "list",data:=.seq ak.toArray nn}) (d8 _ (bc.mpr rfl))
   have LC:∀b o,s2.heap.get? b=some o->b≠D/\b≠C:=λb o e=>by
    have:=az e;rw[eD]at this;exact⟨aN this,aN (bP this Fo)⟩
   have LD:X.env.locals≠D/\X.env.locals≠C:=by
    have:=I2.lt;rw[eD]at this;exact⟨aN this,aN (bP this Fo)⟩
   have I6:=I2.Lo I5.os I5.base I5.hok I5.bare λb jf=>⟨(f2 b jf).2.2.2.1,(f2 b jf).2.1,(f2 b jf).2.2.2.2.1,(f2 b jf).2.2.2.2.2⟩
   have I7:=Inv.adopt (o:=.lst acc) I6 pD.2.1 (aM I2.sz (iQ eD)) (bj LD.1) (λx c e=>let ⟨v,o,ho,_⟩:=I2.cell x c e;(LC c o ho).1)
    (λp hp=>(LC p.1 p.2 (I2.pin p hp).1).1) ⟨hz,ak,nn,hv,pD.1⟩
   exact WG s5 D C _ m I7 (q D pD.2.1) hn ⟨by rw[aI (bj U7)];exact I5.free,aM (aM I2.sz (iQ eD)) Fo,bj LD.2,λx c e=>let ⟨v,o,ho,_⟩:=I2.cell x c e;(LC c o ho).2,λp hp=>(LC p.1 p.2 (I2.pin p hp).1).2⟩
  ·refine thn (T.item (bT X N scope C s2 H2 fp) rfl rfl rfl hc i _ s4 LA H4 _ Sg (yF YX Fp) Ig go) λr s5 ⟨u,hr,h5⟩=>?_
   subst hr;refine thn h5 λ_ YY z9=>?_
   obtain⟨x,H5,I5,r5,y5,MR,VY⟩:=z9;have VZ:=I5.pinned (yF VY Fp) (T.obj _ _ MR);have iS:∀{o:Option V} {UR:St} {H6:Hp} {s6:Shared},Inv (bT X N scope C s2 H2 fp) ([(D,{cls:=.type "list",data:=.seq ak.toArray nn})]++oT fp YY.heap) UR H6 s6 ->
     tn (i+1) s6.heap/\(∀b∈fp,H6 b=none)/\H6 D=none/\s6.heap.get? D=some {cls:=.type "list",data:=.seq ak.toArray nn}:=λ{o UR H6 s6} I6=>by
    have pD:=I6.pin (D,_) (d8 _ (nX _ (bc.mpr rfl)));refine⟨T.keep _ _ _ MR λb jf o e=>(I6.pin (b,o) (d8 _ (d8 _ (gX jf e)))).1,λb jf=>?_,pD.2.1,pD.1⟩
    obtain⟨o,e,d⟩:=T.obj _ _ MR b jf;exact(I6.pin (b,o) (d8 _ (d8 _ (gX jf e)))).2.1
   refine oH (hb C s2 H2 fp _ YY LA H5 x u _ VZ r5 (step x H5 y5)) (λ_ s6 h6=>oH h6 (λok s7 h7=>?_) λ_ _ z=>False.elim z) λ_ _ z=>False.elim z
   cases ok with
   | false =>
    rw[if_neg dP]at h7 ⊢;obtain⟨U8,H8,I8,m',WI,w8⟩:=h7;obtain⟨a1,a2,a3,a4⟩:=iS (o:=none) I8;exact⟨m',WI,i+1,_,U8,H8,ak,nn,I8.kF (λp hp=>by cases hp),a1,a2,a3,a4,by simpa using hv,w8⟩
   | true =>
    rw[if_pos rfl]at h7 ⊢;refine oH h7 (λy s8 z9=>?_) λ_ _ z=>False.elim z
    obtain⟨v8,U8,H8,I8,r8,m',WI,w8⟩:=z9;obtain⟨a1,a2,a3,a4⟩:=iS (o:=some v8) I8;have hl:=hv.length;refine dD F.slot_list_append ⟨_,a4,rfl⟩ F.entry_list_append (F.args_list_append_2 _ _) (PySem.list_append D ak.toArray nn y (by rw[bV];lia)) ⟨a4,?_⟩
    have I9:Inv (bT X N scope C s2 H2 fp) [] U8 H8 s8:=I8.kF (λp hp=>by cases hp)
    have qq:=PySem.IsL.update a4 λz=>z.push y
    have hp:ak.toArray.push y=(ak++[y]).toArray:=by simp
    rw[hp]at qq;refine⟨m',WI,i+1,_,U8,H8,ak++[y],_,I9.turned (λb o hne e=>(iE _ _ (bj hne)).trans e) a3 U7 (.inr (iQ eD)) Sf (λp hp=>by simp[bT]at hp),T.keep _ _ _ a1 λb jf o e=>(iE _ _ (bj (YW b jf))).trans e,a2,a3,qq,hv.append (.cons r8 .nil),w8⟩
 exact codeAny_compStart_list (loop _ rfl) (T.self _ 0 _ _ _ (T.keep _ _ _ dw λb jf o e=>old b o e) (loop _ rfl))
def AZ(hc:X.calm=true)(S:gI X N link scope)(hi:PI X tg iter wi)
  (hb:∀(C:Addr) (s:Shared) (H:Hp) (fp:List Addr),PB (bT X N scope C s H fp) tg ifs elt tb) (hs:∀x,foldedSetIterable iter X.env x=pure x:=by intro _;rfl) :
  PE X (.ListComp elt [⟨tg,iter,ifs,0⟩] scope pos) (rV link wi tb):=by
 intro ae s σ H Q I h;rw[eval_ListComp];refine rW hc S hi hb hs I h λs5 D C H5 m I5 q hn L=>⟨m,hn,λh' sb=>?_⟩
 exact⟨.ref D,H5,I5.turned (λb o hne e=>(sb.2 b hne).trans e) L.free L.loc (.inr L.above) L.cell L.pin,rfl,q⟩
def A0(hc:X.calm=true)(hN:X.N.Nodup)(hx:X.N[i]?=some x)(hl:X.env.scope.names.lookup x=some .local)(S:gI X N link scope)(hi:PI X tg iter wi)
  (hb:∀(C:Addr) (s:Shared) (H:Hp) (fp:List Addr),PB (bT X N scope C s H fp) tg ifs elt tb) (hw:swapsWith (.ListComp elt [⟨tg,iter,ifs,0⟩] scope pos) (some (.Name x qI)) Cv.line X.env=pure true) (hs:∀x,foldedSetIterable iter X.env x=pure x:=by intro _;rfl) :
  PS X (.Assign [.Name x qI] (.ListComp elt [⟨tg,iter,ifs,0⟩] scope pos) Cv) (IS (rV link wi tb) (gName i)):=by
 intro ae s σ H D I h;rw[exec_Assign_Name_used _ _ _ _ hw];refine af (ua (af ?_));refine af (thn (rW hc S hi hb hs I h λs5 a C H5 m I5 q hn L=>?_) λ_ s' q=>ai (ai q))
 refine wpAny_assign_Name (store_ok2 (v:=.ref a) I5 hN hx (.inl hl) rfl (λs6 I6 k=>?_) (.inr hl))
 refine⟨m,?_,λh' sb=>?_⟩
 ·obtain⟨o,es,ep,ho,r⟩:=hn;obtain⟨b,sb1,hor⟩:=k;have ne:C≠b:=λz=>by
   rcases hor with w | w
   ·exact L.loc (z.trans w)
   ·exact L.cell x b w z.symm
  exact⟨o,es,ep,(sb1.2 C ne).trans ho,r⟩
 ·exact⟨_,H5,I6.turned (λb o hne e=>(sb.2 b hne).trans e) L.free L.loc (.inr L.above) L.cell L.pin,q⟩
noncomputable def dq(link:List (Option Nat))(ρ:List (Option PV)):List (Option PV):=link.map λo=>o.bind λj=>(ρ[j]?).join
def KG(L:List Nat)(g:Tg):Prop:=∀p st st1,g p st=some st1->st1.ρ.length=st.ρ.length/\∀j:Nat,j∉L->st1.ρ[j]?=st.ρ[j]?
def Sh(L:List Nat)(g:Qi):Prop:=∀p st st1,g p st=some st1->st1.ρ.length=st.ρ.length/\∀j:Nat,j∉L->st1.ρ[j]?=st.ρ[j]?
def JW(i:Nat):KG [i] (cO i):=λp st st1 h=>by
 obtain⟨_,rfl⟩:=aw h;exact⟨lS,λj hj=>iH (λz=>hj (by simp[z]))⟩
def JX:Sh [] pd:=λp st st1 h=>by
 cases p with
 | nil=>cases h;exact⟨rfl,λ_ _=>rfl⟩
 | cons _ _=>cases h
def Fq(h1:KG L g)(h2:Sh M r):Sh (L++M) (dH g r):=λp st st1 h=>by
 cases p with
 | nil=>cases h
 | cons p ps =>
  obtain⟨dw,e1,e2⟩:=aE h;obtain⟨l1,k1⟩:=h1 p st dw e1;obtain⟨l2,k2⟩:=h2 ps dw st1 e2;exact⟨l2.trans l1,λj hj=>(k2 j λz=>hj (d8 _ z)).trans (k1 j λz=>hj (nX _ z))⟩
def N0(h:Sh L r):KG L (kR n r):=λp st st1 e=>by
 unfold kR at e;split at e
 ·obtain⟨_,e⟩:=bH e;exact h _ st st1 e
 ·obtain⟨_,e⟩:=bH e;exact h _ st st1 e
 ·cases e
section
variable {K:W.Frag} {F:Fz} {ρ:List (Option PV)} {σ:St}
def Lc.ir(L:Lc K F ρ σ)(link:List (Option Nat)):Lc K F (dq link ρ) (ir link σ) where
 av:=λi p e=>by
  unfold dq at e;rw[aX]at e;cases z:link[i]? with
  | none=>rw[z]at e;cases e
  | some o =>
   rw[z]at e;cases o with
   | none=>cases e
   | some j =>
    have e:(ρ[j]?).join=some p:=bI e;cases w:ρ[j]? with
    | none=>rw[w]at e;cases e
    | some q =>
     rw[w]at e;cases e;obtain⟨v,h1,h2⟩:=L.av j p w;refine⟨v,?_,h2⟩;unfold L2.U.ir;rw[aX,z];show some ((σ[j]?).join)=_;rw[h1];rfl
 len:=by unfold dq L2.U.ir;rw[ah,ah]
def Lc.back{L:List Nat}(R:Lc K F WJ σ)(hl:WK.length=σ.length)(h0:WK=dq link ρ)(hk:∀j:Nat,j∉L->WJ[j]?=WK[j]?)(hL:∀i∈L,link[i]?=some none):Lc K F WK σ where
 av:=λi p e=>by
  refine R.av i p ?_;rw[hk i λhi=>?_]
  ·exact e
  ·rw[h0]at e;unfold dq at e;rw[aX,hL i hi]at e;cases e
 len:=hl
end
noncomputable def WL{α:Type}:Rs α×bU->Option (α×List aj)
 | (.ok a,st)=>some (a,st.h)
 | _=>none
abbrev Bd:=List (Option PV)->PV->List aj->Option (Option PV×List aj)
def pz(g:Tg)(fe:Gx PV):Bd:=λρ p h=>(g p ⟨ρ,h⟩).bind λst1=>(fe st1).bind λr=>(WL r).map λx=>(some x.1,x.2)
def Ft(g:Tg)(ft:Gx Bool)(fe:Gx PV):Bd:=λρ p h=>(g p ⟨ρ,h⟩).bind λst1=>(ft st1).bind λr=>match r with
 | (.ok b,dw)=>if b=true then(fe dw).bind λr=>(WL r).map λx=>(some x.1,x.2)else some (none,dw.h)
 | _=>none
noncomputable def gJ(bd:PV->List aj->Option (Option PV×List aj)):List PV->List aj->Option (List PV×List aj)
 | [],h=>some ([],h)
 | p::ps,h=>(bd p h).bind λr=>(gJ bd ps r.2).map λs=>(r.1.toList++s.1,s.2)
section
variable {X:Cx} {aa:Hp} {ab:Fz} {N:List Str} {link:List (Option Nat)} {scope:Scope} {tg iter elt c:Expr} {pos:Pos} {fi:Gx (List PV)} {g:Tg} {fe:Gx PV} {ft:Gx Bool} {L:List Nat} {cl:Bool}
def wz(e:WL r=some (a,h)):∃st,r=(.ok a,st)/\st.h=h:=by
 obtain⟨r,st⟩:=r;cases r with
 | ok x=>cases e;exact⟨st,rfl,rfl⟩
 | ex m C=>cases e
def _root_.L2.U.PB.imp(h:PB Y tg ifs elt tb)(i:∀v σ H Q,tb' v σ H Q->tb v σ H Q):PB Y tg ifs elt tb':=λae s σ H v u Q I r w=>h ae s σ H v u Q I r (i _ _ _ _ w)
def YZ(X:Cx)(aa:Hp)(ab:Fz)(g:Tg)(fe:Gx PV):TB:=λv σ H Q=>tG X.K aa ab g v σ H λgW H1=>∀Y:Cx,Y.K=X.K->tE Y aa ab fe gW H1 λy H2=>Q (some y) gW H2
def Y0(X:Cx)(aa:Hp)(ab:Fz)(g:Tg)(ft:Gx Bool)(fe:Gx PV):TB:=λv σ H Q=>tG X.K aa ab g v σ H λgW H1=>∀Y:Cx,Y.K=X.K->tT Y aa ab ft gW H1 λt H2=>if t=true then tE Y aa ab fe gW H2 λy H3=>Q (some y) gW H3 else Q none gW H2
section
variable (ht:∀(C:Addr) (s:Shared) (H:Hp) (fp:List Addr),PG (bT X N scope C s H fp) tg (tG X.K aa ab g)) (he:∀(C:Addr) (s:Shared) (H:Hp) (fp:List Addr),PE (bT X N scope C s H fp) elt (tE (bT X N scope C s H fp) aa ab fe))
include ht he
def Y1(C:Addr)(s:Shared)(H:Hp)(fp:List Addr):PB (bT X N scope C s H fp) tg [] elt (YZ X aa ab g fe) :=
 (Fm (ht C s H fp) (he C s H fp)).imp (by rintro v σ H Q ⟨F,st,p,bM,R,b,e,q⟩;exact⟨F,st,p,bM,R,b,e,λbA H' F' R' g'=>q bA H' F' R' g' _ rfl⟩)
def Y2(hw:∀(C:Addr) (s:Shared) (H:Hp) (fp:List Addr),PT (bT X N scope C s H fp) c (tT (bT X N scope C s H fp) aa ab ft))(C:Addr)(s:Shared)(H:Hp)(fp:List Addr):PB (bT X N scope C s H fp) tg [c] elt (Y0 X aa ab g ft fe) :=
 (JV (ht C s H fp) (hw C s H fp) (he C s H fp)).imp (by rintro v σ H Q ⟨F,st,p,bM,R,b,e,q⟩;exact⟨F,st,p,bM,R,b,e,λbA H' F' R' g'=>q bA H' F' R' g' _ rfl⟩)
end
def nA(h:tS X aa ab (pe fe (cO i)) D σ H):tE X aa ab fe σ H λv H1=>D.nx (σ.set i (some v)) H1:=by
 obtain⟨F,st,R,h⟩:=h;refine⟨F,st,R,h.bnd λp v F1 st1 H1 R1 g1 b1 h1=>?_⟩
 obtain⟨bM,e,z⟩:=h1.stp;obtain⟨hi,rfl⟩:=aw e;exact z F1 _ H1 ⟨R1.c,R1.l.set hi b1⟩ (Gr.refl _)
end
def SI(h:Heap)(it l:Addr)(k:Nat)(xs:Array Value):Prop:=(h.IsListIter it l k/\h.IsList l xs)\/(h.IsTupleIter it l k/\h.IsTuple l xs)
def SI.at{h h':Heap}{it l:Addr}{k:Nat}{xs:Array Value}(x:SI h it l k xs)(h1:∀o,h.get? it=some o->h'.get? it=some o)(h2:∀o,h.get? l=some o->h'.get? l=some o):SI h' it l k xs:=by
 rcases x with⟨⟨o,e,r⟩,⟨o',e',r'⟩⟩ | ⟨⟨o,e,r⟩,⟨o',e',r'⟩⟩
 ·exact .inl ⟨⟨o,h1 o e,r⟩,⟨o',h2 o' e',r'⟩⟩
 ·exact .inr ⟨⟨o,h1 o e,r⟩,⟨o',h2 o' e',r'⟩⟩
def SI.LF{h:Heap}{it l:Addr}{k:Nat}{xs:Array Value}(x:SI h it l k xs):∃o,h.get? it=some o/\∃vs,o.data=.fields vs:=by
 rcases x with⟨⟨o,e,_,d⟩,_⟩ | ⟨⟨o,e,_,d⟩,_⟩
 ·grind
 ·grind
def SI.sq{h:Heap}{it l:Addr}{k:Nat}{xs:Array Value}(x:SI h it l k xs):∃o n,h.get? l=some o/\o.data=.seq xs n:=by
 rcases x with⟨_,⟨o,e,_,n,d⟩⟩ | ⟨_,⟨o,e,_,n,d⟩⟩
 ·grind
 ·grind
def SI.ne{h:Heap}{it l:Addr}{k:Nat}{xs:Array Value}(x:SI h it l k xs):l≠it:=λz=>by
 obtain⟨o,e,vs,d⟩:=x.LF;obtain⟨o',n,e',d'⟩:=x.sq;subst z;rw[e]at e';cases e';rw[d]at d';cases d'
section
variable {prog:Program} {w:World} {A:Around} {E:Value->Shared->Prop} {s:Shared}
def zf{it t:Addr}{i:Nat}{ak:Array Value}{x:Value}{Q:Value->Shared->Prop}(N1:s.heap.IsTupleIter it t i)(ht:s.heap.IsTuple t ak)(hx:ak[i]?=some x)
  (hQ:∀h',h'.IsTupleIter it t (i+1)->Heap.SameBut it s.heap h'->Q x {s with heap:=h'}):wpAny (model prog w) A (Builtin.SmallTypes.nextOf (.ref it)) Q E s:=by
 obtain⟨o,ho,hc,hd⟩:=id N1;obtain⟨ol,m5,_,nl,LG⟩:=ht;refine af (eS N1.typeIs tD (eX tD N1.typeIs DY (by
  show wpAny _ _ (field (.ref it) 0 >>= _) _ _ s;refine af (cb ho hd rfl ?_);show wpAny _ _ (if(Value.ref t==Value.none)=true then _ else _) _ _ s
  rw[if_neg (show ¬((Value.ref t==Value.none)=true)from dP)]
  show wpAny _ _ (field (.ref it) 1 >>= _) _ _ s;refine af (cb ho hd (x:=.int i 0) rfl ?_);show wpAny _ _ (seqItems? (.ref t) >>= _) _ _ s;refine af (fL m5 LG ?_);simp only[iM,hx];refine af (wpAny_setField ho hd (by simp) (ai ⟨x,rfl,ai (hQ _ ⟨_,iG _ ho (Obj.isFreed_of_fields (Obj.data_mapFields hd _)),(Obj.cls_mapFields ..).trans hc,by rw[Obj.data_mapFields hd];simp[rawInt]⟩ (xZ ..))⟩))) (DW _)))
def zg{it t:Addr}{i:Nat}{ak:Array Value}{Q:Value->Shared->Prop}(hh:A.handled=none)(N1:s.heap.IsTupleIter it t i)(ht:s.heap.IsTuple t ak)(hx:ak[i]?=none)
  (hE:∀h' e,Heap.ExtBut it s.heap h'->(∃o,h'.get? e=some o/\o.cls=.type "StopIteration")->E (.ref e) {s with heap:=h'}):wpAny (model prog w) A (Builtin.SmallTypes.nextOf (.ref it)) Q E s:=by
 obtain⟨o,ho,hc,hd⟩:=id N1;obtain⟨ol,m5,_,nl,LG⟩:=ht;refine af (eS N1.typeIs tD (eX tD N1.typeIs DY (by
  show wpAny _ _ (field (.ref it) 0 >>= _) _ _ s;refine af (cb ho hd rfl ?_);refine af (cb ho hd (x:=.int i 0) rfl ?_);show wpAny _ _ (seqItems? (.ref t) >>= _) _ _ s;refine af (fL m5 LG ?_);simp only[iM,hx];refine af (iR (af (wpAny_setField ho hd (by simp) ?_)))
  show wpAny _ _ (newExc (.type "StopIteration") [] >>= _) _ _ _;refine af ?_;simp only[newExc,newTuple];refine af (jJ ?_ (by size_fits))
  refine af (m:=firstArgMember _ _) (wpAny_of_eq (a:=Value.none) (by first | rfl | (simp only[firstArgMember];rfl)) ?_)
  refine jJ ?_ (by size_fits)
  simp only[raiseNew];refine af (wpAny_handled ?_)
  first | rw[show A.in1.handled=none from hh] | rw[hh]
  exact af (ai (wpAny_throw (hE _ _ (((xZ ..).extBut.push _).push _) ⟨_,aZ _ rfl,rfl⟩)))) (DW _)))
def SI.next{it l:Addr}{k:Nat}{xs:Array Value}{x:Value}{Q:Value->Shared->Prop}(hi:SI s.heap it l k xs)(hx:xs[k]?=some x)(hQ:∀h',SI h' it l (k+1) xs->Heap.SameBut it s.heap h'->Q x {s with heap:=h'}) :
  wpAny (model prog w) A (Builtin.SmallTypes.nextOf (.ref it)) Q E s:=by
 have ne:=hi.ne;rcases hi with⟨h1,h2⟩ | ⟨h1,h2⟩
 ·exact wpAny_nextOf_list_item h1 h2 hx λh' a b=>hQ h' (.inl ⟨a,h2.extBut b.extBut ne⟩) b
 ·exact zf h1 h2 hx λh' a b=>hQ h' (.inr ⟨a,h2.extBut b.extBut ne⟩) b
def SI.stop{it l:Addr}{k:Nat}{xs:Array Value}{Q:Value->Shared->Prop}(hh:A.handled=none)(hi:SI s.heap it l k xs)(hx:xs[k]?=none)
  (hE:∀h' e,Heap.ExtBut it s.heap h'->(∃o,h'.get? e=some o/\o.cls=.type "StopIteration")->E (.ref e) {s with heap:=h'}):wpAny (model prog w) A (Builtin.SmallTypes.nextOf (.ref it)) Q E s:=by
 rcases hi with⟨h1,h2⟩ | ⟨h1,h2⟩
 ·exact wpAny_nextOf_list_end hh h1 h2 hx hE
 ·exact zg hh h1 h2 hx hE
end
def nl{a b:Nat}(h:a<b):@Ne Addr a b:=aN h
section
variable {prog:Program} {w:World} {A:Around} {E:Value->Shared->Prop} {s:Shared} {z TI TO i1 i2 l1 l2:Nat} {k:Nat} {xs ys:Array Value}
def gK(h:Heap)(l:Addr)(xs:Array Value)(c:String):Prop:=(c="list_iterator"/\h.IsList l xs)\/(c="tuple_iterator"/\h.IsTuple l xs)
def jh{l:Addr}{xs:Array Value}{c:String}{Q:Value->Shared->Prop}(h:gK s.heap l xs c)(hQ:Q (.ref s.heap.objs.size) {s with heap:=s.heap.push {cls:=.type c,data:=.fields #[.ref l,.int 0 0]}}):wpAny (model prog w) A (pyIter (.ref l)) Q E s:=by
 rcases h with⟨rfl,h⟩ | ⟨rfl,h⟩
 ·exact lO h hQ
 ·exact ya h hQ
end
def qE(K:W.Frag)(H:Hp)(c:Bool)(l:Addr)(vs:List V):Prop:=if c=true then uk K H l vs else fw K H l vs
def DN(h:Heap)(c:Bool)(it l:Addr)(k:Nat):Prop:=if c=true then h.IsListIter it l k else h.IsTupleIter it l k
noncomputable def jw(c:Bool):String:=if c=true then "list_iterator" else "tuple_iterator"
section
variable {X:Cx} {ae:List (Addr×Obj)} {σ:St} {H:Hp} {s:Shared}
def qE.get(I:Inv X ae σ H s){c:Bool}{l:Addr}{vs:List V}(h:qE X.K H c l vs):∃ak:List Value,Vals vs ak/\gK s.heap l ak.toArray (jw c):=by
 unfold jw;cases c with
 | true =>
  obtain⟨ak,r,pl,_⟩:=I.list (h);exact⟨ak,r,.inl ⟨rfl,pl.isList⟩⟩
 | false =>
  obtain⟨ak,r,pl,_⟩:=I.tuple (h);exact⟨ak,r,.inr ⟨rfl,pl⟩⟩
def qE.inj(I:Inv X ae σ H s){c:Bool}{l:Addr}{vs ws:List V}(h:qE X.K H c l vs)(h':qE X.K H c l ws):vs=ws:=by
 cases c with
 | true=>exact I.kH h h'
 | false=>exact I.je h h'
def rX{h:Heap}{c:Bool}{it l:Addr}{k:Nat}{xs:Array Value}(h1:DN h c it l k)(h2:gK h l xs (jw c)):SI h it l k xs:=by
 cases c with
 | true =>
  rcases h2 with⟨_,q⟩ | ⟨q,_⟩
  ·exact .inl ⟨h1,q⟩
  ·exact absurd q (by decide)
 | false =>
  rcases h2 with⟨q,_⟩ | ⟨_,q⟩
  ·exact absurd q (by decide)
  ·exact .inr ⟨h1,q⟩
def uK{h:Heap}{c:Bool}{it l:Addr}{k k':Nat}{xs:Array Value}{h0:Heap}(h1:SI h it l k xs)(h2:gK h0 l xs (jw c))(kp:∀o,h0.get? l=some o->h.get? l=some o):DN h c it l k:=by
 cases c with
 | true =>
  rcases h2 with⟨_,⟨o,e,hc,_⟩⟩ | ⟨q,_⟩
  ·rcases h1 with⟨a,_⟩ | ⟨_,⟨o',e',DL,_⟩⟩
   ·exact a
   ·grind
  ·exact absurd q (by decide)
 | false =>
  rcases h2 with⟨q,_⟩ | ⟨_,⟨o,e,hc,_⟩⟩
  ·exact absurd q (by decide)
  ·rcases h1 with⟨_,⟨o',e',DL,_⟩⟩ | ⟨a,_⟩
   ·grind
   ·exact a
def Inv.turns{t':Nat}{h':Heap}{ch:List Addr}(I:Inv X ae σ H s)(hf:∀b∈ch,oR X ae H b)(kp:∀b o,b∉ch->s.heap.get? b=some o->h'.get? b=some o):Inv X ae σ H {s with heap:=h',toks:=t'}:=by
 have QN:∀b u,H b=some u->b∉ch:=λb u e z=>by rw[(hf b z).1]at e;cases e
 refine I.step (λb hb=>⟨(hf b hb).2.2.2.1,(hf b hb).2.1,(hf b hb).2.2.2.2.1,(hf b hb).2.2.2.2.2⟩) (λb o _ _ hc e _=>kp b o hc e) (λb o _ _ hc e _=>⟨o.slots,kp b o hc e⟩) (λ_ _ _ _ n=>n)
  (λb o hc e=>⟨o,kp b o hc e⟩) (λ_ _ e=>e) (λ_ _ _ e=>e) (λ_ _ e=>e) (λm hm=>?_) (λb u e=>?_) I.bare
 ·obtain⟨o,es,ep,ho,r⟩:=hm;exact⟨o,es,ep,kp _ o (λz=>(hf _ z).2.1 rfl) ho,r⟩
 ·refine(I.hok b u e).vK (λc v hc q=>kp c v ?_ q) (λ_ q=>q) (λ_ _ q=>q) λ_ _ _ q=>q
  rcases hc with z | z
  ·rw[z];exact QN b u e
  ·exact QN c _ z
end
def DN.at{h h':Heap}{c:Bool}{it l:Addr}{k:Nat}(x:DN h c it l k)(h1:∀o,h.get? it=some o->h'.get? it=some o):DN h' c it l k:=by
 cases c with
 | true =>
  obtain⟨o,e,r⟩:=(x);exact(⟨o,h1 o e,r⟩)
 | false =>
  obtain⟨o,e,r⟩:=(x);exact(⟨o,h1 o e,r⟩)
def DN.obj{h:Heap}{c:Bool}{it l:Addr}{k:Nat}(x:DN h c it l k):∃o,h.get? it=some o/\∀v,o.data≠.cell v:=by
 unfold DN at x;split at x
 ·obtain⟨o,e,_,d⟩:=x;exact⟨o,e,λv=>by grind⟩
 ·obtain⟨o,e,_,d⟩:=x;exact⟨o,e,λv=>by grind⟩
def Fu{prog:Program}{w:World}{A:Around}{it l:Addr}{xs:Array Value}(hh:A.handled=none):Draws prog w A it [it,l] xs.size (λi x=>xs[i]?=some x) (λi h=>SI h it l i xs) where
 live:=λi h st=>by
  obtain⟨o,e,_⟩:=st.LF;exact⟨o,e⟩
 frame:=λi h h' st k=>st.at (λo e=>k it (by simp) o e) (λo e=>k l (by simp) o e)
 item:=λi s Q E hi st hQ=>SI.next st (nN hi) λh' a b=>hQ _ h' s.toks (nN hi) a b
 done:=λs Q E st hE=>SI.stop hh st (jE (ao _)) hE
set_option maxHeartbeats 2000000 in
theorem Fv(l:Addr)(xs:Array Value)(c:String)(part:Obj) :
  Meets (Builtin.«enumerate.__new__» ⟨[.type "enumerate",.ref l],[]⟩) (λ_ R s=>gK s.heap l xs c/\s.heap.get? l=some part /\
   ∀h1 h2:Heap,h1=s.heap.push {cls:=.type c,data:=.fields #[.ref l,.int 0 0]}->h2=h1.push {cls:=.type "enumerate",data:=.fields #[.none,.bool false,.ref s.heap.objs.size,rawInt 0,.none,.none]}->R (.ok (.ret (.ref h1.objs.size))) {s with heap:=h2}) :=
 .of_wp λprog w A R s h=>by
  obtain⟨hp,g,d,tk,os⟩:=s;obtain⟨hl,hpt,h⟩:=h;have hL:gK (Shared.heap ⟨hp,g,d,tk,os⟩) l xs c:=hl;have uL:=sub_enumerate;rcases hl with⟨rfl,⟨o,e,hc,n,hd⟩⟩ | ⟨rfl,⟨o,e,hc,n,hd⟩⟩
  ·obtain⟨oc,od,WM,Jf⟩:=o;replace hc:oc=.type "list":=hc;replace hd:WM=.seq xs n:=hd
   wp_walk using iD e
   refine wpAny_stack_any λst=>ai ?_
   split
   ·rename_i c' _ _ _ _ _;cases(c'==Value.type "enumerate")<;>(wp_walk using iD e,jh hL)<;>exact⟨_,rfl,h _ _ rfl rfl⟩
   ·wp_walk using iD e,jh hL
    exact⟨_,rfl,h _ _ rfl rfl⟩
  ·obtain⟨oc,od,WM,Jf⟩:=o;replace hc:oc=.type "tuple":=hc;replace hd:WM=.seq xs n:=hd
   wp_walk using iD e
   refine wpAny_stack_any λst=>ai ?_
   split
   ·rename_i c' _ _ _ _ _;cases(c'==Value.type "enumerate")<;>(wp_walk using iD e,jh hL)<;>exact⟨_,rfl,h _ _ rfl rfl⟩
   ·wp_walk using iD e,jh hL
    exact⟨_,rfl,h _ _ rfl rfl⟩
def JY{prog:Program}{w:World}{A:Around}{E:Value->Shared->Prop}{s:Shared}{e it l:Addr}{k:Nat}{i:Int}{xs:Array Value}{old:Value}{Q:Option Value->Shared->Prop}(hh:A.handled=none)(a1:IsEnum s.heap e it i old)(st:SI s.heap it l k xs)(hx:xs[k]?=none)(hQ:∀h',Heap.ExtBut it s.heap h'->Q none {s with heap:=h'}):wpAny (model prog w) A (pyNext (.ref e)) Q E s:=by
 have ty:s.TypeIs (.ref e) "enumerate":=⟨_,a1,rfl⟩;unfold pyNext;refine af (jN (eS ty F.slot_enumerate_next (eX F.slot_enumerate_next ty F.entry_enumerate_next (by
  show wpAny _ _ (field (.ref e) 2 >>= _) _ _ _;refine af (cb a1 rfl rfl (af (SI.stop hh st hx λh' y sb ⟨o,ho,hc⟩=>?_)))
  exact af (tU ⟨o,ho,hc⟩ t7 (ai (hQ _ sb)))) (F.args_enumerate_next_1 _))))
def Y3(K:W.Frag)(c:Bool)(l:Addr):It where
 go:=λi H=>∃vs v,qE K H c l vs/\vs[i]?=some v
 yld:=λi H x H'=>∃T v,H T=none/\x=.ref T/\H'=cf H T (.ag [.int i,v])/\∀vs,qE K H c l vs->vs[i]?=some v
 stop:=λi H=>∃vs,qE K H c l vs/\vs.length<=i
def eTn(e it l:Nat)(c:Bool)(i:Nat)(h:Heap):Prop:=(∃old,IsEnum h e it i old)/\DN h c it l i
def JZ{P:Program}{w:World}{K:W.Frag}{elts:List Expr}{x1:Nat}{B9:Pos}{e it l:Nat}{c:Bool}(ord:it<e)(o1:l<it) :
  Turn P w K (.Tuple elts x1 B9) (Y3 K c l) [e,it] e (eTn e it l c) where
 mem:=cz
 obj:=by
  rintro i h ⟨⟨_,a1⟩,a2⟩ b hb
  simp only[aF,bf,bg]at hb;rcases hb with rfl | rfl
  ·exact⟨_,a1,λv=>by simp⟩
  ·exact a2.obj
 keep:=(by rintro i h h' ⟨⟨old,a1⟩,a2⟩ k;exact⟨⟨old,k e (by simp) _ a1⟩,a2.at λo x=>k it (by simp) o x⟩)
 item:=by
  rintro X hP hw hK hc i ae s σ H E I hf ⟨⟨old,a1⟩,a2⟩ ⟨vs,v,hv,ev⟩
  subst hP hw hK;obtain⟨ak,r1,k1⟩:=hv.get I;obtain⟨x,ex,rx⟩:=r1.get ev;have ne:e≠it:=lW ord;have Y4:e≠l:=lW (gT o1 ord);have LG:X.A.in1.handled=none:=I.ok.hd hc;refine wpAny_pyNext_enum_itemD (Fu (xs:=ak.toArray) (l:=l) LG) a1 (rX a2 k1) (by
   have:=(b8.mp ex).1;simpa using this) ne (by simp[ne,Y4]) λx' h' tk mF hO st hT Sd kp=>⟨_,rfl,?_⟩
  have xe:x'=x:=by
   have e1:ak.toArray[i]?=some x:=by simpa using ex
   rw[e1]at mF;cases mF;rfl
  subst xe;refine wpAny_letOwnedTupleGo_enum hO λN2 WN sb=>?_
  have Si:∀b∈[e,it],b<s.heap.objs.size:=λb hb=>by
   simp only[aF,bf,bg]at hb;have h1:e<s.heap.objs.size:=az a1;rcases hb with rfl | rfl<;>lia
  have eT:e≠s.heap.objs.size:=aN (Si e (by simp))
  have Sj:∀b o,b∉[e,it]->s.heap.get? b=some o->N2.get? b=some o:=λb o hb z=>by
   simp only[aF,bf,bg,not_or]at hb;exact sb.extBut _ _ hb.1 (kp b o hb.1 hb.2 z)
  have I1:Inv X ae σ H {s with heap:=N2,toks:=tk+1}:=Inv.turns I hf Sj
  have hn:H s.heap.objs.size=none:=I.fresh;have J0:=I.um (H':=H) (ao _) hn;have pr:N2.get? s.heap.objs.size=some {cls:=.type "tuple",data:=.seq #[.int i tk,x']}:=sb.extBut _ _ (bj eT) hT
  have I2:=Inv.adopt (D:=s.heap.objs.size) (o:=.ag [.int i,v]) I1 hn (by
    rcases J0.2.2.2.1 with q | q
    ·exact I.sz
    ·exact q) J0.2.1 J0.2.2.2.2.1 J0.2.2.2.2.2 ⟨(by show 2<=sizeLine;decide),[.int i tk,x'],.cons ⟨tk,rfl⟩ (.cons rx .nil),⟨_,pr,rfl,⟨0,rfl⟩,rfl⟩⟩
  refine⟨.ref s.heap.objs.size,_,I2,rfl,⟨s.heap.objs.size,v,hn,rfl,rfl,λwo h1=>?_⟩,⟨⟨_,WN⟩,?_⟩,λb hb=>?_⟩
  ·rw[<-qE.inj I hv h1];exact ev
  ·have nli:l≠it:=aN o1;have q:=uK (k':=i) st k1 λo z=>kp l o (bj Y4) nli z
   exact q.at λo z=>sb.extBut _ _ (bj ne) z
  ·rw[aI (aN (Si b hb))];exact(hf b hb).1
 done:=by
  rintro X hP hw hK hc i ae s σ H E I hf ⟨⟨old,a1⟩,a2⟩ ⟨vs,hv,he⟩
  subst hP hw hK;obtain⟨ak,r1,k1⟩:=hv.get I;have hz:ak.toArray[i]?=none:=jE (by rw[bV,<-r1.length];exact he)
  refine JY (I.ok.hd hc) a1 (rX a2 k1) hz λh' sb=>⟨rfl,?_⟩
  exact Inv.turns (t':=s.toks) I hf λb o hb z=>by
   simp only[aF,bf,bg,not_or]at hb;exact sb b o hb.2 z
 self:=(by rintro A i s Q E ⟨⟨_,a1⟩,_⟩ q;exact wpAny_pyIter_enum a1 q)
noncomputable def A1:Expr->Bool
 | .Tuple _ _ _=>true
 | _=>false
noncomputable def m6:PV->Option (List PV)
 | .nd .ag ps=>some ps
 | .nd .lst ps=>some ps
 | _=>none
def eJ(p q:PV):PV:=.ag [p,q]
def i3{K:W.Frag}(h:m6 p=some ps)(b:aY K F p x):∃c l vs,x=.ref l/\qE K F.F c l vs/\aq K F ps vs/\∀F',b7 F.F F'->qE K F' c l vs:=by
 unfold m6 at h;split at h
 ·cases h;obtain⟨l,vs,rfl,h1,h2⟩:=bu.mp b;exact⟨false,l,vs,rfl,h1,h2,λF' s=>aS s h1⟩
 ·cases h;obtain⟨l,vs,rfl,h1,h2⟩:=cJ.mp b;exact⟨true,l,vs,rfl,h1.sq,h2,λF' s=>(gF s h1).sq⟩
 ·cases h
def Cw{K:W.Frag}(hs:uk K F.F a vs)(hb:aq K F ps vs):Walk K F ps (UQ K a):=by
 intro aa ab F' st σ H R s i;have hq:=(s.s.trans R.sub).seq hs;refine⟨λp e=>?_,λe=>?_⟩
 ·obtain⟨v,e1,b1⟩:=hb.get e;refine⟨⟨vs,v,hq,e1⟩,λx H' ⟨hH,y⟩=>?_⟩
  subst hH;have:=y vs hq;rw[e1]at this;cases this;exact⟨F',R,Gr.refl _,b1.mono s⟩
 ·refine⟨vs,hq,?_⟩;rw[<-hb.length];exact fJ.mp e
def Fw{K:W.Frag}(hs:fw K F.F a vs)(hb:aq K F ps vs):Walk K F ps (VV K a):=by
 intro aa ab F' st σ H R s i;have hq:=aS (s.s.trans R.sub) hs;refine⟨λp e=>?_,λe=>?_⟩
 ·obtain⟨v,e1,b1⟩:=hb.get e;refine⟨⟨vs,v,hq,e1⟩,λx H' ⟨hH,y⟩=>?_⟩
  subst hH;have:=y vs hq;rw[e1]at this;cases this;exact⟨F',R,Gr.refl _,b1.mono s⟩
 ·refine⟨vs,hq,?_⟩;rw[<-hb.length];exact fJ.mp e
noncomputable def Cy(lo:Int)(n:Nat):List PV:=(List.range n).map fun(i:Nat)=>.int (lo+i)
def pA{K:W.Frag}(lo:Int)(n:Nat):Walk K F (Cy lo n) (QY lo n):=by
 intro aa ab F' st σ H R s i;unfold Cy;refine⟨λp e=>?_,λe=>?_⟩
 ·rw[aX]at e;by_cases hi:i<n
  ·rw[xY hi]at e;cases e;exact⟨hi,λx H' ⟨hH,y⟩=>by subst hH y;exact⟨F',R,Gr.refl _,au.mpr rfl⟩⟩
  ·rw[nU (by simpa using hi)]at e;cases e
 ·rw[aX]at e;by_cases hi:i<n
  ·rw[xY hi]at e;cases e
  ·exact yp hi
def k7:Nat->List PV->List PV
 | _,[]=>[]
 | k,p::r=>eJ (.int k) p::k7 (k+1) r
theorem mm:∀(ps:List PV) (k i:Nat),(k7 k ps)[i]?=ps[i]?.map λp=>eJ (.int ((k+i:Nat):Int)) p
 | [],k,i=>by simp[k7]
 | p::r,k,0=>by simp[k7]
 | p::r,k,i+1=>by
  simp only[k7,List.getElem?_cons_succ];rw[mm r (k+1) i,show k+1+i=k+(i+1) by lia]
def J1{K:W.Frag}(k1:∀F',b7 F.F F'->qE K F' c l vs)(b1:aq K F ps vs):Walk K F (k7 0 ps) (Y3 K c l):=by
 intro aa ab F' st σ H R s i;have h1:=k1 H (s.s.trans R.sub);refine⟨λp e=>?_,λe=>?_⟩
 ·rw[mm]at e;cases z1:ps[i]? with
  | none=>rw[z1]at e;cases e
  | some p1 =>
   rw[z1]at e;cases e;obtain⟨v,e1,N3⟩:=b1.get z1;refine⟨⟨vs,v,h1,e1⟩,λx H' z9=>?_⟩
   obtain⟨T,v',hn,hx,hH,vW⟩:=z9;have g1:=vW vs h1;rw[e1]at g1;cases g1;subst hx hH;obtain⟨R2,s2⟩:=R.laid (.ag [.int i,v]) hn;refine⟨_,R2,s2,bu.mpr ⟨T,[.int i,v],rfl,fw.of ar,.cons ?_ (.cons (N3.mono (s.trans s2)) .nil)⟩⟩;rw[Nat.zero_add];exact au.mpr rfl
 ·refine⟨vs,h1,?_⟩;rw[mm]at e;cases z1:ps[i]? with
  | none =>
   have:=fJ.mp z1;rw[b1.length]at this;exact this
  | some p1=>rw[z1]at e;cases e
section
variable {X:Cx} {aa:Hp} {ab:Fz} {a b e tg:Expr} {fa fb:Gx PV} {ts:Gx (List PV)} {pos p:Pos}
noncomputable def J2(i j:Int):Bool:=decide (-(2^62)<=i/\i<2^62 /\ -(2^62)<=j/\j<2^62)
def Cz:List PV->Option (List PV)
 | [.int j]=>if J2 0 j=true then some (Cy 0 j.toNat)else none
 | _=>none
def J3:List PV->Option (List PV)
 | [.int i,.int j]=>if J2 i j=true then some (Cy i (j-i).toNat)else none
 | _=>none
def Fy(g:List PV->Option (List PV))(ts:Gx (List PV)):Gx (List PV):=bnd ts λps=>fB (g ps)
def FA(hg:Gl X "range")(hm:X.mg "range"=none)(ha:PA X [a] (tA X aa ab ts))(hs:starEach [a] X.env=[(false,eval a X.env)]:=by rfl):PI X tg (.Call (.Name "range" p) [a] [] pos) (tI X aa ab (Fy Cz ts)) :=
 (B3 hg hm ha hs).imp λσ H Rr ⟨F,st,R,h⟩=>⟨F,st,R,h.bnd λps vs F1 st1 H1 R1 g1 b1 h1=>by
  obtain⟨o,e,z⟩:=h1.fB;unfold Cz at e;split at e
  ·obtain⟨hr,rfl⟩:=aw e;obtain⟨v,rfl,b⟩:=cj b1;obtain⟨_,_,h3,h4⟩:=cX hr;rw[au.mp b];exact⟨_,rfl,h3,h4,z _ H1 F1 R1 (Gr.refl _) (pA 0 _)⟩
  ·cases e⟩
def FC(hg:Gl X "range")(hm:X.mg "range"=none)(ha:PA X [a,b] (tA X aa ab ts))(hs:starEach [a,b] X.env=[(false,eval a X.env),(false,eval b X.env)])(xD:starEach [b] X.env=[(false,eval b X.env)]):PI X tg (.Call (.Name "range" p) [a,b] [] pos) (tI X aa ab (Fy J3 ts)) :=
 (B4 hg hm ha hs xD).imp λσ H Rr ⟨F,st,R,h⟩=>⟨F,st,R,h.bnd λps vs F1 st1 H1 R1 g1 b1 h1=>by
  obtain⟨o,e,z⟩:=h1.fB;unfold J3 at e;split at e
  ·obtain⟨hr,rfl⟩:=aw e;obtain⟨v,w,rfl,b,c⟩:=kZ b1;have hr:=cX hr;rw[au.mp b,au.mp c];exact⟨_,_,rfl,hr,z _ H1 F1 R1 (Gr.refl _) (pA _ _)⟩
  ·cases e⟩
def FD(fa:Gx PV):Gx (List PV):=bnd fa λp=>fB ((m6 p).map λps=>k7 0 ps)
def WO(ht:A1 tg=true)(hg:Gl X "enumerate")(hm:X.mg "enumerate"=none)(ha:PE X a (tE X aa ab fa))(hs:starEach [a] X.env=[(false,eval a X.env)]) :
  PI X tg (.Call (.Name "enumerate" p) [a] [] pos) (tI X aa ab (FD fa)):=by
 rintro ae s σ H R I ⟨F,st,Rp,h⟩
 have hA:=f7 ha oW hs pos ae s σ H (λvs H'=>∃F' bM x pa ps,vs=[x]/\Rep X.K aa ab F' bM σ H'/\aY X.K F' pa x/\m6 pa=some ps/\∀b Sk E8,Rep X.K aa ab E8 bM σ Sk->Gr F' E8->Walk X.K E8 (k7 0 ps) b->R b Sk) I
  ⟨F,st,Rp,h.bnd λp v F1 st1 H1 R1 g1 b1 h1=>by
   obtain⟨o,e,z⟩:=h1.fB;obtain⟨ps,e1,rfl⟩:=aL e;exact⟨F1,st1,v,p,ps,rfl,R1,b1,e1,z⟩⟩
 refine Call_ (ld_blt I hg hm boot_enumerate (d7 (thn hA λus s1 z9=>?_) hs rfl))
 obtain⟨vs,H1,I1,r1,F1,st1,x,pa,ps,ev,R1,b1,f3,q⟩:=z9;subst ev;obtain⟨u1,rfl,N4⟩:=ip r1;obtain⟨c1,l1,Y5,rfl,q1,Qj,k1⟩:=i3 f3 b1;cases N4;obtain⟨ak,v1,J4⟩:=(k1 H1 R1.sub).get I1;obtain⟨part,LH⟩:∃o,s1.heap.get? l1=some o:=by
  rcases J4 with⟨_,⟨o,e,_⟩⟩ | ⟨_,⟨o,e,_⟩⟩
  ·grind
  ·grind
 have Sl:=az LH;refine callType_new PySem.F.called_enumerate (by decide) (PySem.F.typeCall_enumerate_1 _) (PySem.F.newCall_enumerate_1 _) (λobj=>PySem.F.args_object_init_2 obj _) PySem.F.entry_enumerate_new (Fv l1 ak.toArray (jw c1) part) ⟨J4,LH,λh1 h2 e1 e2=>?_⟩
 have z1:h1.objs.size=s1.heap.objs.size+1:=by simp_all
 have p1:∀b o,s1.heap.get? b=some o->h1.get? b=some o:=λb o e=>by rw[e1];exact ax _ e
 have p2:∀b o,h1.get? b=some o->h2.get? b=some o:=λb o e=>by rw[e2];exact ax _ e
 have g2:IsEnum h2 h1.objs.size s1.heap.objs.size 0 .none:=by rw[e2];exact aZ _ rfl
 have g1:=p2 _ _ (by rw[e1];exact aZ _ rfl)
 have I2:Inv X ae σ H1 {s1 with heap:=h2,toks:=s1.toks}:=I1.kept λb o e=>p2 _ _ (p1 _ _ e)
 have kE:∀b,s1.heap.objs.size<=b->H1 b=none:=λb hb=>I1.hok.fresh hb
 refine⟨⟨_,g2,rfl⟩,?_⟩;show wpAny _ _ (pyIter (.ref h1.objs.size)) _ _ {s1 with heap:=h2,toks:=s1.toks}
 refine wpAny_pyIter_enum g2 ?_;cases tg with
 | Tuple elts x1 B9 =>
  refine⟨h1.objs.size,[h1.objs.size,s1.heap.objs.size],_,_,H1,rfl,I2,JZ (by lia) Sl,⟨⟨_,g2⟩,(by
   cases c1 with
   | true=>exact(⟨_,g1,rfl,rfl⟩)
   | false=>exact(⟨_,g1,rfl,rfl⟩))⟩,λb hb=>?_,q _ H1 F1 R1 (Gr.refl _) (J1 k1 Qj)⟩
  simp only[aF,bf,bg]at hb;have Sm:s1.heap.objs.size<=b:=by rcases hb with rfl | rfl<;>lia
  exact I1.um Sm (kE b Sm)
 | _=>cases ht
end
end L2.U
namespace L2
open PySem PySem.Spec PyProof.Rows
noncomputable def WQ(z:Str):It:=⟨λi _=>i<z.cps.size,λi H x H'=>H'=H/\∃c,z.cps[i]?=some c/\x=.str ⟨#[c]⟩,λi _=>z.cps.size<=i⟩
def FE{P:Program}{w:World}{K:W.Frag}{tg:Expr}(z:Str)(t:Tok)(it:Addr):Turn P w K tg (WQ z) [it] it (λi h=>h.IsStrIter it "str_ascii_iterator" z t i) where
 mem:=by simp
 obj:=λi h st b hb=>by
  have e:b=it:=by grind
  subst e;obtain⟨o,e,c,d⟩:=st;exact⟨o,e,λv z=>by grind⟩
 keep:=λi h h' st k=>let ⟨o,ho,r⟩:=st;⟨o,k it (by simp) o ho,r⟩
 item:=by
  intro X hP hw hK hc i ae s σ H E I hf st hg;subst hP hw hK;have hx:z.cps[i]?=some z.cps[i]:=nN hg;obtain⟨f0,f1,f2,f3,f4,f5⟩:=hf it (by simp)
  refine wpAny_pyNext_ascii_item st hx λh' bM sb=>?_
  have I1:=I.turned (t':=s.toks+1) (λb o hb e=>(sb.2 b hb).trans e) f0 f1 f3 f4 f5
  obtain⟨o,e,c,d⟩:=id bM;exact⟨_,rfl,Av e c d (by decide) ⟨.str ⟨#[z.cps[i]]⟩,H,I1,⟨_,rfl⟩,⟨rfl,_,hx,rfl⟩,bM,λb hb=>(hf b hb).1⟩⟩
 done:=by
  intro X hP hw hK hc i ae s σ H E I hf st hg;subst hP hw hK;obtain⟨f0,f1,f2,f3,f4,f5⟩:=hf it (by simp)
  exact wpAny_pyNext_ascii_end (I.ok.hd hc) st (jE hg) λh' eb=>⟨rfl,I.turned (λb o hb e=>eb b o hb e) f0 f1 f3 f4 f5⟩
 self:=λ_ _ _ _ _ st h=>wpAny_pyIter_striter_ascii st h
def WR(tl:TE):TI:=λσ H R=>tl σ H λx H1=>∃z,x=.str z/\z.cps.all (· < 128)=true/\R (WQ z) H1
def N5{X:Cx}{tg l:Expr}{tl:TE}(hl:PE X l tl):PI X tg l (WR tl):=by
 intro ae s σ H R I h;refine thn (hl ae s σ H _ I h) λv s1 ⟨x,H1,I1,r1,q1⟩=>?_
 obtain⟨z,e,hz,q⟩:=q1;subst e;obtain⟨t,rfl⟩:=r1;refine wpAny_pyIter_ascii hz ?_;refine⟨s1.heap.objs.size,[s1.heap.objs.size],_,_,H1,rfl,I1.kept λb o e=>ax _ e,FE z t _,⟨_,aZ _ rfl,rfl,rfl⟩,λb hb=>?_,q⟩
 have e:b=s1.heap.objs.size:=by grind
 subst e;exact I1.um (ao _) (I1.hok.fresh (ao _))
end L2
namespace L2.U
open PySem PySem.Spec PyProof.Rows
noncomputable def FF(z:Str):List PV:=z.cps.toList.map λc=>.str ⟨#[c]⟩
def FG{K:W.Frag}{F:Fz}(z:Str):Walk K F (FF z) (WQ z):=by
 intro aa ab F' st σ H R s i;refine⟨λp e=>?_,λe=>?_⟩
 ·unfold FF at e;rw[aX,xU]at e;obtain⟨c,e1,rfl⟩:=aL e;have hi:i<z.cps.size:=(Array.getElem?_eq_some_iff.mp e1).1;refine⟨hi,λx H' ⟨hH,c',e2,e3⟩=>?_⟩
  subst hH e3;cases bI (e1.symm.trans e2);exact⟨F',R,Gr.refl _,bh.mpr rfl⟩
 ·unfold FF at e;rw[aX,xU]at e;show z.cps.size<=i
  grind
inductive A2 where
 | sq (ps:List PV) | cl (n:Nat)
def Sn(K:W.Frag)(F:Fz):A2->It->Prop
 | .sq ps,J=>Walk K F ps J
 | .cl n,J=>∃a,F.μ[n]?=some a/\J=UQ K a
abbrev CA(X:Cx)(aa:Hp)(ab:Fz)(f:Gx A2):TI:=tX X aa ab (Sn X.K) f
def Qk(f:Gx (List PV)):Gx A2:=bnd f λps=>b6 (.sq ps)
def LI(n:Nat)(h:List aj)(i:Nat):Option (Option PV):=match cG h (.ref n)with
 | some (.lst,ps)=>some ps[i]?
 | _=>none
def N6(h:List aj)(p:PV):Option A2:=match m6 p with
 | some ps=>some (.sq ps)
 | none=>match p with
  | .ref n=>match cG h (.ref n)with
   | some (.lst,_)=>some (.cl n)
   | _=>none
  | .str z=>if z.cps.all (· < 128)=true then some (.sq (FF z))else none
  | _=>none
def qO(fe:Gx PV):Gx A2:=bnd fe λp=>hp λh=>N6 h p
def FH(g:Tg)(body:Gx d6)(n:Nat):Nat->Nat->Gx d6
 | 0,_=>λ_=>none
 | f+1,i=>λst=>match LI n st.h i with
  | some (some p)=>bnd (stp (g p)) (λ_=>bnd body (v9 (FH g body n f (i+1)))) st
  | some none=>some (.ok .nx,st)
  | none=>none
def WS(g:Tg)(body:Gx d6):A2->Gx d6
 | .sq ps=>ef g body ps
 | .cl n=>FH g body n gY 0
def N7(fi:Gx A2)(g:Tg)(body:Gx d6):Gx d6:=bnd fi (WS g body)
section
variable {X:Cx} {aa:Hp} {ab:Fz} {e tg iter:Expr} {fa:Gx PV} {fb:Gx d6} {body:List Stmt} {pos:Pos}
def J5(h:PI X tg e (tI X aa ab f)):PI X tg e (CA X aa ab (Qk f)):=(by rintro ae s σ H R I ⟨F,st,Rp,hh⟩;exact h ae s σ H R I ⟨F,st,Rp,hh.bnd λps J F1 st1 H1 R1 g1 b1 h1=>h1.b6 J H1 F1 R1 (Gr.refl _) b1⟩)
def FI{K:W.Frag}{st:bU}(R:Rep K aa ab F st σ H)(ha:F.μ[n]?=some a)(e:LI n st.h i=some o):∃ps vs,o=ps[i]?/\uk K H a vs/\aq K F ps vs:=by
 unfold LI at e;split at e
 ·rename_i ps z;cases e;obtain⟨a',vs,e1,h1,h2⟩:=R.at z (dk.mpr ⟨a,ha,rfl⟩);cases e1;exact⟨ps,vs,rfl,gC.sq h1,h2⟩
 ·cases e
def FJ(he:PE X e (tE X aa ab fa)):PI X tg e (CA X aa ab (qO fa)):=by
 rintro ae s σ H R I ⟨F,st,Rp,h⟩
 obtain⟨r,e1,e2⟩:=At.bnd h
 match r,e2 with
 | (.ex m C,st1),e2 =>
  exact ED he ae s σ H R I ⟨F,st,Rp,_,e1,e2⟩
 | (.ok p,st1),e2 =>
  obtain⟨ps,e3,q⟩:=At.hp e2;unfold N6 at e3;split at e3
  ·rename_i qs e4;cases e3;unfold m6 at e4;split at e4
   ·cases e4;refine ED he ae s σ H R I ⟨F,st,Rp,_,e1,λv H1 F1 R1 s1 b1=>?_⟩
    obtain⟨a,vs,rfl,hs,hb⟩:=bu.mp b1;exact⟨a,rfl,⟨vs,aS R1.sub hs⟩,q _ H1 F1 R1 s1 (Fw hs hb)⟩
   ·cases e4;refine Aw he ae s σ H R I ⟨F,st,Rp,_,e1,λv H1 F1 R1 s1 b1=>?_⟩
    obtain⟨a,vs,rfl,hs,hb⟩:=cJ.mp b1;exact⟨a,rfl,⟨vs,(gF R1.sub hs).sq⟩,q _ H1 F1 R1 s1 (Cw hs.sq hb)⟩
   ·cases e4
  ·split at e3
   ·rename_i n _;split at e3
    ·rename_i qs z;cases e3;refine Aw he ae s σ H R I ⟨F,st,Rp,_,e1,λv H1 F1 R1 s1 b1=>?_⟩
     obtain⟨a,vs,rfl,hs,hb⟩:=R1.at z b1;obtain⟨a',ha,e5⟩:=dk.mp b1;cases e5;exact⟨a,rfl,⟨vs,gC.sq hs⟩,q _ H1 F1 R1 s1 ⟨a,ha,rfl⟩⟩
    ·cases e3
   ·obtain⟨hz,rfl⟩:=aw e3;refine N5 he ae s σ H R I ⟨F,st,Rp,_,e1,λv H1 F1 R1 s1 b1=>?_⟩
    exact⟨_,bh.mp b1,hz,q _ H1 F1 R1 s1 (FG _)⟩
   ·cases e3
def N8{fi:Gx A2}(hp:PassesOwn (model X.prog X.w) X.A X.env X.xe)(hc:X.calm=true)(hi:PI X tg iter (CA X aa ab fi))(hg:PG X tg (tG X.K aa ab g))(hb:PSs X body (tS X aa ab fb))
  (hs:∀x,foldedSetIterable iter X.env x=pure x:=by intro _;rfl):PS X (.For tg iter body [] pos) (tS X aa ab (N7 fi g fb)):=(MQ hp hc hi hg hb hs).imp <| by
 rintro D σ H ⟨F,st,R,h⟩
 refine⟨F,st,R,h.bnd λsr J F1 st1 H1 R1 g1 wk h1=>?_⟩
 cases sr with
 | sq ps =>
  refine⟨λi m bA H'=>m=ps.length-i/\i<=ps.length/\∃F' bM,Rep X.K aa ab F' bM bA H'/\Gr F1 F'/\Sa X aa ab F' D bM (ef g fb (ps.drop i)),⟨ps.length,by simp,fg _,F1,st1,R1,Gr.refl _,h1⟩,?_⟩
  rintro i m bA H' ⟨rfl,hi,F',bM,R',s',hr⟩
  obtain⟨wg,WT⟩:=wk aa ab F' bM bA H' R' s' i;by_cases wx:i<ps.length
  ·obtain⟨go,wy⟩:=wg ps[i] (bB wx);rw[List.drop_eq_getElem_cons wx]at hr;refine .inr ⟨go,λAx H2=>∃F2 dw,Rep X.K aa ab F2 dw Ax H2/\Gr F1 F2/\Sa X aa ab F2 D dw (ef g fb (ps.drop (i+1))),λAx H2 n2=>⟨ps.length-(i+1),by lia,rfl,wx,n2⟩,λx H2 y=>?_⟩
   obtain⟨F2,R2,s2,b2⟩:=wy x H2 y;obtain⟨r,e1,e2⟩:=At.bnd hr;obtain⟨So,e3,e4⟩:=aL e1;subst e4;refine⟨F2,bM,ps[i],So,R2,b2,e3,λmX H3 F3 R3 s3=>⟨F3,So,R3,?_⟩⟩
   exact Sa.oQ _ (λF4 Ig LA H4 R4 g4 z=>⟨F4,Ig,R4,(s'.trans (s2.trans s3)).trans g4,z⟩) (Sa.mono (e2) (s2.trans s3))
  ·have e:i=ps.length:=by lia
   subst e;rw[List.drop_length]at hr;exact .inl ⟨WT (nU (ao _)),At.b6 hr F' bA H' R' (Gr.refl _)⟩
 | cl n =>
  obtain⟨a,ha,rfl⟩:=wk;refine⟨λi m bA H'=>∃F' bM,Rep X.K aa ab F' bM bA H'/\Gr F1 F'/\Sa X aa ab F' D bM (FH g fb n m i),⟨gY,F1,st1,R1,Gr.refl _,h1⟩,?_⟩
  rintro i m bA H' ⟨F',bM,R',s',hr⟩
  cases m with
  | zero=>obtain⟨r,e,_⟩:=hr;cases e
  | succ m =>
   obtain⟨r,e1,e2⟩:=hr;have e1:(match LI n bM.h i with
    | some (some p)=>bnd (stp (g p)) (λ_=>bnd fb (v9 (FH g fb n m (i+1)))) bM
    | some none=>some (.ok .nx,bM)
    | none=>none)=some r:=e1
   cases z:LI n bM.h i with
   | none=>rw[z]at e1;cases e1
   | some o =>
    obtain⟨ps,vs,ho,hq,uy⟩:=FI R' (s'.m n a ha) z;cases o with
    | none =>
     rw[z]at e1;cases e1;refine .inl ⟨⟨vs,hq,?_⟩,e2 F' bA H' R' (Gr.refl _)⟩;rw[<-uy.length];exact fJ.mp ho.symm
    | some p =>
     rw[z]at e1;obtain⟨v,hv,bv⟩:=uy.get ho.symm;refine .inr ⟨⟨vs,v,hq,hv⟩,λAx H2=>∃F2 dw,Rep X.K aa ab F2 dw Ax H2/\Gr F1 F2/\Sa X aa ab F2 D dw (FH g fb n m (i+1)),λAx H2 n2=>⟨m,lP m,n2⟩,λx H2 ⟨hH,y⟩=>?_⟩
     subst hH;have:=y vs hq;rw[hv]at this;cases this;obtain⟨r',q1,q2⟩:=At.bnd (⟨r,e1,e2⟩);obtain⟨So,e3,e4⟩:=aL q1;subst e4;refine⟨F',bM,p,So,R',bv,e3,λmX H3 F3 R3 s3=>⟨F3,So,R3,?_⟩⟩
     exact Sa.oQ _ (λF4 Ig LA H4 R4 g4 z=>⟨F4,Ig,R4,(s'.trans s3).trans g4,z⟩) (Sa.mono (q2) s3)
end
def A3(bd:PV->List aj->Option (Option PV×List aj))(n:Nat):Nat->Nat->List aj->Option (List PV×List aj)
 | 0,_,_=>none
 | f+1,i,h=>match LI n h i with
  | some (some p)=>(bd p h).bind λr=>(A3 bd n f (i+1) r.2).map λs=>(r.1.toList++s.1,s.2)
  | some none=>some ([],h)
  | none=>none
def Sq(bd:PV->List aj->Option (Option PV×List aj))(h:List aj):A2->Option (List PV×List aj)
 | .sq ps=>if ps.length<=gY then gJ bd ps h else none
 | .cl n=>A3 bd n gY 0 h
def LJ(c:Bool)(ρ:List (Option PV))(r:List PV×List aj):Option (Rs PV×bU):=if c=true then ix ⟨.lst,r.1⟩ ⟨ρ,r.2⟩else some (.ok (.lst r.1),⟨ρ,r.2⟩)
def i4(c:Bool)(link:List (Option Nat))(fi:Gx A2)(bd:Bd):Gx PV:=bnd fi λs st=>(Sq (bd (dq link st.ρ)) st.h s).bind (LJ c st.ρ)
section
variable {X:Cx} {aa:Hp} {ab:Fz} {N:List Str} {link:List (Option Nat)} {scope:Scope} {tg iter elt c:Expr} {pos:Pos} {fi:Gx A2} {g:Tg} {fe:Gx PV} {ft:Gx Bool} {L:List Nat} {cl:Bool}
def wA{st1:bU}{Q:VK}(R':jX X.K aa ab F' hf H')(L1:Lc X.K F1 st1.ρ σ)(g':Gr F1 F')(uy:aq X.K F' done acc)(hn:H' D=none)(e4:LJ cl st1.ρ (done,hf)=some r)(e2:E4 X aa ab F1 (λa bM=>∀b H' F',Rep X.K aa ab F' bM σ H'->Gr F1 F'->aY X.K F' a b->Q b H') r):Q (.ref D) (cf H' D (.lst acc)):=by
 have Ro:Rep X.K aa ab F' ⟨st1.ρ,hf⟩ σ H':=⟨R',L1.mono g'⟩;cases cl with
 | true =>
  have e4:=e4;exact Tx.ix (Tx.mono ⟨r,e4,e2⟩ g' λ_ _ z=>z) Ro hn ar uy
 | false =>
  have e4:=e4;cases e4;obtain⟨R2,s2⟩:=Ro.laid (.lst acc) hn;exact e2 _ _ _ R2 (g'.trans s2) (cJ.mpr ⟨D,acc,rfl,gC.of ar,uy.mono s2⟩)
def rY{Q:VK}
  (hb:∀(F2:Fz) (ρ:List (Option PV)) (p:PV) (h h':List aj) (o:Option PV) (x:V) (bA:St) (H2:Hp) (Q':Option V->St->Hp->Prop),bd (dq link ρ) p h=some (o,h')->Rep X.K aa ab F2 ⟨dq link ρ,h⟩ bA H2->aY X.K F2 p x ->
   (∀o' mX H3 F3,Rep X.K aa ab F3 ⟨dq link ρ,h'⟩ mX H3->Gr F2 F3->aq X.K F3 o.toList (Option.toList o')->Q' o' mX H3)->tb x bA H2 Q')
  (h:tE X aa ab (i4 cl link fi bd) σ H Q):rV link (CA X aa ab fi) tb σ H Q:=by
 obtain⟨F,st,R,h⟩:=h;refine⟨F,st,R,h.bnd λsr J F1 st1 H1 R1 g1 wk h1=>?_⟩
 obtain⟨r,e1,e2⟩:=h1;obtain⟨⟨rs,hf⟩,e3,e4⟩:=aE e1;cases sr with
 | sq ps =>
  obtain⟨dj,e3⟩:=bH e3;refine⟨λi m acc bA H'=>m=ps.length-i/\i<=ps.length/\acc.length<=i/\∃F' h' done rest,Rep X.K aa ab F' ⟨dq link st1.ρ,h'⟩ bA H'/\Gr F1 F'/\gJ (bd (dq link st1.ρ)) (ps.drop i) h'=some (rest,hf)/\done++rest=rs/\aq X.K F' done acc,
   ⟨ps.length,rfl,fg _,ao _,F1,st1.h,[],rs,⟨R1.c,R1.l.ir link⟩,Gr.refl _,e3,rfl,.nil⟩,?_⟩
  rintro i m acc bA H' ⟨rfl,hi,ha,F',h',done,rest,R',g',hr,hd,uy⟩
  obtain⟨wg,WT⟩:=wk aa ab F' _ bA H' R' g' i;by_cases wx:i<ps.length
  ·rw[List.drop_eq_getElem_cons wx]at hr;obtain⟨⟨o,h2⟩,e5,e6⟩:=aE hr;obtain⟨⟨r2,h3⟩,e7,e8⟩:=aL e6;cases e8;obtain⟨go,wy⟩:=wg ps[i] (bB wx);refine .inr ⟨go,jG (aM ha hi) (jG dj (by decide)),λx H2 y=>?_⟩
   obtain⟨F2,R2,s2,b2⟩:=wy x H2 y;refine hb F2 st1.ρ ps[i] h' h2 o x bA H2 _ e5 R2 b2 λo' mX H3 F3 R3 s3 b3=>⟨ps.length-(i+1),by lia,rfl,wx,?_,F3,h2,done++o.toList,r2,R3,g'.trans (s2.trans s3),e7,by rw[<-hd,gR],(uy.mono (s2.trans s3)).append b3⟩
   rw[bC];cases o'<;>simp <;> lia
  ·have e:i=ps.length:=by lia
   subst e;rw[List.drop_length]at hr;cases hr;rw[eZ]at hd;subst hd;exact .inl ⟨WT (nU (ao _)),aM ha (c9 dj),λD hn=>wA R'.c R1.l g' uy hn e4 e2⟩
 | cl n =>
  obtain⟨a,hna,rfl⟩:=wk;refine⟨λi m acc bA H'=>i+m=gY/\acc.length<=i/\∃F' h' done rest,Rep X.K aa ab F' ⟨dq link st1.ρ,h'⟩ bA H'/\Gr F1 F'/\A3 (bd (dq link st1.ρ)) n m i h'=some (rest,hf)/\done++rest=rs/\aq X.K F' done acc,
   ⟨gY,Nat.zero_add _,ao _,F1,st1.h,[],rs,⟨R1.c,R1.l.ir link⟩,Gr.refl _,e3,rfl,.nil⟩,?_⟩
  rintro i m acc bA H' ⟨hm,ha,F',h',done,rest,R',g',hr,hd,uy⟩
  cases m with
  | zero=>cases hr
  | succ m =>
   have hr:(match LI n h' i with
    | some (some p)=>(bd (dq link st1.ρ) p h').bind λr=>(A3 (bd (dq link st1.ρ)) n m (i+1) r.2).map λs=>(r.1.toList++s.1,s.2)
    | some none=>some ([],h')
    | none=>none)=some (rest,hf):=hr
   have yT:i<=gY:=by lia
   cases z:LI n h' i with
   | none=>rw[z]at hr;cases hr
   | some o =>
    obtain⟨ps,vs,ho,hq,Y6⟩:=FI R' (g'.m n a hna) z;rw[z]at hr;cases o with
    | none =>
     cases hr;rw[eZ]at hd;subst hd;refine .inl ⟨⟨vs,hq,?_⟩,aM ha (c9 yT),λD hn=>wA R'.c R1.l g' uy hn e4 e2⟩
     rw[<-Y6.length];exact fJ.mp ho.symm
    | some p =>
     obtain⟨⟨o,h2⟩,e5,e6⟩:=aE hr;obtain⟨⟨r2,h3⟩,e7,e8⟩:=aL e6;cases e8;obtain⟨v,hv,bv⟩:=Y6.get ho.symm;refine .inr ⟨⟨vs,v,hq,hv⟩,jG (aM ha yT) (by decide),λx H2 ⟨hH,y⟩=>?_⟩
     subst hH;have:=y vs hq;rw[hv]at this;cases this;refine hb F' st1.ρ p h' h2 o v bA H2 _ e5 R' bv λo' mX H3 F3 R3 s3 b3=>⟨m,lP m,by lia,?_,F3,h2,done++o.toList,r2,R3,g'.trans s3,e7,by rw[<-hd,gR],(uy.mono s3).append b3⟩
     rw[bC];cases o'<;>simp <;> lia
def FK(hg:KG L g)(hL:∀i∈L,link[i]?=some none)(h:tE X aa ab (i4 cl link fi (pz g fe)) σ H Q):rV link (CA X aa ab fi) (YZ X aa ab g fe) σ H Q :=
 rY (λF2 ρ p h h' o x bA H2 Q' e R2 b2 k=>by
  obtain⟨st1,e1,e⟩:=aE e;obtain⟨r,e2,e⟩:=aE e;obtain⟨⟨a,hh⟩,e3,e4⟩:=aL e;cases e4;obtain⟨IU,rfl,rfl⟩:=wz e3;obtain⟨l1,k1⟩:=hg _ _ _ e1;refine⟨F2,_,p,st1,R2,b2,e1,λmX H3 F3 R3 s3 Y hY=>⟨F3,st1,by grind,_,e2,λv H4 F4 R4 s4 b4=>?_⟩⟩
  rw[hY]at R4 b4;exact k (some v) mX H4 F4 ⟨R4.c,(R3.l.mono s4).back (l1.symm.trans R3.l.len) rfl k1 hL⟩ (s3.trans s4) (.cons b4 .nil)) h
def FL(hg:KG L g)(hL:∀i∈L,link[i]?=some none)(h:tE X aa ab (i4 cl link fi (Ft g ft fe)) σ H Q):rV link (CA X aa ab fi) (Y0 X aa ab g ft fe) σ H Q :=
 rY (λF2 ρ p h h' o x bA H2 Q' e R2 b2 k=>by
  obtain⟨st1,e1,e⟩:=aE e;obtain⟨r,e2,e⟩:=aE e;obtain⟨l1,k1⟩:=hg _ _ _ e1;refine⟨F2,_,p,st1,R2,b2,e1,λmX H3 F3 R3 s3 Y hY=>⟨F3,st1,by grind,r,e2,?_⟩⟩
  match r,e with
  | (.ok b,dw),e =>
   intro b' H4 F4 R4 s4 eb;cases eb;cases b with
   | true =>
    have e:=e;obtain⟨r,e5,e⟩:=aE e;obtain⟨⟨a,hh⟩,e6,e7⟩:=aL e;cases e7;obtain⟨IU,rfl,rfl⟩:=wz e6;rw[if_pos rfl];refine⟨F4,dw,R4,_,e5,λv H5 F5 R5 s5 b5=>?_⟩
    rw[hY]at R5 b5;exact k (some v) mX H5 F5 ⟨R5.c,(R3.l.mono (s4.trans s5)).back (l1.symm.trans R3.l.len) rfl k1 hL⟩ (s3.trans (s4.trans s5)) (.cons b5 .nil)
   | false =>
    have e:=e;cases e;rw[hY]at R4;exact k none mX H4 F4 ⟨R4.c,(R3.l.mono s4).back (l1.symm.trans R3.l.len) rfl k1 hL⟩ (s3.trans s4) .nil) h
end
noncomputable def Sr:aj:=⟨.ag,[]⟩
section
variable {K:W.Frag} {aa H:Hp} {ab F F':Fz} {st:bU} {σ:St} {a:Addr} {n:Nat} {c:aj}
def Ss{μ:List Addr}(hd:μ.Nodup)(h1:μ[n]?=some a)(h2:μ[m]?=some b)(hm:m≠n):b≠a:=λz=>by
 subst z;exact hm ((yf (b8.mp h2).1 hd).mp (h2.trans h1.symm))
def Rep.lock(R:Rep K aa ab F st σ H)(ha:F.μ[n]?=some a)(hf:F.F a=none)(u:HO):Rep K aa ab ⟨cf F.F a u,F.μ⟩ ⟨st.ρ,st.h.set n Sr⟩ σ (cf H a u)/\Gr F ⟨cf F.F a u,F.μ⟩:=by
 have g:Gr F ⟨cf F.F a u,F.μ⟩:=⟨dr hf,λ_ _ h=>h⟩
 have h0:=(R.c.new n a ha).1;refine⟨⟨⟨λb o e=>?_,λb o e=>?_,R.c.base.trans g,λb o e=>?_,λm b e=>?_,by simp[R.c.hl],R.c.nd,λm d b hd hb hl=>?_⟩,R.l.mono g⟩,g⟩
 ·have e:cf F.F a u b=some o:=e;by_cases hb:b=a
  ·subst hb;rw[ar]at e ⊢;exact e
  ·rw[aI hb]at e ⊢;exact R.c.sub _ _ e
 ·rw[aI (cH e h0)];exact R.c.keep _ _ e
 ·have e:cf F.F a u b=some o:=e;by_cases hb:b=a
  ·subst hb;exact .inr h0
  ·rw[aI hb]at e;exact R.c.fresh _ _ e
 ·obtain⟨h1,o,h2⟩:=R.c.new m b e;by_cases hb:b=a
  ·subst hb;exact⟨h1,u,ar⟩
  ·exact⟨h1,o,by rw[aI hb];exact h2⟩
 ·by_cases hm:m=n
  ·subst hm;rw[List.getElem?_set_self' ]at hd;cases z:st.h[m]? with
   | none=>rw[z]at hd;cases hd
   | some d'=>rw[z]at hd;cases hd;cases hl
  ·rw[iH (bj hm)]at hd;have jf:=Ss R.c.nd ha hb hm;obtain⟨h1,vs,h2,h3⟩:=R.c.cell m d b hd hb hl;exact⟨(aI jf).trans h1,vs,h2.to g.s (λo e=>by rw[aI jf];exact e) (λz=>z),h3.mono g⟩
end
noncomputable def bY:cC->PV
 | .inl i=>.int i
 | .inr x=>.str x
noncomputable def lsP:PV->Option (List PV)
 | .nd .lst qs=>some qs
 | _=>none
def aaR(n:Nat)(ks:List (List cC))(ps:List PV)(p q:PV):Option (List PV):=match p with
 | .ref m=>if m=n then(iX true q).bind λk=>(da k ks ps).bind lsP else none
 | _=>none
section
variable {X:Cx} {aa:Hp} {ab:Fz} {tg iter va vb:Expr} {fe fa fb:Gx PV} {f:Gx d6} {body:List Stmt} {pos aaS:Pos} {D:vO} {g:Tg}
def N9(fe:Gx PV):Gx PV:=bnd fe λp st=>match p with
 | .ref n=>(zb st.h (.ref n)).bind λq=>match q.2.k with
  | .lst=>some (.ok (.lst q.2.ps),⟨st.ρ,st.h.set n Sr⟩)
  | _=>none
 | p=>some (.ok p,st)
def Su{e:Expr}(he:PE X e (tE X aa ab fe)):PE X e (tE X aa ab (N9 fe)):=he.imp λσ H Q h=>by
 obtain⟨F,st,R,h⟩:=h;refine⟨F,st,R,h.bnd λp v F1 st1 H1 R1 g1 b1 h1=>?_⟩
 have keep:(∀n,p≠.ref n)->Q v H1:=λhp=>by
  obtain⟨r,e1,e2⟩:=h1;cases p with
  | ref n=>exact absurd rfl (hp n)
  | _=>cases e1;exact e2 _ _ F1 R1 (Gr.refl _) b1
 cases p with
 | ref n =>
  obtain⟨r,e1,e2⟩:=h1;obtain⟨⟨m,c⟩,d1,e3⟩:=aE (show(zb st1.h (.ref n)).bind _=some r from e1)
  obtain⟨z,hc1,hl⟩:=gH d1;cases z;obtain⟨a,ha,rfl⟩:=dk.mp b1;obtain⟨ck,cp⟩:=c;cases ck with
  | lst =>
   cases e3;obtain⟨hf,ws,k1,hv⟩:=R1.c.cell n _ a hc1 ha hl;have k1:H1 a=some (.lst ws):=k1;obtain⟨R2,g2⟩:=R1.lock ha hf (.lst ws);have eH:cf H1 a (.lst ws)=H1:=by
    funext b
    by_cases hb:b=a
    ·subst hb;rw[ar,k1]
    ·rw[aI hb]
   rw[eH]at R2;exact e2 _ _ _ R2 g2 (cJ.mpr ⟨a,ws,rfl,gC.of ar,hv.mono g2⟩)
  | _=>cases e3
 | _=>exact keep λ_ z=>nomatch z
end
def A4{P:Program}{w:World}{H':Hp}{h1 h5 B:Heap}(x:ko P w H' h1)(hB:∀b o,H' b=some o->∃ob,B.get? b=some ob)(k1:B.StaysIn h1)(k5:B.StaysIn h5):ko P w H' h5:=λa o e=>by
 have keep:∀b u o',H' b=some o'->h1.get? b=some u->h5.get? b=some u:=λb u o' eb q=>by
  obtain⟨ob,U9⟩:=hB b o' eb;have:=k1 b ob U9;rw[q]at this;cases this;exact k5 b _ U9
 refine(x a o e).vK (λb u hb q=>?_) (λ_ q=>q) (λ_ _ q=>q) λ_ _ _ q=>q
 rcases hb with rfl | hb
 ·exact keep _ _ _ e q
 ·exact keep _ _ _ hb q
def FN{l:List Env}{H H':Hp}{h h1 h5 B B':Heap}(u:Un (kE l) [] H H' h h1)(sm:Dm H H')(hB:∀b o,H' b=some o->∃ob,B.get? b=some ob)(hU:∀b ob,h.get? b=some ob->H b=none->b∉kE l->B.get? b=some ob)
  (k5:B.StaysIn h5) (fr:h1.FunFrames B' l) (up:h1.UpToSlots h5):Un (kE l) [] H H' h h5:=by
 have slot:∀b o,h.get? b=some o->H b=none->b∈kE l->∃sl,h5.get? b=some {o with slots:=sl}:=λb o q n hb=>by
  obtain⟨sl,e⟩:=u.slot b o q n hb (by simp)
  obtain⟨_,o',oO,hd⟩:=fr.mem hb;rw[e]at oO;cases oO;obtain⟨QK,e'⟩:=up b _ e hd;exact⟨QK,e'⟩
 refine⟨λb o q n hb _=>k5 b o (hU b o q n hb),λb o q n hb _=>slot b o q n hb,u.free,λb o q hx=>?_,u.tups,u.frzs,u.tbls⟩
 cases z:H b with
 | none =>
  by_cases hb:b∈kE l
  ·grind
  ·exact⟨o,k5 b o (hU b o q z hb)⟩
 | some v =>
  obtain⟨v',z'⟩:=sm b v z;obtain⟨ob,U9⟩:=hB b v' z';exact⟨ob,k5 b ob U9⟩
def CB{P:Program}{w:World}{H:Hp}{h:Heap}{a:Addr}{o:HO}(x:eG P w H h a o):∃ob,h.get? a=some ob:=by
 cases o with
 | lst xs=>obtain⟨_,_,_,_,e⟩:=x;exact⟨_,e⟩
 | ag xs=>obtain⟨_,_,_,ob,e,_⟩:=x;exact⟨_,e⟩
 | dK kvs=>obtain⟨_,_,_,_,o,_,_,e,_⟩:=x;exact⟨_,e⟩
 | dT kvs=>obtain⟨_,_,o,_,_,e,_⟩:=x;exact⟨_,e⟩
 | set S n=>obtain⟨o,_,_,_,e,_⟩:=x;exact⟨_,e⟩
 | ins C dx fs=>obtain⟨_,_,_,e,_⟩:=x;exact⟨_,e⟩
 | own y=>obtain⟨_,e⟩:=x;exact⟨_,e⟩
 | xd fs=>obtain⟨_,⟨_,_,_,e,_⟩,_⟩:=x;exact⟨_,e⟩
 | UL lo hi=>obtain⟨_,_,_,e⟩:=x;exact⟨_,e⟩
 | vD ob u=>obtain⟨e,_⟩:=x;exact⟨_,e⟩
 | kn q=>obtain⟨_,e,_⟩:=x;exact⟨_,e⟩
 | UK f y=>exact⟨_,show h.get? a=some _ from x⟩
 | ext φ=>obtain⟨_,⟨_,e⟩,_⟩:=x;exact⟨_,e⟩
section
variable {P:Program} {w:World} {K:W.Frag} {mg:Str->Option Value} {base:Heap} {N:List Str} {qual:Str} {scope:Scope} {f:Addr} {cd:Value} {A:Around} {aB:List Env} {s:Shared} {H:Hp} {E E1:XK} {ae:List (Addr×Obj)} {σ:St} {H1:Hp} {s1 s':Shared} {e:Value}
def A5(I:Inv (fN (ku P w) P w K mg base N qual scope f cd A aB s H E) ae σ H1 s1){b:Addr}{ob:Obj}(q:s.heap.get? b=some ob)(hb:b∉kE aB):b∉kE (envOfC qual scope s.heap.objs.size f cd::aB):=λhm=>by
 rcases aF.mp (I.ui b hm)with z | z
 ·exact absurd (az q) (by rw[z];exact dC _)
 ·exact hb z
def FO(I:Inv (fN (ku P w) P w K mg base N qual scope f cd A aB s H E) ae σ H1 s1)(h:ku P w (envOfC qual scope s.heap.objs.size f cd::aB) H1 s1 E1 e s')(hE:∀cls H2,E1 cls none H2->Dm H H2/\E cls none H2) :
  (fN (ku P w) P w K mg base N qual scope f cd A aB s H E).xe e s':=by
 obtain⟨a,cls,a0,B,H2,rfl,Ic,hb,un,hok,sm,he,Oa,hB,hU⟩:=h;obtain⟨Sv,hE⟩:=hE cls H2 he;have I2:=I.Lo Ic un hok hb (λb z=>absurd z (by simp))
 refine wpAny_leaves_onW I.ok.frames rfl Oa λh' Ob up=>?_
 have Y7:∀b ob,s.heap.get? b=some ob->H b=none->b∉kE aB->B.get? b=some ob:=λb ob q n hb=>hU b ob (I.base.keep b ob q n hb (by simp[fN])) (I.base.free b ob q n (by simp[fN])) (A5 I q hb)
 exact⟨a,cls,a0,B,H2,rfl,Ic.trans I.os,hb,FN I2.base Sv hB Y7 Ob.1 Oa.2.2.1.2.2 up,A4 hok hB Oa.1 Ob.1,Sv,hE,Ob,hB,Y7⟩
def J6{h1:Heap}{a:Addr}{cls:Value}{vs:List Value}(I:Inv (fN (ku P w) P w K mg base N qual scope f cd A aB s H E) ae σ H1 s1)(hm:Heap.MadeExcOf s1.heap h1 a cls vs)(Sv:Dm H H1)(hE:E cls none H1) :
  (fN (ku P w) P w K mg base N qual scope f cd A aB s H E).xe (.ref a) {s1 with heap:=h1}:=by
 have hB:∀b o,H1 b=some o->∃ob,(W.hideAll s1.heap (kE (envOfC qual scope s.heap.objs.size f cd::aB))).get? b=some ob:=λb o e=>by
  obtain⟨ob,q⟩:=CB (I.hok b o e);exact⟨ob,W.hideAll_get _ q λhb=>by
   have:=I.uj b hb;rw[e]at this;cases this⟩
 have hU:∀b ob,s.heap.get? b=some ob->H b=none->b∉kE aB->(W.hideAll s1.heap (kE (envOfC qual scope s.heap.objs.size f cd::aB))).get? b=some ob:=λb ob q n hb =>
  W.hideAll_get _ (I.base.keep b ob q n hb (by simp[fN])) (A5 I q hb)
 refine wpAny_leaves_madeW I.ok.frames rfl (λb o q=>W.of_hideAll _ q) (W.funFrames_hide I.stack λenv he b hb=>oh.mpr ⟨env,he,hb⟩) hm λh' t Oa ag tn up=>?_
 refine⟨a,cls,.ref t,_,H1,rfl,I.os,I.bare,FN (I.base.trans (Un.kept hm.keeps)) Sv hB hU Oa.1 (I.funs.of_keeps λb o q _=>⟨o,hm.keeps b o q,rfl⟩) up,A4 (I.hok.kept hm.keeps) hB (λb o q=>hm.keeps b o (W.of_hideAll _ q)) Oa.1,Sv,hE,Oa,hB,hU⟩
end
def FP(K:W.Frag)(f:Addr)(eA:Value):Prop:=∃oc od fd xC,K.lookup f=some ⟨oc,od,.func fd,xC⟩/\fd.code=eA
def J7{P:Program}{w:World}{K:W.Frag}{mg:Str->Option Value}{base:Heap}{x qual:Str}{st:Stmt}{f:Addr}{fd:FuncData}{N ps:List Str}{k:Nat}{sp:Sp}(F:BN K x qual st f fd)(S:dg N ps (ay st))(len:∀vs H Q E,sp vs H Q E->vs.length=ps.length)
  (hbody:∀(eA:Value) (A:Around) (aB:List Env) (s:Shared) (H:Hp) (vs:List V) (Q:VK) (E:XK),FP K f eA->dU k (A.deeper (envOfC qual (ay st) s.heap.objs.size f eA))->sp vs H Q E ->
   ∃t,PSs (fN (ku P w) P w K mg base N qual (ay st) f eA A aB s H E) (dh st) t/\t {nx:=λ_ H'=>Q .aK H',rt:=Q} (start N vs) H):FnOk P w K mg base (ku P w) (k+1) f fd ps sp:=by
 obtain⟨oc,od,kV,doc,pm,an,eA,ct,xC,rfl,lk,DK⟩:=F.ex;exact Rh lk DK S len λA aB s H vs Q E hr Qf=>hbody eA A aB s H vs Q E ⟨oc,od,_,xC,lk,rfl⟩ hr Qf
noncomputable def qP(H:Hp)(μ:List Addr):Hp:=λb=>if b∈μ then none else H b
section
variable {K:W.Frag} {aa H H':Hp} {ab F F':Fz} {h h':List aj}
def CD{μ:List Addr}{b:Addr}{o:HO}(e:qP H μ b=some o):H b=some o/\b∉μ:=by
 unfold qP at e;split at e
 ·cases e
 ·grind
def CF{μ:List Addr}{b:Addr}(e:qP H μ b=none):H b=none\/b∈μ:=by
 unfold qP at e;split at e
 ·grind
 ·grind
def jX.enter(C:jX K aa ab F h H):jX K (qP H F.μ) F F h H/\∀b o,H b=some o->qP H F.μ b=some o\/∃n:Nat,F.μ[n]?=some b:=by
 refine⟨⟨C.sub,λb o e=>(CD e).1,Gr.refl F,λa o e=>.inl e,λn a e=>⟨if_pos (eV e),(C.new n a e).2⟩,C.hl,C.nd,C.cell⟩,λb o e=>?_⟩
 by_cases hb:b∈F.μ
 ·obtain⟨n,hn⟩:=tM.mp hb;exact .inr ⟨n,hn⟩
 ·exact .inl (by unfold qP;rw[if_neg hb];exact e)
def jX.leave(C:jX K aa ab F h H)(D:jX K (qP H F.μ) F F' h' H'):jX K aa ab F' h' H':=by
 have none_of:∀a,qP H F.μ a=none->aa a=none:=λa e=>by
  rcases CF e with z | z
  ·exact C.keep.free z
  ·obtain⟨n,hn⟩:=tM.mp z;exact(C.new n a hn).1
 refine⟨D.sub,λb o e=>D.keep b o ?_,C.base.trans D.base,λa o e=>?_,λn a e=>⟨none_of a (D.new n a e).1,(D.new n a e).2⟩,D.hl,D.nd,D.cell⟩
 ·unfold qP;rw[if_neg λhb=>?_]
  ·exact C.keep b o e
  ·obtain⟨n,hn⟩:=tM.mp hb;rw[(C.new n b hn).1]at e;cases e
 ·rcases D.fresh a o e with z | z
  ·exact C.fresh a o z
  ·grind
end
abbrev m7:=List PV->List aj->Option (Rs PV×List aj)
def WU(K:W.Frag)(aa:Hp)(F:Fz)(h':List aj)(Q:VK)(E:XK):Rs PV->Prop
 | .ok p=>∀v F' H',jX K aa F F' h' H'->aY K F' p v->Q v H'
 | .ex _ C=>∀cls F' H',jX K aa F F' h' H'->ClsAt K C cls->E cls none H'
def CG(K:W.Frag)(n:Nat)(f:m7):Sp:=λvs H Q E=>∃aa F h ps r h',jX K aa F F h H/\(∀b o,H b=some o->aa b=some o\/∃n:Nat,F.μ[n]?=some b)/\aq K F ps vs/\ps.length=n/\f ps h=some (r,h')/\WU K aa F h' Q E r
noncomputable def hJ(n:Nat)(ps:List PV):List (Option PV):=ps.map some++List.replicate (n-ps.length) none
noncomputable def Sw:Rs d6×bU->Option (Rs PV×List aj)
 | (.ok (.rt p),st)=>some (.ok p,st.h)
 | (.ok .nx,st)=>some (.ok .aK,st.h)
 | (.ex m C,st)=>some (.ex m C,st.h)
 | _=>none
def iy(fb:Gx d6)(n:Nat):m7:=λps h=>(fb ⟨hJ n ps,h⟩).bind Sw
def FQ{K:W.Frag}{F:Fz}{ps:List PV}{vs:List V}{N:List Str}(b:aq K F ps vs):Lc K F (hJ N.length ps) (start N vs) where
 av:=λi p e=>by
  unfold hJ at e;unfold start;by_cases hi:i<ps.length
  ·rw[nL (by simpa using hi),aX]at e
   cases z:ps[i]? with
   | none=>rw[z]at e;cases e
   | some q =>
    rw[z]at e;cases e;obtain⟨v,h1,h2⟩:=b.get z;refine⟨v,?_,h2⟩;rw[nL (by simpa using (b.length▸hi)),aX,h1]
    rfl
  ·rw[tx (by simpa using hi),List.getElem?_replicate]at e
   split at e<;>cases e
 len:=by unfold hJ start;simp[b.length]
def LK{K:W.Frag}{aa H H':Hp}{F F':Fz}{h':List aj}(full:∀b o,H b=some o->aa b=some o\/∃n:Nat,F.μ[n]?=some b)(D:jX K aa F F' h' H'):Dm H H':=λb o e=>by
 rcases full b o e with z | ⟨n,hn⟩
 ·exact⟨o,D.keep b o z⟩
 ·exact(D.new n b (D.base.m n b hn)).2
def FT{P:Program}{w:World}{K:W.Frag}{mg:Str->Option Value}{base:Heap}{x qual:Str}{st:Stmt}{f:Addr}{fd:FuncData}{N ps:List Str}{k:Nat}{fb:Gx d6}(F:BN K x qual st f fd)(S:dg N ps (ay st))
  (hbody:∀(eA:Value) (A:Around) (aB:List Env) (s:Shared) (H:Hp) (E:XK),FP K f eA->dU k (A.deeper (envOfC qual (ay st) s.heap.objs.size f eA))->∀(aa:Hp) (ab:Fz),
   PSs (fN (ku P w) P w K mg base N qual (ay st) f eA A aB s H E) (dh st) (tS (fN (ku P w) P w K mg base N qual (ay st) f eA A aB s H E) aa ab fb)):FnOk P w K mg base (ku P w) (k+1) f fd ps (CG K ps.length (iy fb N.length)):=by
 refine J7 F S (by rintro vs H Q E ⟨_,_,_,_,_,_,_,_,b,hl,_⟩;rw[<-b.length];exact hl) λeA A aB s H vs Q E Y8 hr z9=>?_
 obtain⟨aa,F,h,as,r,h',C,full,b,hl,hf,res⟩:=z9;refine⟨_,hbody eA A aB s H E Y8 hr aa F,F,⟨hJ N.length as,h⟩,⟨C,FQ b⟩,?_⟩;obtain⟨q,e1,e2⟩:=aE hf;refine⟨q,e1,?_⟩;rcases q with⟨f | ⟨m,c⟩,st⟩
 ·cases f with
  | rt=>cases e2;exact λv F' H' C' g b'=>res v F' H' C' b'
  | nx=>cases e2;exact λF' bA H' R g=>res .aK F' H' R.c (cy.mpr rfl)
  | _=>cases e2
 ·cases e2;cases m with
  | true=>exact λF' bA H' ae s1 h1 a cls vs R sf I hc hm=>J6 I hm (LK full R.c) (res cls F' H' R.c hc)
  | false=>exact λbA ae H1 s1 e s' I h=>FO I h (by rintro cls H2 ⟨hc,F',R,sf⟩;exact⟨LK full R.c,res cls F' H2 R.c hc⟩)
mutual
def noRef:PV->Bool
 | .ref _=>false
 | .nd _ ps=>aD ps
 | _=>true
def aD:List PV->Bool
 | []=>true
 | p::ps=>noRef p&&aD ps
end
section
variable {K:W.Frag} {F:Fz} {μ:List Addr}
mutual
theorem aY.any:∀{p:PV} {v:V},noRef p=true->aY K F p v->aY K ⟨F.F,μ⟩ p v
 | .aK,_,_,b=>cy.mpr (cy.mp b)
 | .bl _,_,_,b=>aQ.mpr (aQ.mp b)
 | .int _,_,_,b=>au.mpr (au.mp b)
 | .str _,_,_,b=>bh.mpr (bh.mp b)
 | .fn _,_,_,b=>l8.mpr (l8.mp b)
 | .ref _,_,h,_=>by simp[noRef]at h
 | .nd k ps,_,h,b=>by
  obtain⟨a,vs,h1,h2,h3⟩:=gV.mp b;exact gV.mpr ⟨a,vs,h1,h2,aq.any h h3⟩
theorem aq.any:∀{ps:List PV} {vs:List V},aD ps=true->aq K F ps vs->aq K ⟨F.F,μ⟩ ps vs
 | [],_,_,b=>by rw[b.bN];exact .nil
 | _::_,_,h,b=>by
  simp only[aD,aC]at h;obtain⟨v,r,rfl,b1,b2⟩:=b.bE;exact .cons (b1.any h.1) (aq.any h.2 b2)
end
end
def lH(h:List aj):Nat->PV->Option PV
 | 0,p=>if noRef p=true then some p else none
 | n+1,p=>if noRef p=true then some p else match p with
  | .ref m=>(h[m]?).bind λc=>if live c=true then(aT (lH h n) c.ps).map (.nd c.k)else none
  | .nd k ps=>(aT (lH h n) ps).map (.nd k)
  | _=>none
open Classical in
noncomputable def jx (F:Fz) (h:List aj) (H:Hp):Hp:=λa=>match F.F a with
 | some o=>some o
 | none=>if(∃(n:Nat) (c:aj),F.μ[n]?=some a/\h[n]?=some c/\live c=true)then H a else none
section
variable {K:W.Frag} {aa H:Hp} {ab F:Fz} {h:List aj}
def gL{a:Addr}{o:HO}(e:F.F a=some o):jx F h H a=some o:=by unfold jx;rw[e]
def CH{a:Addr}{n:Nat}{c:aj}(e:F.F a=none)(h1:F.μ[n]?=some a)(h2:h[n]?=some c)(h3:live c=true):jx F h H a=H a:=by
 unfold jx;rw[e];exact if_pos ⟨n,c,h1,h2,h3⟩
def wB{a:Addr}{o:HO}(e:jx F h H a=some o):F.F a=some o\/(H a=some o/\∃n:Nat,F.μ[n]?=some a):=by
 unfold jx at e;split at e
 ·grind
 ·split at e
  ·grind
  ·cases e
def jX.lH(C:jX K aa ab F h H)(μ:List Addr):∀(n:Nat) (p q:PV) (v:V),lH h n p=some q->aY K F p v->aY K ⟨jx F h H,μ⟩ q v:=by
 have keep:∀{p:PV} {v:V},noRef p=true->aY K F p v->aY K ⟨jx F h H,μ⟩ p v:=λhn b =>
  aY.mono (F:=⟨F.F,μ⟩) (F':=⟨jx F h H,μ⟩) ⟨λb o e=>gL e,λ_ _ e=>e⟩ (b.any hn)
 intro n;induction n with
 | zero =>
  intro p q v e b;obtain⟨hn,rfl⟩:=aw e;exact keep hn b
 | succ n ih =>
  intro p q v e b;unfold U.lH at e;split at e
  ·grind
  ·have list:∀(ps qs:List PV) vs,aT (U.lH h n) ps=some qs->aq K F ps vs->aq K ⟨jx F h H,μ⟩ qs vs:=by
    intro ps;induction ps with
    | nil=>intro qs vs e b;cases e;rw[b.bN];exact .nil
    | cons p ps ih2 =>
     intro qs vs e b;obtain⟨y,r,e1,e2,rfl⟩:=cP e;obtain⟨v,w,rfl,b1,b2⟩:=b.bE;exact .cons (ih p y v e1 b1) (ih2 r w e2 b2)
   split at e
   ·obtain⟨c,e1,e⟩:=aE e;obtain⟨hl,e⟩:=bH e;obtain⟨qs,e2,rfl⟩:=aL e;obtain⟨a,h1,h2⟩:=dk.mp b;obtain⟨hF,vs,h3,h4⟩:=C.cell _ c a e1 h1 hl;exact gV.mpr ⟨a,vs,h2,h3.to (λb o e=>gL e) (λo e=>by rw[show(Fz.mk (jx F h H) μ).F a=jx F h H a from rfl,CH hF h1 e1 hl];exact e) (λz=>by cases z),list _ _ _ e2 h4⟩
   ·obtain⟨qs,e2,rfl⟩:=aL e;obtain⟨a,vs,h1,h2,h3⟩:=gV.mp b;exact gV.mpr ⟨a,vs,h1,h2.to (λb o e=>gL e) (λo e=>gL e) id,list _ _ _ e2 h3⟩
   ·cases e
end
section
variable {X:Cx} {aa:Hp} {ab:Fz} {e:Expr} {es:List Expr} {ts:Gx (List PV)} {pos p:Pos} {k n:Nat} {f:Addr} {fd:FuncData} {ps:List Str} {x:Str} {g:m7}
def nB{CX:D3}{sp:Sp}{E:XK}{ae:List (Addr×Obj)}{σ:St}{H:Hp}{s:Shared}{Q:VK}{us:List Value}{vs:List V}(F:FnOk X.prog X.w X.K X.mg X.base CX k f fd ps sp)(hr:dU k X.A)(hb:fM X.K fd ps [])(hx:∀e s',CX X.stack H s E e s'->X.xe e s')
  (I:Inv X ae σ H s) (r:Vals vs us) (h:sp vs H Q E):wpAny (model X.prog X.w) X.A (call (.ref f) us) (EP X ae σ Q) X.xe s:=by
 have UZ:=hb s us I.oN (by rw[eZ,<-r.length];exact F.len _ _ _ _ h)
 rw[eZ]at UZ;refine wpAny_call (lV (F.run X.A X.stack s H ⟨us,[]⟩ us vs Q E hr I.Rg UZ r h) λr s' hq=>?_)
 cases r with
 | error e=>exact hx e s' hq
 | ok fl =>
  cases fl with
  | ret u=>exact I.after hq
  | next=>exact False.elim hq
  | brk=>exact False.elim hq
  | cont=>exact False.elim hq
noncomputable def WV:Rs PV->Rs PV
 | .ok p=>.ok p
 | .ex _ C=>.ex false C
def hV(h:List aj)(p:PV):Option PV:=if h.isEmpty=true then some p else lH h 4 p
def Oc(st:bU):Rs PV×List aj->Option (Rs PV×bU)
 | (.ok p,h)=>(hV h p).map λq=>(.ok q,st)
 | (.ex _ C,_)=>some (.ex false C,st)
def FU(n:Nat)(g:m7)(as:List PV):Gx PV:=λst=>if as.length=n then(g as st.h).map λr=>(WV r.1,⟨st.ρ,r.2⟩)else none
def j3(n:Nat)(g:m7)(as:List PV):Gx PV:=λst=>if as.length=n/\(st.h.isEmpty || aD as)=true then(g as []).bind (Oc st)else none
def FV(n:Nat)(g:m7)(ts:Gx (List PV)):Gx PV:=bnd ts (j3 n g)
def J8(X:Cx)(f:Addr)(w:List PV->Gx PV):Prop:=∀(aa H:Hp) (ab F:Fz) (st:bU) (σ:St) (ae:List (Addr×Obj)) (s:Shared) (Q:VK) (as:List PV) (us:List Value) (vs:List V),Inv X ae σ H s->Rep X.K aa ab F st σ H->aq X.K F as vs->Vals vs us->Tx X aa ab (aY X.K) F st (w as) σ Q ->
 wpAny (model X.prog X.w) X.A (call (.ref f) us) (EP X ae σ Q) X.xe s
def WW(G:FnOk X.prog X.w X.K X.mg X.base (ku X.prog X.w) k f fd ps (CG X.K n g))(hr:dU k X.A)(hb:fM X.K fd ps []):J8 X f (FU n g):=by
 rintro aa H ab F st σ ae s Q as us vs I R b r ⟨q,e1,e2⟩
 obtain⟨hl,e1⟩:=bH e1;obtain⟨⟨rs,h'⟩,e3,e4⟩:=aL e1;subst e4;obtain⟨C,full⟩:=R.c.enter;cases rs with
 | ok p'=>exact nB G hr hb (λe s' hx=>E2 ae σ H s e s' I hx) I r ⟨_,F,st.h,as,_,h',C,full,b,hl,e3,λv F' H' D b'=>e2 v H' F' ⟨R.c.leave D,R.l.mono D.base⟩ D.base b'⟩
 | ex m c=>exact thn (nB (Q:=λ_ _=>False) G hr hb (λe s' hx=>e2 σ ae H s e s' I hx) I r ⟨_,F,st.h,as,_,h',C,full,b,hl,e3,λcls F' H' D hc=>⟨hc,F',⟨R.c.leave D,R.l.mono D.base⟩,D.base⟩⟩) (by rintro v s3 ⟨_,_,_,_,z⟩;exact z.elim)
def Rep.back{K:W.Frag}{aa H H1 H':Hp}{ab F F':Fz}{μ:List Addr}{st:bU}{σ:St}{h':List aj}(R:Rep K aa ab F st σ H)(hH:b7 H H1)(D:jX K H1 ⟨F.F,μ⟩ F' h' H'):Rep K aa ab ⟨jx F' h' H',F.μ⟩ st σ H'/\Gr F ⟨jx F' h' H',F.μ⟩:=by
 have g:b7 F.F (jx F' h' H'):=λb o e=>gL (D.base.s b o e)
 refine⟨R.after (hH.trans D.keep) g rfl (λb o e=>?_) (λa o e=>?_),g,λ_ _ z=>z⟩
 ·rcases wB e with z | ⟨z,_⟩
  ·exact D.sub b o z
  ·exact z
 ·rcases wB e with z | ⟨_,n,z⟩
  ·exact(D.fresh a o z).imp_right hH.free
  ·exact .inr (hH.free (D.new n a z).1)
def jX.pure{K:W.Frag}{aa H:Hp}{ab F:Fz}{h:List aj}(C:jX K aa ab F h H):jX K H ⟨F.F,[]⟩ ⟨F.F,[]⟩ [] H :=
 ⟨C.sub,b7.refl H,Gr.refl _,λa o e=>.inl e,λn a e=>by simp at e,rfl,jM,λn c a e=>by simp at e⟩
def FW{K:W.Frag}{H H':Hp}{G F':Fz}{h':List aj}{p q:PV}{v:V}(μ:List Addr)(D:jX K H G F' h' H')(e:hV h' p=some q)(b:aY K F' p v):aY K ⟨jx F' h' H',μ⟩ q v:=by
 unfold hV at e;split at e
 ·rename_i z;cases e;have e0:F'.μ=[]:=iC (by rw[<-D.hl,List.isEmpty_iff.mp z];rfl)
  exact b.mono ⟨λb o e=>gL e,λn a e=>by rw[e0]at e;simp at e⟩
 ·exact D.lH μ _ _ _ _ e b
def rZ{K:W.Frag}{aa H:Hp}{ab F:Fz}{st:bU}{σ:St}{as:List PV}{vs:List V}(R:Rep K aa ab F st σ H)(hn:(st.h.isEmpty || aD as)=true)(b:aq K F as vs)(μ:List Addr):aq K ⟨F.F,μ⟩ as vs:=by
 rcases Bool.or_eq_true _ _▸hn with z | z
 ·have e0:F.μ=[]:=iC (by rw[<-R.c.hl,List.isEmpty_iff.mp z];rfl)
  exact aq.mono (F:=F) (F':=⟨F.F,μ⟩) ⟨b7.refl _,λn a e=>by rw[e0]at e;simp at e⟩ b
 ·exact b.any z
def Od(G:FnOk X.prog X.w X.K X.mg X.base (ku X.prog X.w) k f fd ps (CG X.K n g))(hr:dU k X.A)(hb:fM X.K fd ps []):J8 X f (j3 n g):=by
 rintro aa H ab F st σ ae s Q as us vs I R b r ⟨q,e1,e2⟩
 obtain⟨⟨hl,hn⟩,e1⟩:=bH e1;obtain⟨⟨rs,h'⟩,e3,e4⟩:=aE e1;have full:∀b o,H b=some o->H b=some o\/∃n:Nat,(Fz.mk F.F []).μ[n]?=some b:=by grind
 have b3:=rZ R hn b [];cases rs with
 | ok p' =>
  obtain⟨p2,e5,e6⟩:=aL e4;subst e6;refine nB G hr hb (λe s' hx=>E2 ae σ H s e s' I hx) I r ⟨H,⟨F.F,[]⟩,[],as,_,h',R.c.pure,full,b3,hl,e3,λv F' H' D b'=>?_⟩
  obtain⟨R3,g3⟩:=R.back (b7.refl _) D;exact e2 v H' _ R3 g3 (FW F.μ D e5 b')
 | ex m c =>
  cases e4;refine thn (nB (Q:=λ_ _=>False) G hr hb (λe s' hx=>e2 σ ae H s e s' I hx) I r ⟨H,⟨F.F,[]⟩,[],as,_,h',R.c.pure,full,b3,hl,e3,λcls F' H' D hc=>?_⟩) (by rintro v s3 ⟨_,_,_,_,z⟩;exact z.elim)
  obtain⟨R3,g3⟩:=R.back (b7.refl _) D;exact⟨hc,_,R3,g3⟩
def Oe{w:List PV->Gx PV}(G:J8 X f w)(hg:Gl X x)(hm:X.mg x=some (.ref f))(hk:W.keepIn X.K (.ref f)=true)(ha:PA X (e::es) (tA X aa ab ts))(AD:(x==("__debug__":Str))=false)
  (he:starEach (e::es) X.env=(false,eval e X.env)::starEach es X.env) (kJ:(backTo pos (starEach es X.env)).any (·.1)=false):PE X (.Call (.Name x p) (e::es) [] pos) (tE X aa ab (bnd ts w)):=by
 rintro ae s σ H Q I ⟨F1,st,R,h⟩
 refine iJ (ld_glob I hg hm ?_ AD);exact W.callWith_K I.ok.mod.kin hk (thn (ha pos ae s σ H (λvs H2=>∃F2 dw as,Rep X.K aa ab F2 dw σ H2/\aq X.K F2 as vs/\Tx X aa ab (aY X.K) F2 dw (w as) σ Q) I
  ⟨F1,st,R,h.bnd λas vs F2 dw H2 R2 g2 b2 h2=>⟨F2,dw,as,R2,b2,h2⟩⟩) (by rintro us s1 ⟨vs,H2,I2,r,F2,dw,as,R2,b2,z⟩;exact⟨I2.oN,G _ _ _ _ _ _ _ _ _ _ _ _ I2 R2 b2 r z⟩)) he kJ
end
end L2.U
namespace L2
open PySem PySem.Spec PyProof.Rows
section
variable {X:Cx} {ae:List (Addr×Obj)} {σ:St} {H:Hp} {s:Shared} {a b:Addr} {k:List cC} {xs:List (List cC×Addr×Value)}
theorem gM{α β:Type}(f:α->β):∀(l:List α) (i:Nat),(l.eraseIdx i).map f=(l.map f).eraseIdx i
 | [],_=>rfl
 | _::_,0=>rfl
 | x::l,i+1=>fj (f x::·) (gM f l i)
def Sy(K:W.Frag):V->List V->Hp->VK->Prop:=λx vs H Q=>∃a b xs k j p y,x=.ref a/\vs=[.ref b]/\H a=some (.dT xs)/\ee K H xs/\fw K H b (k.map kV)/\xs[j]?=some (k,p)/\RelV y p.2/\Q y (cf H a (.dT (xs.eraseIdx j)))
def Of{α β:Type}{xs:List (α×β)}{i j:Nat}{k:α}{p q:β}(hn:(xs.map (·.1)).Nodup)(h1:xs[i]?=some (k,p))(h2:xs[j]?=some (k,q)):i=j:=by
 refine(yf (l:=xs.map (·.1)) ?_ hn).mp ?_
 ·rw[ah];exact(b8.mp h1).1
 ·rw[aX,aX,h1,h2];rfl
def Og(hu:X.A.units+1150<cLine):Nc X "dict.pop" (Sy X.K):=by
 intro ae s σ H x vs v us Q I rx rv h;obtain⟨a,b,xs,k,j,p,y,rfl,rfl,e,hk,eb,hj,ry,q⟩:=h;cases rx;obtain⟨u1,rfl,r1⟩:=rv.one;cases r1;obtain⟨z,hd,dd⟩:=rM I (.inl e) hk;have hT:=dd.typeIs;obtain⟨o,es,ep,h1,h2,h3,h4,h5,h6⟩:=dd;have Y9:es[j]?=some (entryOfKey (tupleKind (bD X.prog X.w)) (k,p)):=by rw[entry_at h4,hj];rfl
 have ky:=key_is I eb;have Za:(tupleKind (bD X.prog X.w)).room X.A.in1:=og (by lia)
 refine eX PySem.F.slot_dict_pop hT PySem.F.entry_dict_pop ?_ (PySem.F.args_dict_pop_2 _ _);unfold Builtin.«dict.pop» Builtin.Dict.keyAndDefault;refine af (af (xT hT ?_));show wpAny _ _ (pure (a,Value.ref b,none)) _ _ s;refine ai ?_;simp only[show(keyPart (Value.ref b)).isSome=false from rfl,cW,cu]
 refine af (yb h1 h3 (af (ai ?_)));have hne:es.isEmpty=false:=by
  rw[Array.isEmpty_eq_false_iff]
  rintro rfl
  simp at Y9
 rw[hne];simp only[cW,cu];refine af ?_;unfold Builtin.Dict.takeOut
 try with_reducible refine cR ?_
 refine af ((tupleKind (bD X.prog X.w)).pyHash Za ky (af (wpAny_dictFind_heap (s:={s with toks:=s.toks+(tupleKind (bD X.prog X.w)).draws k}) Za ky h1 h3 h4 h5 h6 (λWa=>absurd hj (Wa j p)) λj' p' hj'=>?_)))
 cases Of h6 hj hj';refine af (yb (s:={s with toks:=s.toks+(tupleKind (bD X.prog X.w)).draws k}) h1 h3 ?_)
 rw[Y9];refine af (wpAny_updateDictKeys (hz:=by rw[size_of_entries h4];exact z) (s:={s with toks:=s.toks+(tupleKind (bD X.prog X.w)).draws k}) h1 h3 (ai ?_))
 simp only[Option.isNone_some,cW,cu];refine af (lX (ai ⟨_,rfl,y,_,I.write (x:=a) (e:=a) (o:=.dT (xs.eraseIdx j)) (by rw[e];exact True.intro) (.inl rfl) (λc q' hc z=>((xZ ..).2 c hc).trans z) ⟨_,iG _ h1 (Obj.isFreed_of_dict (xW h3 _))⟩ ⟨?_,hd,_,_,_,iG _ h1 (Obj.isFreed_of_dict (xW h3 _)),h2.mapDictKeys _,xW h3 _,?_,?_⟩,ry,q⟩))
 ·exact aM (List.length_eraseIdx_le ..) z
 ·rw[gM,<-h4];obtain⟨l⟩:=es;simp
 ·rw[gM];exact h6.sublist (List.eraseIdx_sublist ..)
end
end L2
namespace L2.U
open PySem PySem.Spec PyProof.Rows
def Oh:MG:=λc as=>match c.k,as with
 | .eR true ks,[kp]=>(iX true kp).bind λk=>(ks.findIdx? λx=>decide (x=k)).bind λj=>(c.ps[j]?).map λp=>(⟨.eR true (ks.eraseIdx j),c.ps.eraseIdx j⟩,p)
 | _,_=>none
section
variable {X:Cx}
def J9:wt X.K (Sy X.K) Oh:=by
 intro aa H ab F st σ n c c' a as ws q Q R hc hl ha hg hb k;unfold Oh at hg;split at hg
 ·rename_i ks kp hk;obtain⟨kk,e1,e2⟩:=aE hg;obtain⟨j,e5,e3⟩:=aE e2;obtain⟨p,e6,e4⟩:=aL e3;cases e4;obtain⟨w1,rfl,b1⟩:=cj hb;obtain⟨cc,rfl,Qe⟩:=iY e1 b1;obtain⟨_,vs,h2,h3⟩:=R.c.cell n c a hc ha hl;rw[hk]at h2;obtain⟨xs,g1,g2,g3,g4⟩:=h2;obtain⟨f1,f2,_⟩:=DS.mp e5;have f2:=cX f2;subst g3;rw[ah]at f1;rw[List.getElem_map]at f2;have hx:xs[j]?=some (kk,xs[j].2):=by rw[bB f1,<-f2]
  obtain⟨y,hy,by1⟩:=h3.get e6;obtain⟨u,hu,ry⟩:=g4.get hy;rw[aX,bB f1]at hu;cases hu;refine⟨a,cc,xs,kk,j,xs[j].2,y,rfl,rfl,g1,λz hz=>aS R.sub (g2 z hz),aS R.sub Qe,hx,ry,k y F _ (R.put (vs:=vs.eraseIdx j) hc hl ha ⟨xs.eraseIdx j,ar,λz hz=>g2 z (List.mem_of_mem_eraseIdx hz),gM _ _ _,by rw[gM];exact g4.eraseIdx j⟩ ?_) (Gr.refl _) ?_⟩
  ·show aq _ _ (c.ps.eraseIdx j) (vs.eraseIdx j);rw[DU,DU];exact(h3.take _).append (h3.drop _)
  ·exact by1
 ·cases hg
end
end L2.U
namespace L2
open PySem PySem.Spec PyProof.Rows
section
variable {X:Cx}
def LL(K:W.Frag):V->List V->Hp->VK->Prop:=λx vs H Q=>∃a kvs k,x=.ref a/\vs=[kV k]/\H a=some (.dK kvs)/\Q ((fX kvs k).getD .aK) H
def Ka(hu:X.A.units+1150<cLine):Nc X "dict.get" (LL X.K):=by
 intro ae s σ H x xs v us Q I rx rv h;obtain⟨a,kvs,k,rfl,rfl,e,h1⟩:=h;cases rx;obtain⟨u1,rfl,r1⟩:=rv.one;obtain⟨z,hd,vs,rel,dd⟩:=EY I.hok e;refine call_meetsIn PySem.F.slot_dict_get dd.typeIs PySem.F.entry_dict_get (PySem.F.args_dict_get_2 _ _) (meets_dict_get (bD X.prog X.w) a (mD r1) hd) ⟨_,dd.mapOf,(fX kvs k).getD .aK,H,I.tok _,?_,h1⟩;have rk:=rel.val k;cases hv:fX kvs k<;>cases hw:valueAt vs k<;>rw[hv,hw]at rk
 ·rfl
 ·exact rk.elim
 ·exact rk.elim
 ·exact rk
end
end L2
namespace L2.U
open PySem PySem.Spec PyProof.Rows
def Oi(h:List aj)(p:PV)(as:List PV):Option PV:=match cG h p,as with
 | some (.eR false ks,ps),[kp]=>(iX false kp).bind λk=>if gv k ks=true then da k ks ps else some .aK
 | _,_=>none
def Oj(p:PV)(as:List PV):Gx PV:=hp λh=>Oi h p as
section
variable {X:Cx} {aa H:Hp} {ab F:Fz} {st:bU} {σ:St}
def Tx.get{Q:VK}(h:Tx X aa ab (aY X.K) F st (Oj p as) σ Q)(R:Rep X.K aa ab F st σ H)(bp:aY X.K F p v)(ba:aq X.K F as ws):LL X.K v ws H Q:=by
 obtain⟨x,h1,h2⟩:=h.hp;unfold Oi at h1;split at h1
 ·rename_i ks ps kp z;obtain⟨kk,e1,e2⟩:=aE h1;obtain⟨a,vs,rfl,ha,eI⟩:=R.at z bp;obtain⟨kvs,k1,k2,k3⟩:=ha;obtain⟨w,ws',rfl,b1,b2⟩:=ba.bE;cases b2.bN;obtain⟨j,rfl,rfl⟩:=gG e1 b1;rw[<-k3]at eI;rw[<-k2]at e2;refine⟨a,kvs,j,rfl,rfl,k1,h2 _ _ F R (Gr.refl _) ?_⟩;cases hv:fX kvs j with
  | none =>
   rw[if_neg (by rw[iZ,hv];simp)]at e2
   cases e2;exact cy.mpr rfl
  | some v =>
   rw[if_pos (by rw[iZ,hv];rfl)]at e2
   obtain⟨v',M4,bv⟩:=nz e2 eI;rw[hv]at M4;cases M4;exact bv
 ·cases h1
end
noncomputable def Sz(T:String):Kd->Bool
 | .lst=>T=="list"
 | .eR _ _=>T=="dict"
 | _=>false
def tyG(T:String)(p:PV):Gx Unit:=hp λh=>(cG h p).bind λq=>if Sz T q.1=true then some ()else none
section
variable {X:Cx} {aa:Hp} {ab:Fz} {e o:Expr} {es:List Expr} {fo fe:Gx PV} {ts:Gx (List PV)} {pos kC fW:Pos} {T id:String} {name:Str} {r:V->List V->Hp->VK->Prop}
def Rep.tyV{K:W.Frag}{st:bU}(R:Rep K aa ab F st σ H)(e:cG st.h p=some (k,ps))(ht:Sz T k=true)(b:aY K F p v):L2.tyV K T v H:=by
 obtain⟨a,vs,rfl,h2,h3⟩:=R.at e b
 match k,ht,h2 with
 | .lst,ht,h2=>exact .inl ⟨aH ht,vs,gC.sq h2⟩
 | .eR false ks,ht,⟨kvs,h2,_⟩=>exact .inr (.inr (.inl ⟨aH ht,.inl ⟨kvs,h2⟩⟩))
 | .eR true ks,ht,⟨xs,h2,_⟩=>exact .inr (.inr (.inl ⟨aH ht,.inr ⟨xs,h2⟩⟩))
def Kb(T:String)(w:PV->List PV->Gx PV)(fo:Gx PV)(ts:Gx (List PV)):Gx PV:=bnd fo λp=>bnd (tyG T p) λ_=>bnd ts λas=>w p as
def SA(X:Cx)(r:V->List V->Hp->VK->Prop)(w:PV->List PV->Gx PV):Prop:=∀(aa H:Hp) (ab F:Fz) (st:bU) (σ:St) (p:PV) (as:List PV) (v:V) (ws:List V) (Q:VK),Tx X aa ab (aY X.K) F st (w p as) σ Q->Rep X.K aa ab F st σ H->aY X.K F p v->aq X.K F as ws->r v ws H Q
def j4(hw:SA X r w)(h:tE X aa ab (Kb T w fo ts) σ H Q):YF X.K T r (tE X aa ab fo) (tA X aa ab ts) σ H Q:=by
 obtain⟨F,st,R,h⟩:=h;refine⟨F,st,R,h.bnd λp v F1 st1 H1 R1 g1 b1 h1=>?_⟩
 obtain⟨u,e,z⟩:=At.hp (At.bnd h1);obtain⟨⟨k,ps⟩,e1,e2⟩:=aE e;obtain⟨hk,_⟩:=aw e2;refine⟨R1.tyV e1 hk b1,F1,st1,R1,Tx.bnd z λas ws F2 dw H2 R2 g2 b2 h2=>hw aa H2 ab F2 dw σ p as v ws Q h2 R2 (b1.mono g2) b2⟩
def Kc(hw:SA X r w)(h:tE X aa ab (Kb T w fo (b6 [])) σ H Q):Rx X.K T r (tE X aa ab fo) σ H Q:=by
 obtain⟨F,st,R,h⟩:=h;refine⟨F,st,R,h.bnd λp v F1 st1 H1 R1 g1 b1 h1=>?_⟩
 obtain⟨u,e,z⟩:=At.hp (At.bnd h1);obtain⟨⟨k,ps⟩,e1,e2⟩:=aE e;obtain⟨hk,_⟩:=aw e2;exact⟨R1.tyV e1 hk b1,hw aa H1 ab F1 st1 σ p [] v [] Q (At.b6 (At.bnd z)) R1 b1 .nil⟩
def pB(hg:wt X.K r g):SA X r (j1 g):=λ_ _ _ _ _ _ _ _ _ _ _ h R bp ba=>Tx.mut hg h R bp ba
def Ol:SA X (NW X.K) Fl:=λ_ _ _ _ _ _ _ _ _ _ _ h R bp ba=>Tx.ext h R bp ba
def wC(m:Str):Option (String×(PV->List PV->Gx PV)) :=
 if m==("append":Str)then some ("list",j1 (gu j2))
 else if m==("extend":Str)then some ("list",Fl)
 else if m==("insert":Str)then some ("list",j1 (gu JR))
 else if m==("setdefault":Str)then some ("dict",j1 JT)
 else if m==("pop":Str)then some ("dict",j1 Oh)
 else if m==("get":Str)then some ("dict",Oj)
 else none
def zh(m:Str):Option (String×(PV->List PV->Gx PV)) :=
 if m==("reverse":Str)then some ("list",j1 (gu JP))
 else if m==("pop":Str)then none
 else if m==("clear":Str)then none
 else none
def WX(hu:X.A.units+1150<cLine)(ht:wC name=some (T,w))(ho:PE X o (tE X aa ab fo))(ha:PA X (e::es) (tA X aa ab ts))(f9:attributeBase o name X.env (eval o X.env)=eval o X.env)
  (qK:((backTo fW (starEach (e::es) X.env)).all (λx=>!x.1)&&(backToKw fW (keywordEach [] X.env)).all (λx=>x.1.isSome)&&decide ((e::es).length+([]:List Keyword).length+(if([]:List Keyword).isEmpty then 0 else 1)<30))=true)
  (fx:(kC.endLine==fW.line)=true) (kr:starEach (e::es) X.env=(false,eval e X.env)::starEach es X.env) (kJ:(backTo fW (starEach es X.env)).any (·.1)=false):PE X (.Call (.Attribute o name kC) (e::es) [] fW) (tE X aa ab (Kb T w fo ts)):=by
 unfold wC at ht;split at ht
 ·rename_i hx;cases ht;have hx:=aH hx;subst hx;exact(o6 nP PySem.F.slot_list_append PySem.F.type_list_append Cd ho ha f9 qK fx kr kJ).imp λ_ _ _ h=>j4 (pB JO) h
 ·split at ht
  ·rename_i hx;cases ht;have hx:=aH hx;subst hx;exact(o6 nP PySem.F.slot_list_extend PySem.F.type_list_extend NX ho ha f9 qK fx kr kJ).imp λ_ _ _ h=>j4 Ol h
  ·split at ht
   ·rename_i hx;cases ht;have hx:=aH hx;subst hx;exact(o6 nP PySem.F.slot_list_insert PySem.F.type_list_insert Ct ho ha f9 qK fx kr kJ).imp λ_ _ _ h=>j4 (pB JS) h
   ·split at ht
    ·rename_i hx;cases ht;have hx:=aH hx;subst hx;exact(o6 xN DX PySem.F.type_dict_setdefault NU ho ha f9 qK fx kr kJ).imp λ_ _ _ h=>j4 (pB JU) h
    ·split at ht
     ·rename_i hx;cases ht;have hx:=aH hx;subst hx;exact(o6 xN PySem.F.slot_dict_pop PySem.F.type_dict_pop (Og hu) ho ha f9 qK fx kr kJ).imp λ_ _ _ h=>j4 (pB J9) h
     ·split at ht
      ·rename_i hx;cases ht;have hx:=aH hx;subst hx;exact(o6 xN PySem.F.slot_dict_get PySem.F.type_dict_get (Ka hu) ho ha f9 qK fx kr kJ).imp λ_ _ _ h=>j4 (λ_ _ _ _ _ _ _ _ _ _ _ h R bp ba=>Tx.get h R bp ba) h
      ·cases ht
def SD(ht:zh name=some (T,w))(ho:PE X o (tE X aa ab fo))(f9:attributeBase o name X.env (eval o X.env)=eval o X.env)(fx:(kC.endLine==fW.line)=true) :
  PE X (.Call (.Attribute o name kC) [] [] fW) (tE X aa ab (Kb T w fo (b6 []))):=by
 unfold zh at ht;split at ht
 ·rename_i hx;cases ht;have hx:=aH hx;subst hx;exact(EU nP PySem.F.slot_list_reverse PySem.F.type_list_reverse yS ho f9 fx).imp λ_ _ _ h=>Kc (pB JQ) h
 ·grind
def SE(po pi pv:PV):bU->Option bU:=λst=>(zb st.h po).bind λc=>match c.2.k with
 | .lst=>(qN pi).bind λi=>(Ie c.2.ps.length i).map λj=>⟨st.ρ,st.h.set c.1 ⟨.lst,c.2.ps.set j pv⟩⟩
 | .eR t ks=>(iX t pi).bind λk=>if ks.length<gY then some ⟨st.ρ,st.h.set c.1 (uG t k pv ks c.2.ps)⟩else none
 | _=>none
def WY(K:W.Frag):Ey:=λo i v H Q=>∃aa ab F st τ po pi pv bM,SE po pi pv st=some bM/\Rep K aa ab F st τ H/\aY K F po o/\aY K F pi i/\aY K F pv v/\∀H' F',Rep K aa ab F' bM τ H'->Gr F F'->Q H'
def SF(hu:X.A.units+1150<cLine):Ez X (WY X.K):=by
 rintro ae s σ H o i v ov iv u Q I ro ri rv ⟨aa,ab,F,st,τ,po,pi,pv,bM,e,R,bo,bi,bv,k⟩
 obtain⟨⟨n,c⟩,e1,e0⟩:=aE e;clear e;have e:=e0;clear e0;obtain⟨rfl,hc,hl⟩:=gH e1;obtain⟨a,ha,rfl⟩:=dk.mp bo;obtain⟨_,vs,h2,h3⟩:=R.c.cell n c a hc ha hl;split at e
 ·rename_i hk;obtain⟨j,e2,e⟩:=aE e;obtain⟨m,e3,rfl⟩:=aL e;rw[ek e2]at bi;have hk:=hk;rw[hk]at h2;refine ES ae s σ H _ _ v ov iv u Q I ro ri rv ⟨a,vs,j,m,rfl,au.mp bi,h2,by rw[<-h3.length];exact e3,k _ F (R.put hc hl ha ar (h3.set bv m)) (Gr.refl _)⟩
 ·rename_i t ks hk;have hk:=hk;obtain⟨kk,e2,e⟩:=aE e;obtain⟨hz,rfl⟩:=aw e;rw[hk]at h2;cases t with
  | false =>
   obtain⟨kvs,g1,g2,g3⟩:=h2;obtain⟨j,rfl,rfl⟩:=gG e2 bi;rw[<-g3]at h3;obtain⟨rR,vA,p1,p2,p3⟩:=Fh (j:=j) bv h3;have dj:kvs.length<sizeLine:=by
    have:ks.length=kvs.length:=by grind
    exact bP (by grind) (c9 (ao _))
   rw[g2]at p1;refine NY ae s σ H _ _ v ov iv u Q I ro ri rv ⟨a,kvs,j,rfl,rfl,g1,dj,k _ F ?_ (Gr.refl _)⟩;simp only[p1];exact R.put hc hl ha ⟨_,ar,p2,rfl⟩ p3
  | true =>
   obtain⟨xs,g1,g2,g3,g4⟩:=h2;obtain⟨cc,rfl,Qe⟩:=iY e2 bi;refine NZ (by lia) ae s σ H _ _ v ov iv u Q I ro ri rv ⟨a,cc,xs,kk,rfl,rfl,g1,λz hz=>aS R.sub (g2 z hz),aS R.sub Qe,(by
    have:ks.length=xs.length:=by grind
    exact bP (by grind) (c9 (ao _))),λr hr=>?_⟩
   obtain⟨rR,vA,wo,p1,p2,p3,p4,p5⟩:=NR bv hr Qe g2 h3 g4;rw[g3]at p1;refine k _ F ?_ (Gr.refl _);simp only[p1];exact R.put hc hl ha ⟨_,ar,p3,p2,p5⟩ p4
 ·cases e
def Om(fv fo fi:Gx PV):Gx d6:=bnd fv λv=>bnd fo λo=>bnd fi λi=>stp (SE o i v)
def SG(hu:X.A.units+1150<cLine)(he:PE X e (tE X aa ab fv))(ho:PE X o (tE X aa ab fo))(hi:PE X k (tE X aa ab fi))
  (ha:∀v,assign (.Subscript o k Cv) X.env v=(do
   let ov <-holding [v] (eval o X.env)
   let iv <-holding [v,ov] (eval k X.env)
   standAt Cv
   holding [v,ov,iv] (setItem ov iv v)
   release [v,ov,iv] []))
  (hs:swapsWithSole [.Subscript o k Cv] e pos.line X.env=pure false) (hw:swappedStores [.Subscript o k Cv] e X.env=pure none):PS X (.Assign [.Subscript o k Cv] e pos) (tS X aa ab (Om fv fo fi)) :=
 (EB he (MM ho hi (SF hu) ha) hs hw rfl).imp λD σ H ⟨F,st,R,h⟩=>⟨F,st,R,h.bnd λpv v F1 st1 H1 R1 g1 b1 h1=>⟨F1,st1,R1,h1.bnd λpo o F2 dw H2 R2 g2 b2 h2=>⟨F2,dw,R2,h2.bnd λpi i F3 IU H3 R3 g3 b3 h3=>by
  obtain⟨bM,e,z⟩:=h3.stp;exact⟨aa,ab,F3,IU,σ,po,pi,pv,bM,e,R3,b2.mono g3,b3,b1.mono (g2.trans g3),λH' F' R' g'=>z F' σ H' R' g'⟩⟩⟩⟩
def Oo(t:Bool):Gx PV:=ix ⟨.eR t [],[]⟩
def SH(t:Bool):PE X (.Dict [] [] pos) (tE X aa ab (Oo t)):=by
 cases t with
 | false=>exact Fj.imp (by rintro σ H Q ⟨F,st,R,h⟩ p hp;exact Tx.ix h R hp ⟨[],ar,rfl,rfl⟩ .nil)
 | true=>exact Jr.imp (by rintro σ H Q ⟨F,st,R,h⟩ p hp;exact Tx.ix h R hp ⟨[],ar,(λ_ z=>nomatch z),rfl,.nil⟩ .nil)
end
def A6(K:W.Frag)(mg:Str->Option Value)(P:Params)(T:Str)(rows:List (Str×Str)):Prop :=
 ∃a es n,mg T=some (.ref a)/\K.lookup a=some ⟨.type "dict",none,.dict es n,#[]⟩/\W.KeysLit P es.toList/\∀k fn,rows.lookup k=some fn->∃f,W.nsIn K a k=some (some (.ref f))/\mg fn=some (.ref f)/\W.nsIn K mainGlobals fn=some (some (.ref f))
def pC(K:W.Frag)(mg:Str->Option Value)(P:Params)(T:Str)(rows:List (Str×PV)):Prop :=
 ∃a es n,(a==sysModules)=false/\mg T=some (.ref a)/\K.lookup a=some ⟨.type "dict",none,.dict es n,#[]⟩/\W.KeysLit P es.toList/\∀k p,rows.lookup k=some p->∃u v,W.nsIn K a k=some (some u)/\RelV v u/\∀F,aY K F p v
def WZ(K:W.Frag)(a:Addr):R2:=λx y H Q=>∃k u v,x=.ref a/\y=.str k/\W.nsIn K a k=some (some u)/\RelV v u/\Q v H
noncomputable def uM:PV->Option Str | .str x=>some x | _=>none
def ji(h:uM p=some i):p=.str i:=by
 cases p<;>first | (cases h;rfl) | cases h
section
variable {X:Cx} {aa:Hp} {ab:Fz} {e ke:Expr} {es:List Expr} {fk fe ff:Gx PV} {ts:Gx (List PV)} {pos p sp:Pos} {T:Str}
def FX{es:Array DictEntry}(hl:X.K.lookup a=some ⟨.type "dict",none,.dict es n,#[]⟩)(hk:W.KeysLit X.w.params es.toList):Qg X (WZ X.K a):=by
 rintro value slice ae s σ H x y v u Q I rx ry ⟨k,u',v',ex,ey,e,rv,q⟩ hs
 subst ex ey;cases rx;obtain⟨t,rfl⟩:=ry;have hm:=W.mapOf_K (prog:=X.prog) I.oN hl hk;exact lY hm.typeIs slot_dict_getitem.lookup (wpAny_getItem_of (oG X.prog X.w k t) hm (W.find_K hl e) ⟨v',H,I.tok _,rv,q⟩) hs
def FY(Ja:Str->Option PV)(fk:Gx PV):Gx PV:=bnd fk λq=>fB ((uM q).bind Ja)
def SJ(ht:pC X.K X.mg X.w.params T rows)(hg:Gl X T)(hk:PE X ke (tE X aa ab fk))(hs:kM ke)(AD:(T==("__debug__":Str))=false):PE X (.Subscript (.Name T p) ke sp) (tE X aa ab (FY (λk=>rows.lookup k) fk)):=by
 obtain⟨a,Ln,n,_,t1,t2,t3,t4⟩:=ht;refine(ER (FX t2 t3) (kG (v:=.ref a) hg t1 rfl AD) hk hs).imp λσ H Q ⟨F,st,R,h⟩=>?_
 refine⟨F,st,R,h.bnd λpk v F1 st1 H1 R1 g1 b1 h1=>?_⟩
 obtain⟨q,e1,z⟩:=h1.fB;obtain⟨k,e2,e3⟩:=aE e1;rw[ji e2]at b1;obtain⟨u,w,n1,n2,n3⟩:=t4 k q e3;exact⟨k,u,w,rfl,bh.mp b1,n1,n2,z _ H1 F1 R1 (Gr.refl _) (n3 F1)⟩
def Ke(K:W.Frag)(a:Addr)(n:Bool):R2:=λx y H Q=>∃k u,x=.str k/\y=.ref a/\W.nsIn K a k=some (some u)/\Q (.bl (!n)) H
def Oq{es:Array DictEntry}(hd:(a==sysModules)=false)(hl:X.K.lookup a=some ⟨.type "dict",none,.dict es n,#[]⟩)(hk:W.KeysLit X.w.params es.toList):OpR X (compareOp .In) (Ke X.K a false):=by
 rintro ae s σ H x y v u Q I rx ry ⟨k,u',ex,ey,e,q⟩
 subst ex ey;cases ry;obtain⟨t,rfl⟩:=rx;have hm:=W.mapOf_K (prog:=X.prog) I.oN hl hk;exact wpAny_in_of (oG X.prog X.w k t) hd hm ⟨.bl true,H,I.tok _,by rw[W.find_K hl e];rfl,q⟩
def Ot{es:Array DictEntry}(hd:(a==sysModules)=false)(hl:X.K.lookup a=some ⟨.type "dict",none,.dict es n,#[]⟩)(hk:W.KeysLit X.w.params es.toList):OpR X (compareOp .NotIn) (Ke X.K a true):=by
 rintro ae s σ H x y v u Q I rx ry ⟨k,u',ex,ey,e,q⟩
 subst ex ey;cases ry;obtain⟨t,rfl⟩:=rx;have hm:=W.mapOf_K (prog:=X.prog) I.oN hl hk;exact wpAny_notIn_of (oG X.prog X.w k t) hd hm ⟨.bl false,H,I.tok _,by rw[W.find_K hl e];rfl,q⟩
def CI(rows:List (Str×PV))(n:Bool)(fk:Gx PV):Gx PV:=bnd fk λq=>fB ((uM q).bind λk=>(rows.lookup k).map λ_=>.bl (!n))
def FZ(t0:(a==sysModules)=false)(t2:X.K.lookup a=some ⟨.type "dict",none,.dict Ln n',#[]⟩)(t3:W.KeysLit X.w.params Ln.toList)(Va:op=.In/\n=false\/op=.NotIn/\n=true):OpR X (compareOp op) (Ke X.K a n):=by
 rcases Va with⟨rfl,rfl⟩ | ⟨rfl,rfl⟩
 ·exact Oq t0 t2 t3
 ·exact Ot t0 t2 t3
def LM(ht:pC X.K X.mg X.w.params T rows)(hg:Gl X T)(hk:PE X ke (tE X aa ab fk))(AD:(T==("__debug__":Str))=false)(Va:op=.In/\n=false\/op=.NotIn/\n=true)(hb:behindInMarks op (.Name T p)=false) :
  PE X (.Compare ke [op] [.Name T p] sp) (tE X aa ab (CI rows n fk))/\PT X (.Compare ke [op] [.Name T p] sp) (tT X aa ab (toB (CI rows n fk))):=by
 obtain⟨a,Ln,n',t0,t1,t2,t3,t4⟩:=ht;have im:∀{σ H Q},tE X aa ab (CI rows n fk) σ H Q->MS (Ke X.K a n) (tE X aa ab fk) (tC (.ref a)) σ H Q:=by
  intro σ H Q;rintro ⟨F,st,R,h⟩
  refine⟨F,st,R,h.bnd λpk v F1 st1 H1 R1 g1 b1 h1=>?_⟩
  obtain⟨q,e1,z⟩:=h1.fB;obtain⟨k,e2,e3⟩:=aE e1;obtain⟨q',e4,rfl⟩:=aL e3;rw[ji e2]at b1;obtain⟨u,w,n1,n2,n3⟩:=t4 k q' e4;exact⟨k,u,bh.mp b1,rfl,n1,z _ H1 F1 R1 (Gr.refl _) (aQ.mpr rfl)⟩
 exact⟨(Ay (FZ t0 t2 t3 Va) hk (kG (v:=.ref a) hg t1 rfl AD) hb).imp λ_ _ _ h=>im h,(Az (FZ t0 t2 t3 Va) hk (kG (v:=.ref a) hg t1 rfl AD) hb).imp λ_ _ _ h=>im (toB_imp h)⟩
def SK(ht:A6 X.K X.mg X.w.params T rows)(hg:Gl X T)(hk:PE X ke (tE X aa ab fk))(hs:kM ke)(AD:(T==("__debug__":Str))=false):PE X (.Subscript (.Name T p) ke sp) (tE X aa ab (FY (λk=>(rows.lookup k).map .fn) fk)):=by
 obtain⟨a,Ln,n,t1,t2,t3,t4⟩:=ht;refine(ER (FX t2 t3) (kG (v:=.ref a) hg t1 rfl AD) hk hs).imp λσ H Q ⟨F,st,R,h⟩=>?_
 refine⟨F,st,R,h.bnd λpk v F1 st1 H1 R1 g1 b1 h1=>?_⟩
 obtain⟨q,e1,z⟩:=h1.fB;obtain⟨k,e2,e3⟩:=aE e1;obtain⟨fn,e4,rfl⟩:=aL e3;rw[ji e2]at b1;obtain⟨f,n1,n2,n3⟩:=t4 k fn e4;exact⟨k,.ref f,.ref f,rfl,bh.mp b1,n1,rfl,z _ H1 F1 R1 (Gr.refl _) (l8.mpr ⟨f,rfl,n3⟩)⟩
def F6(X:Cx)(fns:List (Str×Nat))(call:Str->m7):Prop:=∀x n,fns.lookup x=some n->∃k f fd ps,FnOk X.prog X.w X.K X.mg X.base (ku X.prog X.w) k f fd ps (CG X.K n (call x))/\dU k X.A/\X.mg x=some (.ref f)/\W.keepIn X.K (.ref f)=true/\fM X.K fd ps []
noncomputable def Vb:PV->Option Str | .fn x=>some x | _=>none
def wD{p:PV}(h:Vb p=some i):p=.fn i:=by
 cases p<;>first | (cases h;rfl) | cases h
def r6(fns:List (Str×Nat))(call:Str->m7)(ff:Gx PV)(ts:Gx (List PV)):Gx PV:=bnd ff λq=>bnd (fB ((Vb q).bind λx=>(fns.lookup x).map λn=>(x,n))) λx=>FV x.2 (call x.1) ts
def uN(v k:Expr)(sp:Pos)(args:List Expr)(pos:Pos)(env:Env):eval (.Call (.Subscript v k sp) args [] pos) env=(do callWith pos (<-eval (.Subscript v k sp) env) [] (backTo pos (starEach args env)) (backToKw pos (keywordEach [] env))):=rfl
def Kf{call:Str->m7}(Mz:F6 X fns call)(Jq:∀x a,W.nsIn X.K mainGlobals x=some (some (.ref a))->X.mg x=some (.ref a))(hf:PE X (.Subscript v k sp) (tE X aa ab ff))(ha:PA X (e::es) (tA X aa ab ts))
  (he:starEach (e::es) X.env=(false,eval e X.env)::starEach es X.env) (kJ:(backTo pos (starEach es X.env)).any (·.1)=false):PE X (.Call (.Subscript v k sp) (e::es) [] pos) (tE X aa ab (r6 fns call ff ts)):=by
 rintro ae s σ H Q I ⟨F,st,R,h⟩
 rw[uN];refine af (thn (hf ae s σ H (λv H1=>∃F1 st1 q,Rep X.K aa ab F1 st1 σ H1/\aY X.K F1 q v/\Tx X aa ab (aY X.K) F1 st1 (bnd (fB ((Vb q).bind λx=>(fns.lookup x).map λn=>(x,n))) λx=>FV x.2 (call x.1) ts) σ Q) I
  ⟨F,st,R,h.bnd λq v F1 st1 H1 R1 g1 b1 h1=>⟨F1,st1,q,R1,b1,h1⟩⟩) λu s1 ⟨x,H1,I1,rx,F1,st1,q,R1,b1,h1⟩=>?_)
 obtain⟨⟨y,n⟩,e1,z⟩:=At.fB (At.bnd h1);obtain⟨y',e2,e3⟩:=aE e1;obtain⟨n',e4,e5⟩:=aL e3;simp only[jO]at e5;obtain⟨rfl,rfl⟩:=e5;rw[wD e2]at b1;obtain⟨a,rfl,ND⟩:=l8.mp b1;obtain⟨j,f',fd,ps,G,hr,m1,m2,m3⟩:=Mz _ _ e4;have:=bI ((Jq _ a ND).symm.trans m1);cases this;cases rx;exact W.callWith_K I.ok.mod.kin m2 (thn (ha pos ae s1 σ H1 (λvs H2=>∃F2 dw as,Rep X.K aa ab F2 dw σ H2/\aq X.K F2 as vs/\Tx X aa ab (aY X.K) F2 dw (j3 _ _ as) σ Q) I1
  ⟨F1,st1,R1,Tx.bnd z λas vs F2 dw H2 R2 g2 b2 h2=>⟨F2,dw,as,R2,b2,h2⟩⟩) (by rintro us s2 ⟨vs,H2,I2,r,F2,dw,as,R2,b2,z⟩;exact⟨I2.oN,Od G hr m3 _ _ _ _ _ _ _ _ _ _ _ _ I2 R2 b2 r z⟩)) he kJ
def Kg{call:Str->m7}(Mz:F6 X fns call)(Jq:∀x a,W.nsIn X.K mainGlobals x=some (some (.ref a))->X.mg x=some (.ref a))(hf:PE X (.Name y p) (tE X aa ab ff))(ha:PA X (e::es) (tA X aa ab ts))
  (he:starEach (e::es) X.env=(false,eval e X.env)::starEach es X.env) (kJ:(backTo pos (starEach es X.env)).any (·.1)=false):PE X (.Call (.Name y p) (e::es) [] pos) (tE X aa ab (r6 fns call ff ts)):=by
 rintro ae s σ H Q I ⟨F,st,R,h⟩
 refine iJ (thn (hf ae s σ H (λv H1=>∃F1 st1 q,Rep X.K aa ab F1 st1 σ H1/\aY X.K F1 q v/\Tx X aa ab (aY X.K) F1 st1 (bnd (fB ((Vb q).bind λx=>(fns.lookup x).map λn=>(x,n))) λx=>FV x.2 (call x.1) ts) σ Q) I
  ⟨F,st,R,h.bnd λq v F1 st1 H1 R1 g1 b1 h1=>⟨F1,st1,q,R1,b1,h1⟩⟩) λu s1 ⟨x,H1,I1,rx,F1,st1,q,R1,b1,h1⟩=>?_)
 obtain⟨⟨y1,n⟩,e1,z⟩:=At.fB (At.bnd h1);obtain⟨y',e2,e3⟩:=aE e1;obtain⟨n',e4,e5⟩:=aL e3;simp only[jO]at e5;obtain⟨rfl,rfl⟩:=e5;rw[wD e2]at b1;obtain⟨a,rfl,ND⟩:=l8.mp b1;obtain⟨j,f',fd,ps,G,hr,m1,m2,m3⟩:=Mz _ _ e4;have:=bI ((Jq _ a ND).symm.trans m1);cases this;cases rx;exact W.callWith_K I.ok.mod.kin m2 (thn (ha pos ae s1 σ H1 (λvs H2=>∃F2 dw as,Rep X.K aa ab F2 dw σ H2/\aq X.K F2 as vs/\Tx X aa ab (aY X.K) F2 dw (j3 _ _ as) σ Q) I1
  ⟨F1,st1,R1,Tx.bnd z λas vs F2 dw H2 R2 g2 b2 h2=>⟨F2,dw,as,R2,b2,h2⟩⟩) (by rintro us s2 ⟨vs,H2,I2,r,F2,dw,as,R2,b2,z⟩;exact⟨I2.oN,Od G hr m3 _ _ _ _ _ _ _ _ _ _ _ _ I2 R2 b2 r z⟩)) he kJ
noncomputable def A7(f:Str):List Str->List PV->Option PV
 | g::ns,p::ps=>if g=f then some p else A7 f ns ps
 | _,_=>none
def Ou(f:Str)(fe:Gx PV):Gx PV:=bnd fe λp=>hp λh=>match cG h p with
 | some (.ins _ ns,ps)=>A7 f ns ps
 | _=>none
theorem wF{K:W.Frag}:∀{fs:List (Str×V)} {ps:List PV} {p:PV},A7 f (fs.map (·.1)) ps=some p->aq K F ps (fs.map (·.2))->f∈fs.map (·.1)/\∃v,fs.lookup f=some v/\aY K F p v
 | [],_,_,h,_=>by cases h
 | (g,v)::r,[],_,h,_=>by cases h
 | (g,v)::r,q::ps,p,h,b=>by
  obtain⟨v',w,e,b1,b2⟩:=b.bE;cases e;have h:(if g=f then some q else A7 f (r.map (·.1)) ps)=some p:=h
  by_cases hg:g=f
  ·grind
  ·rw[if_neg hg]at h;obtain⟨h1,v2,h2,h3⟩:=wF h b2;have hgf:(f==g)=false:=by grind
   exact⟨b9 _ h1,v2,by grind,h3⟩
def SM(he:PE X e (tE X aa ab fe))(hb:attributeBase e f X.env (eval e X.env)=eval e X.env):PE X (.Attribute e f pos) (tE X aa ab (Ou f fe)):=(M5 he hb).imp λσ H Q ⟨F,st,R,h⟩=>⟨F,st,R,h.bnd λq v F1 st1 H1 R1 g1 b1 h1=>by
 obtain⟨o,e,z⟩:=h1.hp;split at e
 ·rename_i C ns ps hd;obtain⟨a,vs,rfl,⟨Ca,dx,fs,h2,h3,h4,h5,h6,h7⟩,h8⟩:=R1.at hd b1;subst h6 h7;obtain⟨hm,w,hl,bw⟩:=wF e h8;exact⟨a,Ca,dx,fs,w,rfl,h5,h3,h4 f hm,hl,z _ H1 F1 R1 (Gr.refl _) bw⟩
 ·cases e⟩
noncomputable def m8(f:Str)(q:PV):List Str->List PV->List Str×List PV
 | g::ns,p::ps=>if g=f then(g::ns,q::ps)else(g::(m8 f q ns ps).1,p::(m8 f q ns ps).2)
 | _,_=>([f],[q])
theorem A8{K:W.Frag}(bq:aY K F q v):∀{fs:List (Str×V)} {ps:List PV},aq K F ps (fs.map (·.2))->(gD f v fs).map (·.1)=(m8 f q (fs.map (·.1)) ps).1/\aq K F (m8 f q (fs.map (·.1)) ps).2 ((gD f v fs).map (·.2))/\∀g∈(m8 f q (fs.map (·.1)) ps).1,g=f\/g∈fs.map (·.1)
 | [],ps,b=>by
  have e:=iC b.length;subst e;exact⟨rfl,.cons bq .nil,λg hg=>.inl (by simpa[m8]using hg)⟩
 | (g,w)::r,[],b=>by have:=b.length;simp at this
 | (g,w)::r,p::ps,b=>by
  obtain⟨v',w',e,b1,b2⟩:=b.bE;cases e;obtain⟨h1,h2,h3⟩:=A8 bq b2;by_cases hg:g=f
  ·subst hg;have e1:gD g v ((g,w)::r)=(g,v)::r:=if_pos rfl;have e2:m8 g q (((g,w)::r).map (·.1)) (p::ps)=(g::r.map (·.1),q::ps):=if_pos rfl;rw[e1,e2];exact⟨rfl,.cons bq b2,λy hy=>.inr hy⟩
  ·have e1:gD f v ((g,w)::r)=(g,w)::gD f v r:=if_neg hg;have e2:m8 f q (((g,w)::r).map (·.1)) (p::ps)=(g::(m8 f q (r.map (·.1)) ps).1,p::(m8 f q (r.map (·.1)) ps).2):=if_neg hg;rw[e1,e2];refine⟨by rw[aA,h1],.cons b1 h2,λy hy=>?_⟩
   rcases aF.mp hy with rfl | hy
   ·grind
   ·grind
def F7(K:W.Frag)(cls:List Str)(flds:List Str):Prop:=∀C,cls.contains C=true->∃Ca,ClsAt K C (.ref Ca)/\BM K Ca/\∀f,flds.contains f=true->gU K Ca f
def W0(cls flds:List Str)(f:Str)(po pv:PV):bU->Option bU:=λst=>(zb st.h po).bind λc=>match c.2.k with
 | .ins C ns=>if(cls.contains C&&flds.contains f&&decide (ns.length<900))=true then some ⟨st.ρ,st.h.set c.1 ⟨.ins C (m8 f pv ns c.2.ps).1,(m8 f pv ns c.2.ps).2⟩⟩else none
 | _=>none
def zi(cls flds:List Str)(f:Str)(fv fo:Gx PV):Gx d6:=bnd fv λv=>bnd fo λo=>stp (W0 cls flds f o v)
def SN{cls flds:List Str}(hc:F7 X.K cls flds)(ho:PE X o (tE X aa ab fo))(he:PE X e (tE X aa ab fv))(hs:swapsWith e (some (.Attribute o f qI)) pos.line X.env=pure false):PS X (.Assign [.Attribute o f qI] e pos) (tS X aa ab (zi cls flds f fv fo)) :=
 (M6 ho he hs).imp λD σ H ⟨F,st,R,h⟩=>⟨F,st,R,h.bnd λpv v F1 st1 H1 R1 g1 b1 h1=>⟨F1,st1,R1,h1.bnd λpo o F2 dw H2 R2 g2 b2 h2=>by
  obtain⟨bM,e,z⟩:=h2.stp;obtain⟨⟨n,c⟩,e1,e0⟩:=aE e;clear e;have e:=e0;clear e0;obtain⟨rfl,DL,hl⟩:=gH e1;obtain⟨a,ha,rfl⟩:=dk.mp b2;obtain⟨_,vs,Zb,g3⟩:=R2.c.cell n c a DL ha hl;split at e
  ·rename_i C ns hk;have hk:=hk;obtain⟨hq,rfl⟩:=aw e;rw[aC,aC]at hq;rw[hk]at Zb;obtain⟨Ca,dx,fs,k1,k2,k3,k4,rfl,rfl⟩:=Zb;obtain⟨Cb,m1,m2,m3⟩:=hc C hq.1.1;have eC:Ca=Cb:=by
    have:=k1.symm.trans m1;cases this;rfl
   subst eC;have dj:=cX hq.2;rw[ah]at dj;obtain⟨p1,p2,p3⟩:=A8 (b1.mono g2) g3;refine⟨a,Ca,dx,fs,rfl,k4,k2,m3 f hq.1.2,(Nat.le_add_left_of_le ‹_›),z F2 σ _ (R2.put DL hl ha ⟨Ca,dx,_,k1,k2,λg hg=>?_,ar,p1,rfl⟩ p2) (Gr.refl _)⟩
   rcases p3 g hg with rfl | hg
   ·exact m3 _ hq.1.2
   ·exact k3 g hg
  ·cases e⟩⟩
def SO(st:bU):Rs PV×List aj->Option (Rs PV×bU)
 | (.ok .aK,h)=>(lH h 4 (.ref 0)).map λq=>(.ok q,st)
 | _=>none
def SQ(C:Str)(n:Nat)(g:m7)(ts:Gx (List PV)):Gx PV:=bnd ts λas st=>if as.length+1=n/\(st.h.isEmpty || aD as)=true then(g (.ref 0::as) [⟨.ins C [],[]⟩]).bind (SO st)else none
section
variable {C:Str} {Ca f:Addr} {fd:FuncData} {ps:List Str} {g:m7} {k n:Nat}
def Kh(hC:ClsAt X.K C (.ref Ca))(c:BM X.K Ca)(h:tE X aa ab (SQ C n g ts) σ H Q):Lu Ca (CG X.K n g) [] E0 (tA X aa ab ts) σ H Q:=by
 obtain⟨F,st,R,h⟩:=h;refine⟨F,st,R,h.bnd λas vs F1 st1 H1 R1 g1 b1 h1 y dx hy hdx hne=>?_⟩
 obtain⟨q,e1,e2⟩:=h1;obtain⟨⟨hl,hn⟩,e1⟩:=bH e1;obtain⟨r,e3,e4⟩:=aE e1;have W2:cf H1 dx (.own y) y=none:=by rw[aI hne.symm];exact hy
 have up:b7 H1 (cf H1 dx (.own y)):=dr hdx;have b2:aq X.K ⟨F1.F,[y]⟩ (.ref 0::as) (.ref y::vs):=.cons (dk.mpr ⟨y,rfl,rfl⟩) (rZ R1 hn b1 [y]);have C0:jX X.K (cf H1 dx (.own y)) ⟨F1.F,[y]⟩ ⟨F1.F,[y]⟩ [⟨.ins C [],[]⟩] (cf (cf H1 dx (.own y)) y (.ins Ca dx [])):=by
  refine⟨λb o e=>dr W2 _ _ (up _ _ (R1.sub _ _ e)),dr W2,Gr.refl _,λa o e=>.inl e,λm a e=>?_,rfl,by simp,λm d a e1 e2 e3=>?_⟩
  ·cases m with
   | zero=>cases e;exact⟨W2,_,ar⟩
   | succ m=>simp at e
  ·cases m with
   | zero=>cases e1;cases e2;exact⟨R1.sub.free hy,[],⟨Ca,dx,[],hC,c,(λ_ z=>nomatch z),ar,rfl,rfl⟩,.nil⟩
   | succ m=>simp at e1
 match r,e4 with
 | (.ok .aK,h'),e4 =>
  obtain⟨p,e5,rfl⟩:=aL e4;refine⟨_,_,_,.ref 0::as,_,h',C0,λb o e=>?_,by grind,by grind,e3,λv F' H' D b'=>⟨cy.mp b',?_⟩⟩
  ·by_cases hb:b=y
   ·subst hb;exact .inr ⟨0,rfl⟩
   ·rw[aI hb]at e;exact .inl e
  ·obtain⟨R3,g3⟩:=R1.back up D;exact e2 _ H' _ R3 g3 (D.lH F1.μ _ _ _ _ e5 (dk.mpr ⟨y,D.base.m 0 y rfl,rfl⟩))
end
end
def W3(X:Cx)(aa:Hp)(ab:Fz)(fa:Addr)(ω:PV->Gx PV):Prop:=∀(H:Hp) (F:Fz) (st:bU) (σ:St) (ae:List (Addr×Obj)) (s:Shared) (Q:VK) (p:PV) (u:Value) (v:V),Inv X ae σ H s->Rep X.K aa ab F st σ H->aY X.K F p v->RelV v u->Tx X aa ab (aY X.K) F st (ω p) σ Q ->
 wpAny (model X.prog X.w) X.A (call (.ref fa) [u]) (EP X ae σ Q) X.xe s
structure F8 (X:Cx) (aa:Hp) (ab:Fz) (n:Nat) (ω:PV->Gx PV):Prop where
 ex:∃fa o u W4,ab.μ[n]?=some fa/\X.aa fa=some (.vD o u)/\o.data=.func W4/\W3 X aa ab fa ω
structure SR (X:Cx):Prop where
 ex:∃x c T,x∈cZ/\W.tabIn X.K x=some (c,T)/\W.codeHdIn X.K c T=true/\X.env.code=.ref c/\X.env.qual++"<lambda>"=IF x
 blt:EZ X.mg X.base
end L2.U
namespace PySem
open Sem (wp)
noncomputable abbrev BT(w:World):Bool:=w.params.followText "set-order"
end PySem
namespace PySem
open PyProof.Rows
section
variable {prog:Program} {w:World} {A:Around} {E:Value->Shared->Prop} {s:Shared}
def qQ(a:Value)
  (h:Q₁ (.ref s.heap.objs.size) {s with heap:=s.heap.push {cls:=.type "set",dict:=none,data:=.set #[] 0 (.fresh 0 0 (!BT w))}}) :
  codeAny (model prog w) A (.call (.builtin "set.__new__") ⟨[.type "set",a],[]⟩) (wants Q₁ E) s:=by
 refine codeAny_of_tree ?_;refine af (wpAny_of_eq (F.newCall_set_1 a) (ai ⟨jP F.plain_set_new _,iO F.entry_set_new ?_⟩));rw[jF F.plain_set_new _];unfold Builtin.«set.__new__» Builtin.Frozenset.newClass;have uL:=sub_set_self;obtain⟨hp,g,d,tk,os⟩:=s;dsimp only
 wp_walk
 refine wpAny_askSetting (ai ?_);dsimp only
 simp only[newObj];refine af (wpAny_alloc (ai ?_));exact ai h
end
end PySem
namespace L2.U
open PySem PySem.Spec PyProof.Rows
theorem r9{K:W.Frag}:∀ns:List Int,aq K F (ns.map .int) (ns.map V.int)
 | []=>.nil
 | n::r=>.cons (au.mpr rfl) (r9 r)
section
variable {X:Cx} {aa:Hp} {ab:Fz} {e o:Expr} {fe fo:Gx PV} {pos p pE zp ap cp:Pos}
def pF(h:starEach [e] X.env=(false,eval e X.env)::starEach [] X.env)(hq:wpAny M A (eval e X.env) (λv s1=>Q [v] s1) E s):wpAny M A (spliced (backTo pos (starEach [e] X.env))) Q E s:=by
 rw[h];exact Calls.spliced_cons (thn hq λv s1 q=>Calls.spliced_nil q)
noncomputable def W5:PV->Option PV
 | .str a=>some (.bl (Txt.isdigit a))
 | _=>none
def Ov(fo:Gx PV):Gx PV:=bnd fo λp=>fB (W5 p)
def CJ:Nc X "str.isdigit" (λx xs H Q=>∃a,x=.str a/\xs=[]/\Q (.bl (Txt.isdigit a)) H):=by
 rintro ae s σ H x xs v us Q I rx rs ⟨a,e1,e2,q⟩
 subst e1 e2;obtain⟨t,rfl⟩:=rx;have Wi:=rs.zero;subst Wi;exact SC.isdigit ⟨.bl _,H,I,rfl,q⟩
def SS(ho:PE X o (tE X aa ab fo))(hb:attributeBase o "isdigit" X.env (eval o X.env)=eval o X.env)(fx:(ap.endLine==cp.line)=true):PE X (.Call (.Attribute o "isdigit" ap) [] [] cp) (tE X aa ab (Ov fo)) :=
 (EU F.plainAttrs_str F.slot_str_isdigit F.type_str_isdigit CJ ho hb fx).imp λσ H Q ⟨F,st,R,h⟩=>⟨F,st,R,h.bnd λp v F1 st1 H1 R1 g1 b1 h1=>by
  obtain⟨o,e,z⟩:=h1.fB;cases p<;>cases e
  rw[bh.mp b1];exact⟨rfl,_,rfl,rfl,z _ H1 F1 R1 (Gr.refl _) (aQ.mpr rfl)⟩⟩
end
end L2.U
namespace PySem
open PyProof.Rows
namespace F
def dW:entryFor table "dict.update.loop"=some Builtin.«dict.update.loop» := entryFor_of_tree (by kernel_rfl)
def bG:plainId "dict.update.loop"=true:=by decide +kernel
end F
section
variable {prog:Program} {w:World} {K:Type} [DecidableEq K] {knd:KeyKind prog w K} {A:Around} {R:Result->Shared->Prop} {I:Addr} {fp wr:List Addr} {G:Array GenState->Array GenState->Prop} {n:Nat} {P:Nat->Value->Prop} {St:Nat->Shared->Prop}
def pH(h:Heap)(b:Addr)(key v:Value):Prop:=∃o m,h.get? b=some o/\o.cls=.type "tuple"/\o.data=.seq #[key,v] m
def m9(hp:pH s.heap b key v)(h:Q [key,v] s):wpAny (model prog w) A (Builtin.Dict.pairItems (.ref b)) Q E s:=by
 obtain⟨o,m,h1,h2,h3⟩:=hp;unfold Builtin.Dict.pairItems;refine af (jS ⟨o,h1,h2⟩ ?_);rw[if_pos (by decide)]
 refine af ?_;unfold seqItems?;obtain⟨W6,LN,SU,F9⟩:=o;simp only at h2 h3;subst h2 h3
 wp_walk
 exact h
def sd(W:WalksS prog w A.in1 I fp wr G n P St)(S:Addr)(hSf:S∉fp)(hl:kvs.length=n)(hn:n<=sizeLine){s₀:Shared}
  (zj:∀i v,P i v->∃b k key u,v=.ref b/\kvs[i]?=some (k,u)/\knd.is k key=true/\b∉S::wr/\pH s₀.heap b key u) :
  ∀(c i:Nat) (s:Shared),n-i=c->i<=n->St i s->(∀b o,b∉S::wr->s₀.heap.get? b=some o->s.heap.get? b=some o)->s.heap.DictOf knd S (merged [] (kvs.take i)) ->
   (∀s',Moved (S::wr) G s s'->s'.heap.DictOf knd S (merged [] kvs)->R (.ok (.ret .none)) s') ->
   codeAny (model prog w) A (.builtin "dict.update.loop" ⟨[.ref S,.ref I,rawInt (i:Int),.none],[]⟩) R s:=by
 have SV:S∉wr:=λh=>hSf (W.sub _ h)
 have uL:∀b∈wr,b∈S::wr:=by grind
 intro c;induction c with
 | zero =>
  intro i s hk hi kr ho hS hR;have Ow:i=n:=by lia
  subst Ow;refine iO F.dW ?_;rw[jF F.bG _];refine af (W.done s _ _ kr λs' hm=>?_)
  refine af (ai ?_);rw[iF (iQ ‹_›)]at hS;refine ai (hR s' (hm.mono uL) ?_);obtain⟨o,es,ep,h1,r⟩:=hS;exact⟨o,es,ep,hm.heap S _ SV h1,r⟩
 | succ c ih =>
  intro i s hk hi kr ho hS hR;have wx:i<n:=by lia
  refine iO F.dW ?_;rw[jF F.bG _];refine af (W.item i s _ _ wx kr λv s' hP Ga hm=>?_)
  obtain⟨b,k,key,u,rfl,hki,M3,hbn,SW⟩:=zj i v hP;have oO:∀b o,b∉S::wr->s₀.heap.get? b=some o->s'.heap.get? b=some o:=λb o hb e=>hm.heap b o (λz=>hb (b9 _ z)) (ho b o hb e)
  refine af (cR ?_);refine af (wpAny_tryCatch (m9 (by
   obtain⟨o,m,h1,r⟩:=SW;exact⟨o,m,oO b o hbn h1,r⟩) ?_))
  refine cR ?_;have hsz:(merged [] (kvs.take i)).length<=sizeLine:=by
   have:=merged_length_le ([]:List (K×Value)) (kvs.take i);rw[cY]at this;simp at this
   lia
  refine wpAny_dictSet_pairs M3 (by
   obtain⟨o,es,ep,h1,r⟩:=hS;exact⟨o,es,ep,hm.heap S _ SV h1,r⟩) λh' hd Ql=>?_
  rw[<-merged_take_succ _ _ _ _ hki]at hd;have W7:∀b o,b∉S::wr->s₀.heap.get? b=some o->h'.get? b=some o:=λb o hb e=>(Ql.2 b (λh:b=S=>hb (by grind))).trans (oO b o hb e)
  refine ai ⟨jP F.bG _,ih (i+1) _ (by lia) wx (W.frame _ s' _ _ Ga (yk ..) λb hb o e=>?_) W7 hd λM8 Ox Oy=>?_⟩
  ·exact(Ql.2 b (λh:b=S=>hSf (by grind))).trans e
  ·refine hR M8 (Moved.trans W.gtrans ((hm.mono uL).then_heap (yk ..) λb o hb e=>?_) Ox) Oy
   exact(Ql.2 b (λh:b=S=>hb (by grind))).trans e
end
namespace F
theorem uO:typeLookup (.type "list") "keys"=pure none:=by rw[tZ,tK];kernel_rfl
def qR:typeLookup (.type "tuple") "keys"=pure none:=by rw[tZ,tK];kernel_rfl
end F
section
variable {prog:Program} {w:World} {A:Around} {E:Value->Shared->Prop} {s:Shared} {a:Addr} {o:Obj} {xs:Array Value} {k:Nat} {Q:Option Value->Shared->Prop}
def nc(hx:s.heap.get? a=some o)(hc:o.cls=.type "tuple")(me:o.data=.seq xs k)(hd:o.dict=none)(hA:A.handled=none)
  (h:∀h' tk,(∀b ob,s.heap.get? b=some ob->h'.get? b=some ob)->Q none {s with heap:=h',toks:=tk}) :
  wpAny (model prog w) A (getAttr? (.ref a) "keys") Q E s:=by
 obtain⟨c,Ki,YS,sl⟩:=o;simp only at hc me hd;subst hc me hd;obtain⟨hp,g,d,tk,os⟩:=s;have hT:∀Gb,(⟨hp,g,d,Gb,os⟩:Shared).TypeIs (.ref a) "tuple":=λ_=>⟨_,hx,rfl⟩
 have f1:=sub_AttributeError;have f3:=xG.lookup;have f4:=xG.bind (.ref a);have f5:=am_tuple_getattr_none;unfold getAttr? getAttrBy? getAttrBy
 repeat (any_goals (first | assumption | exact hT _ | ((with_reducible show wpAny _ _ (call (Value.builtin "tuple.__getattribute__") _ _) _ _ _);refine dD xG (hT _) am_entry_tuple_getattribute (F.args_tuple_getattribute_2 _ _) (meets_getattribute_miss_tuple a xs k sl "keys" _ F.qR (by decide +kernel) (by decide +kernel)) ⟨hx,hA,λh' Gb e mF=>?_⟩) | wp_step))
 obtain⟨t',u',he⟩:=mF.there;show wpAny _ _ (getattributeRaised _ _ _ _ _ _ _) _ _ _;unfold getattributeRaised
 repeat (any_goals (first | assumption | wp_step))
 exact h _ _ mF.keeps
theorem pK(hx:s.heap.get? a=some o)(hc:o.cls=.type "list")(me:o.data=.seq xs k)(hd:o.dict=none)(hA:A.handled=none)
  (h:∀h' tk,(∀b ob,s.heap.get? b=some ob->h'.get? b=some ob)->Q none {s with heap:=h',toks:=tk}) :
  wpAny (model prog w) A (getAttr? (.ref a) "keys") Q E s:=by
 obtain⟨c,Ki,YS,sl⟩:=o;simp only at hc me hd;subst hc me hd;obtain⟨hp,g,d,tk,os⟩:=s;have hT:∀Gb,(⟨hp,g,d,Gb,os⟩:Shared).TypeIs (.ref a) "list":=λ_=>⟨_,hx,rfl⟩
 have f1:=sub_AttributeError;have f3:=xI.lookup;have f4:=xI.bind (.ref a);have f5:=am_list_getattr_none;unfold getAttr? getAttrBy? getAttrBy
 repeat (any_goals (first | assumption | exact hT _ | ((with_reducible show wpAny _ _ (call (Value.builtin "list.__getattribute__") _ _) _ _ _);refine dD xI (hT _) am_entry_list_getattribute (F.args_list_getattribute_2 _ _) (meets_getattribute_miss_list a xs k sl "keys" _ F.uO (by decide +kernel) (by decide +kernel)) ⟨hx,hA,λh' Gb e mF=>?_⟩) | wp_step))
 obtain⟨t',u',he⟩:=mF.there;show wpAny _ _ (getattributeRaised _ _ _ _ _ _ _) _ _ _;unfold getattributeRaised
 repeat (any_goals (first | assumption | wp_step))
 exact h _ _ mF.keeps
end
section
variable {prog:Program} {w:World} {A:Around} {E:Value->Shared->Prop} {s:Shared} {K:Type} [DecidableEq K] {knd:KeyKind prog w K}
def pM(hh:A.handled=none)(hx:s.heap.get? l=some ol)(hc:ol.cls=.type "tuple")(me:ol.data=.seq items m)(SX:ol.dict=none)
  (hi:∀(i:Nat) (v:Value),items[i]?=some v->∃b k key u,v=.ref b/\kvs[i]?=some (k,u)/\knd.is k key=true/\pH s.heap b key u) (W8:kvs.length=items.size) (hb:items.size<=sizeLine)
  (h:∀(h':Heap) (tk:Nat),h'.DictOf knd s.heap.objs.size (merged [] kvs)->(∀b o,b<s.heap.objs.size->s.heap.get? b=some o->h'.get? b=some o)->Q (.ref s.heap.objs.size) {s with heap:=h',toks:=tk}) :
  wpAny (model prog w) A (call (.type "dict") [.ref l]) Q E s:=by
 refine callType_codes (Q₁:=λobj s₁=>obj=.ref s.heap.objs.size/\s₁={s with heap:=s.heap.push {cls:=.type "dict",data:=.dict #[]}}) F.kt_called_dict (F.kt_typeCall_dict_1 _) F.entry_dict_init (kt_code_dict_new _ ⟨rfl,rfl⟩) ?_
 rintro obj s₁ ⟨rfl,rfl⟩
 have pP:(s.heap.push {cls:=.type "dict",data:=.dict #[]}).DictOf knd s.heap.objs.size []:=yt s.heap
 have mF:(s.heap.push {cls:=.type "dict",data:=.dict #[]}).get? l=some ol:=ax _ hx
 have Oz:=az hx;refine⟨pP.typeIs,F.args_dict_init_2 _ _,?_⟩;unfold Builtin.«dict.__init__»;refine af ?_;unfold Builtin.Dict.selfAndRest;refine af (xT pP.typeIs ?_);refine ai ?_;show wpAny _ _ (Builtin.Dict.updateFrom "dict.__init__" s.heap.objs.size (.ref l) [] .none) _ _ _;unfold Builtin.Dict.updateFrom;refine af (jS ⟨ol,mF,hc⟩ ?_);rw[if_pos (by decide)]
 refine af (nc mF hc me SX (by simp[hh]) λh2 tk2 kp=>?_)
 rw[if_pos (show(none:Option Value).isNone=true from rfl)]
 have W9:=kp l ol mF;have wG:h2.DictOf knd s.heap.objs.size []:=by
  obtain⟨o,es,ep,h1,r⟩:=pP;exact⟨o,es,ep,kp _ _ h1,r⟩
 have SY:h2.IsTuple l items:=⟨ol,W9,hc,m,me⟩;refine af (iR ?_);refine af ?_;refine ya SY ?_;refine ai ⟨jP F.bG _,?_⟩;have LO:s.heap.objs.size<h2.objs.size:=by
  obtain⟨o,_,_,h1,_⟩:=wG;exact az h1
 have OA:=aN (gT Oz LO);have zj:∀i (v:Value),items[i]?=some v->∃b k key u,v=.ref b/\kvs[i]?=some (k,u)/\knd.is k key=true/\b∉[s.heap.objs.size,h2.objs.size]/\pH s.heap b key u:=λi v hv=>by
  obtain⟨b,k,key,u,e1,e2,e3,e4⟩:=hi i v hv;refine⟨b,k,key,u,e1,e2,e3,?_,e4⟩;obtain⟨o,_,ho,_⟩:=e4;have:=az ho;simp only[aF,bf,bg,not_or];exact⟨aN this,aN (gT this LO)⟩
 refine sd (knd:=knd) (s₀:=s) ((Walks.tuple (by simp[hh]) h2.objs.size l OA items).toS) s.heap.objs.size (by grind) W8 hb zj (items.size-0) 0 _ (by lia) (fg _) ⟨⟨_,aZ _ rfl,rfl,rfl⟩,SY.push _⟩ (λb o _ e=>ax _ (kp _ _ (ax _ e))) ?_ ?_
 ·obtain⟨o,es,ep,h1,r⟩:=wG;exact⟨o,es,ep,ax _ h1,r⟩
 ·intro s' hm xF;obtain⟨h',g',d',Gb,Jf⟩:=s';have eg:g'=s.gens:=hm.gens;have ed:d'=s.drawn:=hm.drawn;have eo:Jf=s.os:=hm.os;subst eg;subst ed;subst eo;refine⟨rfl,h h' Gb xF λb o hb e=>?_⟩
  refine hm.heap b o ?_ (ax _ (kp _ _ (ax _ e)));simp only[aF,bf,bg,not_or];exact⟨aN hb,aN (gT hb LO)⟩
theorem wH{l:Addr}{ol:Obj}{items:Array Value}{m:Nat}{kvs:List (K×Value)}{Q:Value->Shared->Prop}(hh:A.handled=none)(hx:s.heap.get? l=some ol)(hc:ol.cls=.type "list")(me:ol.data=.seq items m)(SX:ol.dict=none)
  (hi:∀(i:Nat) (v:Value),items[i]?=some v->∃b k key u,v=.ref b/\kvs[i]?=some (k,u)/\knd.is k key=true/\pH s.heap b key u) (W8:kvs.length=items.size) (hb:items.size<=sizeLine)
  (h:∀(h':Heap) (tk:Nat),h'.DictOf knd s.heap.objs.size (merged [] kvs)->(∀b o,b<s.heap.objs.size->s.heap.get? b=some o->h'.get? b=some o)->Q (.ref s.heap.objs.size) {s with heap:=h',toks:=tk}) :
  wpAny (model prog w) A (call (.type "dict") [.ref l]) Q E s:=by
 refine callType_codes (Q₁:=λobj s₁=>obj=.ref s.heap.objs.size/\s₁={s with heap:=s.heap.push {cls:=.type "dict",data:=.dict #[]}}) F.kt_called_dict (F.kt_typeCall_dict_1 _) F.entry_dict_init (kt_code_dict_new _ ⟨rfl,rfl⟩) ?_
 rintro obj s₁ ⟨rfl,rfl⟩
 have pP:(s.heap.push {cls:=.type "dict",data:=.dict #[]}).DictOf knd s.heap.objs.size []:=yt s.heap
 have mF:(s.heap.push {cls:=.type "dict",data:=.dict #[]}).get? l=some ol:=ax _ hx
 have Oz:l<s.heap.objs.size:=az hx;refine⟨pP.typeIs,F.args_dict_init_2 _ _,?_⟩;unfold Builtin.«dict.__init__»;refine af ?_;unfold Builtin.Dict.selfAndRest;refine af (xT pP.typeIs ?_);show wpAny _ _ (pure (s.heap.objs.size,[Value.ref l])) _ _ _;refine ai ?_;show wpAny _ _ (Builtin.Dict.updateFrom "dict.__init__" s.heap.objs.size (.ref l) [] .none) _ _ _;unfold Builtin.Dict.updateFrom;refine af (jS (T:="list") ⟨ol,mF,hc⟩ ?_);rw[if_pos (by decide)]
 refine af (pK mF hc me SX (by simp[hh]) λh2 tk2 kp=>?_)
 rw[if_pos (show(none:Option Value).isNone=true from rfl)]
 have W9:h2.get? l=some ol:=kp l ol mF;have wG:h2.DictOf knd s.heap.objs.size []:=by
  obtain⟨o,es,ep,h1,r⟩:=pP;exact⟨o,es,ep,kp _ _ h1,r⟩
 have SY:h2.IsList l items:=⟨ol,W9,hc,m,me⟩;refine af (iR ?_);refine af ?_;refine lO SY ?_;refine ai ⟨jP F.bG _,?_⟩;have LO:s.heap.objs.size<h2.objs.size:=by
  obtain⟨o,_,_,h1,_⟩:=wG;exact az h1
 have OA:l≠h2.objs.size:=aN (gT Oz LO);have hSf:s.heap.objs.size∉[h2.objs.size,l]:=by
  simp only[aF,bf,bg,not_or];exact⟨aN LO,lW Oz⟩
 have hh3:A.in1.in1.handled=none:=by simp[hh]
 have zj:∀(i:Nat) (v:Value),items[i]?=some v->∃b k key u,v=.ref b/\kvs[i]?=some (k,u)/\knd.is k key=true/\b∉[s.heap.objs.size,h2.objs.size]/\pH s.heap b key u:=λi v hv=>by
  obtain⟨b,k,key,u,e1,e2,e3,e4⟩:=hi i v hv;refine⟨b,k,key,u,e1,e2,e3,?_,e4⟩;obtain⟨o,_,ho,_⟩:=e4;have:=az ho;simp only[aF,bf,bg,not_or];exact⟨aN this,aN (gT this LO)⟩
 refine sd (knd:=knd) (s₀:=s) ((Walks.list hh3 h2.objs.size l OA items).toS) s.heap.objs.size hSf W8 hb zj (items.size-0) 0 _ (by lia) (fg _) ⟨⟨_,aZ _ rfl,rfl,rfl⟩,SY.push _⟩ (λb o _ e=>ax _ (kp _ _ (ax _ e))) ?_ ?_
 ·obtain⟨o,es,ep,h1,r⟩:=wG;exact⟨o,es,ep,ax _ h1,r⟩
 ·intro s' hm xF;obtain⟨h',g',d',Gb,Jf⟩:=s';have eg:g'=s.gens:=hm.gens;have ed:d'=s.drawn:=hm.drawn;have eo:Jf=s.os:=hm.os;subst eg;subst ed;subst eo;refine⟨rfl,h h' Gb xF λb o hb e=>?_⟩
  refine hm.heap b o ?_ (ax _ (kp _ _ (ax _ e)));simp only[aF,bf,bg,not_or];exact⟨aN hb,aN (gT hb LO)⟩
end
end PySem
namespace L2.U
open PySem PySem.Spec PyProof.Rows
section
variable {X:Cx} {a b:Expr} {ta tb:TE} {p cp bp:Pos}
def k8(K:W.Frag)(H:Hp):List V->List (cC×V)->Prop:=Paired λv kv=>∃c,v=.ref c/\fw K H c [kV kv.1,kv.2]
def dz(kvs:List (cC×V)):List (cC×V):=kvs.foldl (λacc kv=>putK acc kv.1 kv.2) []
def S0(K:W.Frag):R2:=λx y H Q=>∃a b xs ys kvs,x=.ref a/\y=.ref b/\fw K H a xs/\fw K H b ys/\(xs≠[]->ys≠[])/\xs.length+ys.length<=1000/\k8 K H (xs++ys) kvs/\∀p,H p=none->Q (.ref p) (cf H p (.dK (dz kvs)))
theorem k9:∀{kvs:List (cC×V)} {vs:List (cC×Value)} {acc:List (cC×V)} {S2:List (cC×Value)},L2.KV kvs vs->L2.KV acc S2->L2.KV (kvs.foldl (λacc kv=>putK acc kv.1 kv.2) acc) (vs.foldl (λacc kv=>stored acc kv.1 kv.2) S2)
 | _,_,_,_,.nil,h=>h
 | _,_,_,_,.cons (a:=x) r t,h=>by
  have h2:=h.put x.1 r.2;rw[jK,jK];rw[r.1]at h2 ⊢;exact k9 (t) h2
def pQ(f:List (cC×V)):∀acc:List (cC×V),(f.foldl (λacc kv=>putK acc kv.1 kv.2) acc).length<=acc.length+f.length:=by
 induction f with
 | nil=>intro acc;simp
 | cons x f ih =>
  intro acc;have:=ih (putK acc x.1 x.2);have:=AX acc x.1 x.2;rw[jK,br]
  lia
theorem nC(I:Inv X ae σ H s):∀{vs:List V} {kvs:List (cC×V)},k8 X.K H vs kvs->∀{us:List Value},Vals vs us->∃CK:List (cC×Value),L2.KV kvs CK/\CK.length=us.length/\∀(i:Nat) (u:Value),us[i]?=some u->∃b k key w,u=.ref b/\CK[i]?=some (k,w)/\(bD X.prog X.w).is k key=true/\pH s.heap b key w
 | _,_,.nil,us,r=>by
  cases r;exact⟨[],.nil,rfl,λi u h=>by cases h⟩
 | _,_,.cons (b:=kv) q t,us,r=>by
  cases r with
  | cons r1 r2 =>
   obtain⟨CK,g1,g2,g3⟩:=nC I t r2;obtain⟨c,rfl,hs⟩:=q;obtain⟨ak,rr,⟨o,h1,h2,n,h3⟩,_⟩:=I.tuple hs;obtain⟨key,w,e,hk,hw⟩:=rr.two;subst e;cases r1;refine⟨(kv.1,w)::CK,.cons ⟨rfl,hw⟩ g1,by rw[br,br,g2],λi u hu=>?_⟩
   cases i with
   | zero =>
    cases hu;exact⟨c,kv.1,key,w,rfl,rfl,mD hk,o,n,h1,h2,h3⟩
   | succ i=>exact g3 i u hu
def Kj(hh:X.A.handled=none)(hg:Gl X "dict")(hm:X.mg "dict"=none)(ha:PE X a ta)(hb:PE X b tb)(hs:starEach [.BinOp a .Add b bp] X.env=[(false,eval (.BinOp a .Add b bp) X.env)]):PE X (.Call (.Name "dict" p) [.BinOp a .Add b bp] [] cp) (MS (S0 X.K) ta tb):=by
 intro ae s σ H Q I h;refine Call_ (ld_blt I hg hm (show bootBuiltins "dict"=some (.type "dict") by decide +kernel) (d7 (pF hs (wpAny_BinOp (IV ha hb I h λv u s2 x y H2 I2 rx ry q=>?_))) hs rfl))
 obtain⟨t1,t2,xs,ys,kvs,rfl,rfl,h1,h2,h4,h5,h6,q⟩:=q;cases rx;cases ry;obtain⟨ak,r1,p1,_⟩:=I2.tuple h1;obtain⟨cD,r2,⟨o2,d1,d2,⟨d3,d4⟩,d5⟩,_⟩:=I2.Eu h2;have p2:IsTup s2.heap t2 cD.toArray:=⟨o2,d1,d2,d3,d4⟩;by_cases h3:xs=[]
 ·subst h3;cases r1;refine wa p1 p2 ?_;obtain⟨CK,g1,g2,g3⟩:=nC I2 h6 r2;have LP:1000<=sizeLine:=by decide
  have pU:cD.length<=1000:=by rw[<-r2.length];simpa using h5
  refine pM (knd:=bD X.prog X.w) (items:=cD.toArray) (kvs:=CK) hh d1 d2 d4 d5 (λi v hv=>?_) (by rw[g2];simp) (by simp;lia) λh' tk dd kp=>?_
  ·rw[lK]at hv;exact g3 i v hv
  ·have DM:=k9 g1 .nil;refine⟨.ref _,_,I2.laid (o:=.dK (dz kvs)) (λb u e=>kp b u (az e) e) (ao _) ?_,rfl,q _ (I2.hok.fresh (ao _))⟩
   refine⟨?_,fK.mpr (bj (aN (iU I2))),_,DM,dd⟩;have:=pQ kvs [];have e:kvs.length=CK.length:=iP g1;unfold dz;simp only[oB]at this
   lia
 replace h4:=h4 h3;have hz:ak.length+cD.length<=1000:=by rw[<-r1.length,<-r2.length];exact h5
 have LP:1000<=sizeLine:=by decide
 refine HT.AE p1 p2 (λz=>h3 (r1.kL.mp z)) (λz=>absurd (r2.kL.mp z) h4) (λz=>?_) (aM ‹_› ‹_›)
 obtain⟨CK,g1,g2,g3⟩:=nC I2 h6 (r1.append r2);obtain⟨DO,aa4⟩:=nw (s2.heap.push {cls:=.type "tuple",data:=.seq (ak++cD).toArray})
 have hsz:(ak++cD).toArray.size=ak.length+cD.length:=by simp
 refine pM (knd:=bD X.prog X.w) hh (aZ _ rfl) rfl rfl rfl (λi v hv=>?_) (by rw[g2];simp) (by grind) λh' tk dd kp=>?_
 ·rw[lK]at hv;obtain⟨c,k,key,w,e1,e2,e3,o,n,e4,e5⟩:=g3 i v hv;exact⟨c,k,key,w,e1,e2,e3,o,n,ax _ e4,e5⟩
 ·have hS:s2.heap.objs.size<=(s2.heap.push {cls:=.type "tuple",data:=.seq (ak++cD).toArray}).objs.size:=by simp_all
  have DM:=k9 g1 .nil;refine⟨.ref _,_,I2.laid (λb u e=>kp b u (bP (az e) hS) (ax _ e)) hS ?_,rfl,q _ (I2.hok.fresh hS)⟩
  refine⟨?_,fK.mpr (bj (aN (bP (iU I2) hS))),_,DM,dd⟩;have:=pQ kvs [];have e:=iP g1;rw[bC]at g2;unfold dz;simp only[oB]at this
  lia
end
def Zc(K:W.Frag):List V->Hp->VK->Prop:=λxs H Q=>∃a vs kvs,xs=[.ref a]/\gC K H a vs/\vs.length<=1000/\k8 K H vs kvs/\∀p,H p=none->Q (.ref p) (cf H p (.dK (dz kvs)))
theorem zk{X:Cx}(hh:X.A.handled=none):jB X (.type "dict") (Zc X.K):=by
 intro ae s σ H xs us Q I rs ⟨a,vs,kvs,ex,ha,hl,hp,q⟩;subst ex;obtain⟨u,rfl,ru⟩:=ip rs;cases ru;obtain⟨ak,n,r,hx,_⟩:=I.kQ ha;obtain⟨CK,g1,g2,g3⟩:=nC I hp r;have LP:1000<=sizeLine:=by decide
 have pU:ak.length<=1000:=by rw[<-r.length];exact hl
 refine wH (knd:=bD X.prog X.w) (items:=ak.toArray) (kvs:=CK) hh hx rfl rfl rfl (λi v hv=>?_) (by rw[g2];simp) (by simp;lia) λh' tk dd kp=>?_
 ·rw[lK]at hv;exact g3 i v hv
 ·have DM:L2.KV (dz kvs) (merged [] CK):=k9 g1 .nil;refine⟨.ref _,_,I.laid (o:=.dK (dz kvs)) (λb u e=>kp b u (az e) e) (ao _) ?_,rfl,q _ (I.hok.fresh (ao _))⟩
  refine⟨?_,fK.mpr (bj (aN (iU I))),_,DM,dd⟩;have:=pQ kvs [];have e:kvs.length=CK.length:=iP g1;unfold dz;simp only[oB]at this
  lia
def Kk{X:Cx}{a:Expr}{ta:TE}{p cp:Pos}(hh:X.A.handled=none)(hg:Gl X "dict")(hm:X.mg "dict"=none)(ha:PE X a ta)(hs:starEach [a] X.env=[(false,eval a X.env)]):PE X (.Call (.Name "dict" p) [a] [] cp) (λσ H Q=>ta σ H λx H1=>Zc X.K [x] H1 Q):=by
 intro ae s σ H Q I h;refine Call_ (ld_blt I hg hm (show bootBuiltins "dict"=some (.type "dict") by decide +kernel) (d7 (pF hs (thn (ha ae s σ H _ I h) λv s1 ⟨x,H1,I1,r1,q1⟩=>?_)) hs rfl))
 exact zk hh ae s1 σ H1 [x] [v] Q I1 (.cons r1 .nil) q1
def wI:PV->Option (cC×PV)
 | .nd .ag [k,v]=>(Fg k).map λj=>(j,v)
 | _=>none
def pV:List (cC×PV)->aj->aj
 | [],c=>c
 | (k,v)::r,c=>match c.k with
  | .eR t ks=>pV r (uG t [k] v ks c.ps)
  | _=>c
def wJ(ps:List PV):Option aj:=if ps.length<=1000 then(aT wI ps).map λkvs=>pV kvs ⟨.eR false [],[]⟩else none
section
variable {K:W.Frag} {F:Fz}
theorem wK:∀{ps:List PV} {kvs:List (cC×PV)} {vs:List V},aT wI ps=some kvs->aq K F ps vs->∃ks:List (cC×V),k8 K F.F vs ks/\ks.map (·.1)=kvs.map (·.1)/\aq K F (kvs.map (·.2)) (ks.map (·.2))
 | [],_,_,h,b=>by
  cases h;rw[b.bN];exact⟨[],.nil,rfl,.nil⟩
 | p::ps,kvs,vs,h,b=>by
  obtain⟨kv,r,h1,h2,rfl⟩:=cP h;obtain⟨v,w,rfl,b1,b2⟩:=b.bE;obtain⟨ks,g1,g2,g3⟩:=wK h2 b2;unfold wI at h1;split at h1
  ·rename_i k q;obtain⟨j,e1,rfl⟩:=aL h1;obtain⟨c,ws,rfl,hs,hb⟩:=bu.mp b1;obtain⟨x,y,rfl,bx,bq⟩:=kZ hb;rw[pw e1 bx]at hs;exact⟨(j,y)::ks,.cons ⟨c,rfl,hs⟩ g1,by rw[aA,aA,g2],.cons bq g3⟩
  ·cases h1
theorem A9:∀{kvs:List (cC×PV)} {ks:List (cC×V)} {acc:List (cC×V)} {ps:List PV},ks.map (·.1)=kvs.map (·.1)->aq K F (kvs.map (·.2)) (ks.map (·.2))->aq K F ps (acc.map (·.2)) ->
  ∃rR vA,pV kvs ⟨.eR false (acc.map λy=>[y.1]),ps⟩=⟨.eR false rR,vA⟩/\(ks.foldl (λacc kv=>putK acc kv.1 kv.2) acc).map (λy=>[y.1])=rR/\aq K F vA ((ks.foldl (λacc kv=>putK acc kv.1 kv.2) acc).map (·.2))
 | [],ks,acc,ps,h1,h2,h3=>by
  have:=List.map_eq_nil_iff.mp h1;subst this;exact⟨_,_,rfl,rfl,h3⟩
 | (k,q)::kvs,[],acc,ps,h1,h2,h3=>by cases h1
 | (k,q)::kvs,(j,v)::ks,acc,ps,h1,h2,h3=>by
  simp only[aA,t6]at h1;obtain⟨rfl,h1⟩:=h1;obtain⟨v',w,e,b1,b2⟩:=h2.bE;cases e;obtain⟨rR,vA,e1,e2,e3⟩:=Fh b1 h3;obtain⟨ks2,ps2,e4,e5,e6⟩:=A9 h1 b2 e3;refine⟨ks2,ps2,?_,e5,e6⟩;show pV kvs (uG false [j] q (acc.map λy=>[y.1]) ps)=_
  rw[e1,<-e2];exact e4
end
def Ba{K:W.Frag}(h:wJ ps=some c)(b:aq K F ps vs):∃ks:List (cC×V),k8 K F.F vs ks/\ps.length<=1000/\∃rR qs,c=⟨.eR false rR,qs⟩/\(dz ks).map (λy=>[y.1])=rR/\aq K F qs ((dz ks).map (·.2)):=by
 obtain⟨hl,h⟩:=bH h;obtain⟨kvs,h1,rfl⟩:=aL h;obtain⟨ks,g1,g2,g3⟩:=wK h1 b;obtain⟨rR,vA,e1,e2,e3⟩:=A9 (acc:=[]) g2 g3 .nil;exact⟨ks,g1,hl,rR,vA,e1,e2,e3⟩
theorem k8.mono{K:W.Frag}(h:b7 F G):∀{vs:List V} {ks:List (cC×V)},k8 K F vs ks->k8 K G vs ks
 | _,_,.nil=>.nil
 | _,_,.cons ⟨c,e,q⟩ t=>.cons ⟨c,e,aS h q⟩ (k8.mono h t)
noncomputable def Kl:PV->Option (List PV)
 | .nd .ag ps=>some ps
 | _=>none
def S3(p q:PV):Gx PV:=λst=>(Kl p).bind λps=>(Kl q).bind λqs=>if(!ps.isEmpty&&qs.isEmpty)=true then none else(wJ (ps++qs)).bind λc=>ix c st
def Bb(fa fb:Gx PV):Gx PV:=bnd fa λp=>bnd fb λq=>S3 p q
section
variable {X:Cx} {aa:Hp} {ab:Fz} {a b e:Expr} {fa fb fe:Gx PV} {p cp bp:Pos}
def OB(hh:X.A.handled=none)(hg:Gl X "dict")(hm:X.mg "dict"=none)(ha:PE X a (tE X aa ab fa))(hb:PE X b (tE X aa ab fb))(hs:starEach [.BinOp a .Add b bp] X.env=[(false,eval (.BinOp a .Add b bp) X.env)]):PE X (.Call (.Name "dict" p) [.BinOp a .Add b bp] [] cp) (tE X aa ab (Bb fa fb)) :=
 (Kj hh hg hm ha hb hs).imp λσ H Q ⟨F,st,R,h⟩=>⟨F,st,R,h.bnd λq v F1 st1 H1 R1 g1 b1 h1=>⟨F1,st1,R1,h1.bnd λq2 v2 F2 dw H2 R2 g2 b2 h2=>by
  obtain⟨r,e1,e2⟩:=h2;obtain⟨ps,e3,e1⟩:=aE e1;obtain⟨qs,e4,e1⟩:=aE e1;split at e1
  ·cases e1
  ·rename_i hne;obtain⟨c,e5,e1⟩:=aE e1;have t1:q=.ag ps:=by
    unfold Kl at e3;split at e3
    ·grind
    ·cases e3
   have t2:q2=.ag qs:=by
    unfold Kl at e4;split at e4
    ·grind
    ·cases e4
   subst t1 t2;obtain⟨a1,vs,rfl,Xa,OC⟩:=bu.mp (b1.mono g2);obtain⟨a2,ws,rfl,xD,Vc⟩:=bu.mp b2;obtain⟨ks,k1,hl,rR,vA,rfl,e6,e7⟩:=Ba e5 (OC.append Vc);rw[bC]at hl;refine⟨a1,a2,vs,ws,ks,rfl,rfl,aS R2.sub Xa,aS R2.sub xD,λy z=>hne ?_,by rw[<-OC.length,<-Vc.length];exact hl,k1.mono R2.sub,λp hp=>?_⟩
   ·subst z;have z2:qs=[]:=iC Vc.length;have z1:ps≠[]:=λz=>y (iC (by rw[<-OC.length,z];rfl))
    simp[z2,z1]
   ·exact Tx.ix (show Tx X aa ab (aY X.K) F2 dw (ix ⟨.eR false rR,vA⟩) σ Q from⟨r,e1,e2⟩) R2 hp ⟨dz ks,ar,e6,rfl⟩ e7⟩⟩
def Km(fa:Gx PV):Gx PV:=bnd fa λp st=>match p with
 | .nd .lst ps=>(wJ ps).bind λc=>ix c st
 | _=>none
def Gd(hh:X.A.handled=none)(hg:Gl X "dict")(hm:X.mg "dict"=none)(ha:PE X a (tE X aa ab fa))(hs:starEach [a] X.env=[(false,eval a X.env)]):PE X (.Call (.Name "dict" p) [a] [] cp) (tE X aa ab (Km fa)) :=
 (Kk hh hg hm ha hs).imp λσ H Q ⟨F,st,R,h⟩=>⟨F,st,R,h.bnd λq v F1 st1 H1 R1 g1 b1 h1=>by
  obtain⟨r,e1,e2⟩:=h1;split at e1
  ·rename_i ps;obtain⟨c,e5,e1⟩:=aE e1;obtain⟨ad,vs,rfl,Xa,OC⟩:=cJ.mp b1;obtain⟨ks,k1,hl,rR,vA,rfl,e6,e7⟩:=Ba e5 OC;refine⟨ad,vs,ks,rfl,gF R1.sub Xa,by rw[<-OC.length];exact hl,k1.mono R1.sub,λp hp=>?_⟩
   exact Tx.ix (show Tx X aa ab (aY X.K) F1 st1 (ix ⟨.eR false rR,vA⟩) σ Q from⟨r,e1,e2⟩) R1 hp ⟨dz ks,ar,e6,rfl⟩ e7
  ·cases e1⟩
end
noncomputable def OD:List PV->Option (List Int)
 | [.int n]=>if 0<=n/\n<=1000 then some (rangeInts 0 1 n.toNat)else none
 | [.int a,.int b]=>if 0<=a/\a<=b/\b<=1000 then some (rangeInts a 1 (b-a).toNat)else none
 | _=>none
def la(m:Nat)(ps:List PV):Gx PV:=λst=>match m with
 | 0=>some (.ok (.lst ps),st)
 | _=>ix ⟨.lst,ps⟩ st
def Xb(m:Nat)(ts:Gx (List PV)):Gx PV:=bnd ts λps=>bnd (fB (OD ps)) λl=>la m (l.map .int)
def boot_range:bootBuiltins "range"=some (.type "range"):=by kernel_rfl
section
variable {X:Cx} {aa:Hp} {ab:Fz} {e:Expr} {es:List Expr} {ts:Gx (List PV)} {pos p pE zp:Pos} {m:Nat}
def Tx.la{st:bU}(h:Tx X aa ab (aY X.K) F st (la m ps) σ Q)(R:Rep X.K aa ab F st σ H)(hq:H q=none)(hb:aq X.K F ps vs):Q (.ref q) (cf H q (.lst vs)):=by
 cases m with
 | zero =>
  obtain⟨r,e1,e2⟩:=h;cases e1;obtain⟨R2,s2⟩:=R.laid (.lst vs) hq;exact e2 _ _ _ R2 s2 (cJ.mpr ⟨q,vs,rfl,gC.of ar,hb.mono s2⟩)
 | succ m=>exact Tx.ix (h) R hq ar hb
def zl(h:ItemsOf (fun(i:Nat) (v:Value)=>∃t:Tok,v=Value.int (a+i*c) t) acc n):Vals ((rangeInts a c n).map V.int) acc.toList:=by
 have:∀l k,(∀j v,l[j]?=some v->∃t:Tok,v=Value.int (a+(k+j:Nat)*c) t)->Vals (((List.range' k l.length).map fun(i:Nat)=>a+i*c).map V.int) l:=by
  intro l;induction l with
  | nil=>intro k _;exact .nil
  | cons x l ih =>
   intro k hx;obtain⟨t,ht⟩:=hx 0 x rfl;rw[br,List.range'_succ,aA,aA];refine .cons ⟨t,by rw[ht];rfl⟩ (ih (k+1) λj v hv=>?_)
   have:=hx (j+1) v (by simpa using hv)
   rw[show k+(j+1)=k+1+j by lia]at this
   exact this
 have h2:=this acc.toList 0 λj v hv=>by
  rw[Nat.zero_add];exact h.2 j v (by rw[<-xU];exact hv)
 rw[lL,h.1,<-List.range_eq_range']at h2;exact h2
def S4(hh:X.A.handled=none)(OE:Gl X "list")(OF:X.mg "list"=none)(hg:Gl X "range")(hm:X.mg "range"=none)(ha:PA X (e::es) (tA X aa ab ts))(hs:starEach (e::es) X.env=(false,eval e X.env)::starEach es X.env)(xD:(backTo pE (starEach es X.env)).any (·.1)=false) :
  PE X (.Call (.Name "list" p) [.Call (.Name "range" zp) (e::es) [] pE] [] pos) (tE X aa ab (Xb m ts)):=by
 rintro ae s σ H Q I ⟨F,st,Rp,h⟩
 refine iJ (ld_blt I OE OF (g9 .list) ?_ (by decide) (by decide))
 refine d7 (pF rfl ?_) rfl rfl;have hA:=ha pE ae s σ H (λvs H'=>∃F' bM ps,Rep X.K aa ab F' bM σ H'/\aq X.K F' ps vs/\Tx X aa ab (aY X.K) F' bM (bnd (fB (OD ps)) λl=>la m (l.map .int)) σ Q) I ⟨F,st,Rp,h.bnd λps vs F1 st1 H1 R1 g1 b1 h1=>⟨F1,st1,ps,R1,b1,h1⟩⟩
 refine Call_ (ld_blt I hg hm boot_range (d7 (thn hA λus s1 z9=>?_) hs xD))
 obtain⟨vs,H1,I1,r1,F1,st1,ps,R1,b1,h1⟩:=z9;obtain⟨ns,f2,h1⟩:=At.fB (At.bnd h1);have iS:∀r h1 Xc (a b c:Int) (t u v:Tok) (n:Nat),(∀b o,s1.heap.get? b=some o->h1.get? b=some o)->IsRange h1 r a b c t u v->Builtin.Range.small a b c=true->Builtin.Range.rangeSize a b c=n->n<=3000->ns=rangeInts a c n ->
   wpAny (model X.prog X.w) X.A (call (.type "list") [.ref r]) (EP X ae σ Q) X.xe {s1 with heap:=h1,toks:=Xc}:=λr h2 Xc a b c t u v n hk hr hsm hn U4 Jq=>by
  refine call_list_range hh hr hsm hn (by lia) λh' tk acc c' U6 hS Xd=>?_
  have I2:=I1.kept (t':=Xc) hk;have hz:=I2.hok.fresh (ao _);have hv:=zl Xd;rw[<-Jq]at hv;refine⟨.ref h2.objs.size,cf H1 h2.objs.size (.lst (ns.map V.int)),I2.laid U6 (ao _) ⟨?_,acc.toList,c',hv,hS⟩,rfl,Tx.la h1 R1 hz (r9 ns)⟩;rw[ah,Jq,rangeInts_length];exact aM U4 (by decide)
 clear h1;unfold OD at f2;split at f2
 ·rename_i n;obtain⟨⟨h0,h1⟩,e1⟩:=aw f2;obtain⟨v,rfl,bv⟩:=cj b1;rw[au.mp bv]at r1;obtain⟨u,rfl,ru⟩:=ip r1;obtain⟨tk0,rfl⟩:=ru;refine call_range_1 ?_;refine iS _ _ _ 0 n 1 _ _ _ n.toNat (λb o e=>ax _ e) (IsRange.new ..) ?_ ?_ (by lia) e1.symm
  ·exact small_one (by decide) (by decide) (by lia) (by lia)
  ·unfold Builtin.Range.rangeSize;rw[if_pos (by decide)]
   split<;>lia
 ·rename_i a b;obtain⟨⟨h0,h1,h2⟩,e1⟩:=aw f2;obtain⟨v1,v2,rfl,bv1,bv2⟩:=kZ b1;rw[au.mp bv1,au.mp bv2]at r1;obtain⟨u1,u2,rfl,N4,S5⟩:=AA r1;obtain⟨k1,rfl⟩:=N4;obtain⟨k2,rfl⟩:=S5;refine call_range_2 ?_;refine iS _ _ _ a b 1 _ _ _ (b-a).toNat (λb o e=>ax _ e) (IsRange.new ..) (small_one (by lia) (by lia) (by lia) (by lia)) (rangeSize_nat a b) (by lia) e1.symm
 ·cases f2
end
def j5(ps:List PV):Option (List Bool):=aT vZ ps
def wL:GC:=λh ps=>match ps with
 | [p]=>(jZ h p).bind λqs=>(j5 qs).map λbs=>.bl (bs.all id)
 | _=>none
def Ko:GC:=λh ps=>match ps with
 | [p]=>(jZ h p).bind λqs=>(j5 qs).map λbs=>.bl (bs.any id)
 | _=>none
section
variable {X:Cx} {aa:Hp} {ab:Fz} {e:Expr} {fe:Gx PV} {pos p:Pos} {m:Nat}
theorem se{K:W.Frag}{F:Fz}:∀{ps:List PV} {ns:List Bool} {vs:List V},j5 ps=some ns->aq K F ps vs->vs=ns.map V.bl
 | [],ns,vs,h,b=>by cases h;exact b.bN
 | p::r,ns,vs,h,b=>by
  obtain⟨i,ms,h1,h2,rfl⟩:=cP h;obtain⟨v,vr,rfl,c,d⟩:=b.bE;rw[jY h1]at c;rw[aQ.mp c,se h2 d];rfl
theorem pW:∀{bs:List Bool} {us:List Value},Vals (bs.map V.bl) us->us=bs.map Value.bool
 | [],_,r=>by cases r;rfl
 | b::bs,_,r=>by
  cases r with
  | cons ra rr =>
   cases ra;rw[pW rr];rfl
theorem CL(bs:List Bool):(List.range bs.length).any (λi=>bs[i]?.getD false)=bs.any id:=by
 rw[lT,tW,tW];refine⟨λ⟨i,hi,h⟩=>?_,λ⟨b,hb,h⟩=>?_⟩
 ·have hi:=dB.mp hi;rw[bB hi]at h;exact⟨_,yh hi,h⟩
 ·obtain⟨i,hi,e⟩:=List.getElem_of_mem hb;refine⟨i,dB.mpr hi,?_⟩;rw[bB hi,e];exact h
theorem pX{ae:List (Addr×Obj)}{s:Shared}{σ τ:St}{H aa:Hp}{ab F:Fz}{st:bU}{us:List Value}{v:V}{p:PV}{qs:List PV}{ns:List Bool}(I:Inv X ae σ H s)(rs:Vals [v] us)(R:Rep X.K aa ab F st τ H)(b:aY X.K F p v)(e1:jZ st.h p=some qs)(e2:j5 qs=some ns) :
  ∃a,us=[.ref a]/\s.heap.IsList a (ns.map Value.bool).toArray/\a≠s.heap.objs.size:=by
 obtain⟨a,vs,rfl,ha,eI⟩:=R.at (dm e1) b;obtain⟨ak,r,pl,_⟩:=I.list (gC.sq ha);have ev:=se e2 eI;subst ev;have ei:=pW r;subst ei;obtain⟨u,rfl,ru⟩:=ip rs;cases ru;refine⟨a,rfl,pl.isList,?_⟩;obtain⟨o,ho,_⟩:=pl.isList;exact aN (az ho)
theorem sj{ns:List Bool}{d:Bool}{i:Nat}{v:Value}{s':Shared}{Q':Bool->Shared->Prop}{E':Value->Shared->Prop}{M:Model}{A:Around}(hP:(ns.map Value.bool).toArray[i]?=some v)(hQ:Q' (ns[i]?.getD d) s'):wpAny M A (truthy v) Q' E' s':=by
 rw[lK,aX]at hP;cases w:ns[i]? with
 | none=>rw[w]at hP;cases hP
 | some bb =>
  rw[w]at hP hQ;cases hP;exact iL hQ
theorem CM(hc:X.A.handled=none):yX X (.builtin "any") Ko:=by
 intro ae s σ H xs us Q I rs ⟨aa,ab,F,st,τ,ps,p,e,R,bs,k⟩;unfold Ko at e;split at e
 ·obtain⟨qs,e1,e⟩:=aE e;obtain⟨ns,e2,rfl⟩:=aL e;obtain⟨v,rfl,b⟩:=cj bs;obtain⟨a,rfl,hL,hne⟩:=pX I rs R b e1 e2;refine call_any_walk (lO hL ?_);refine⟨_,_,_,_,_,_,λi=>ns[i]?.getD false,rfl,Walks.list (A:=X.A.in1) hc s.heap.objs.size a hne _,⟨⟨_,aZ _ rfl,rfl,rfl⟩,yn hL _⟩,λi v s' Q' E' hP hQ=>sj hP hQ,λh' tk hk=>?_⟩
  refine⟨.bl (ns.any id),H,I.kept (t':=tk) λb o e=>?_,?_,k _ H F R (Gr.refl F) (aQ.mpr rfl)⟩
  ·exact hk b o (λhm=>absurd (bc.mp hm▸az e) (dC _)) (ax _ e)
  ·show Value.bool _=_;rw[<-CL ns];simp
 ·cases e
theorem CN(bs:List Bool):(List.range bs.length).all (λi=>bs[i]?.getD true)=bs.all id:=by
 rw[lT,dn,dn];refine⟨λh b hb=>?_,λh i hi=>?_⟩
 ·obtain⟨i,hi,e⟩:=List.getElem_of_mem hb;have:=h i (dB.mpr hi);rw[bB hi,e]at this;exact this
 ·have hi:=dB.mp hi;rw[bB hi];exact h _ (yh hi)
theorem CO(hc:X.A.handled=none):yX X (.builtin "all") wL:=by
 intro ae s σ H xs us Q I rs ⟨aa,ab,F,st,τ,ps,p,e,R,bs,k⟩;unfold wL at e;split at e
 ·obtain⟨qs,e1,e⟩:=aE e;obtain⟨ns,e2,rfl⟩:=aL e;obtain⟨v,rfl,b⟩:=cj bs;obtain⟨a,rfl,hL,hne⟩:=pX I rs R b e1 e2;refine call_all_walk (lO hL ?_);refine⟨_,_,_,_,_,_,λi=>ns[i]?.getD true,rfl,Walks.list (A:=X.A.in1) hc s.heap.objs.size a hne _,⟨⟨_,aZ _ rfl,rfl,rfl⟩,yn hL _⟩,λi v s' Q' E' hP hQ=>sj hP hQ,λh' tk hk=>?_⟩
  refine⟨.bl (ns.all id),H,I.kept (t':=tk) λb o e=>?_,?_,k _ H F R (Gr.refl F) (aQ.mpr rfl)⟩
  ·exact hk b o (λhm=>absurd (bc.mp hm▸az e) (dC _)) (ax _ e)
  ·show Value.bool _=_;rw[<-CN ns];simp
 ·cases e
noncomputable def OG(p:PV):Option (List PV):=match p with
 | .nd .ag ps=>some ps
 | _=>none
def Kp(m:Nat)(fe:Gx PV):Gx PV:=bnd fe λp=>bnd (fB (OG p)) λps=>la m ps
def OH(OE:Gl X "list")(OF:X.mg "list"=none)(he:PE X e (tE X aa ab fe))(hs:∀es,starEach (e::es) X.env=(false,eval e X.env)::starEach es X.env):PE X (.Call (.Name "list" p) [e] [] pos) (tE X aa ab (Kp m fe)):=by
 rintro ae s σ H Q I ⟨F,st,Rp,h⟩
 refine iJ (ld_blt I OE OF (g9 .list) ?_ (by decide) (by decide))
 refine d7 (pF (hs []) ?_) (hs []) rfl;have hA:=he ae s σ H (λv H'=>∃F' bM q,Rep X.K aa ab F' bM σ H'/\aY X.K F' q v/\Tx X aa ab (aY X.K) F' bM (bnd (fB (OG q)) λps=>la m ps) σ Q) I ⟨F,st,Rp,h.bnd λq v F1 st1 H1 R1 g1 b1 h1=>⟨F1,st1,q,R1,b1,h1⟩⟩
 refine thn hA λu s1 z9=>?_
 obtain⟨x,H1,I1,r1,F1,st1,q,R1,b1,h1⟩:=z9;obtain⟨ps,f2,h1⟩:=At.fB (At.bnd h1);obtain rfl:q=.ag ps:=by
  unfold OG at f2;split at f2
  ·cases f2;rfl
  ·cases f2
 obtain⟨a,vs,rfl,ha,eI⟩:=bu.mp b1;cases r1;obtain⟨ak,rv,⟨o,ho,hc,n,hd⟩,hz⟩:=I1.tuple (aS R1.sub ha);refine call_list_seq (hsz:=by rw[bV,<-rv.length];exact hz) a (.inr rfl) ho hc hd λh' c' hk hS=>?_
 exact⟨.ref s1.heap.objs.size,cf H1 s1.heap.objs.size (.lst vs),I1.laid hk (ao _) ⟨hz,ak,c',rv,hS⟩,rfl,Tx.la h1 R1 (I1.hok.fresh (ao _)) eI⟩
def OI(h:List aj)(p q:PV):Option (List PV):=(jZ h p).bind λxs=>(jZ h q).bind λys=>if xs.length+ys.length<=gY then some (xs++ys)else none
def OJ(m:Nat)(fa fb:Gx PV):Gx PV:=bnd fa λp=>bnd fb λq=>bnd (hp λh=>OI h p q) λl=>la m l
def Xe(X:Cx)(aa:Hp)(ab:Fz)(m:Nat):R2:=λx y H Q=>∃F st σ pa pb l,OI st.h pa pb=some l/\Rep X.K aa ab F st σ H/\aY X.K F pa x/\aY X.K F pb y/\Tx X aa ab (aY X.K) F st (la m l) σ Q
def Kr:OpR X (binaryOp .Add) (Xe X aa ab m):=by
 rintro ae s σ H x y v u Q I rx ry ⟨F,st,τ,pa,pb,l,e,R,ba,bb,k⟩
 obtain⟨xs,e1,e⟩:=aE e;obtain⟨ys,e2,e⟩:=aE e;obtain⟨hz,rfl⟩:=aw e;obtain⟨a,vs,rfl,ha,eI⟩:=R.at (dm e1) ba;obtain⟨b,ws,rfl,hb,Ih⟩:=R.at (dm e2) bb;cases rx;cases ry;obtain⟨ak,n,r,e1,z1⟩:=I.kQ ha;obtain⟨cD,n2,r2,e2,z2⟩:=I.kQ hb;have hl:=r.length;have U1:=r2.length;have hz':vs.length+ws.length<=sizeLine:=by rw[<-eI.length,<-Ih.length];exact c9 hz
 refine PySem.P.add_list e1 e2 ?_ (by grind)
 have ea:ak.toArray++cD.toArray=(ak++cD).toArray:=by simp
 rw[ea];exact⟨.ref _,_,I.Nh (r.append r2) (by grind),rfl,Tx.la k R I.fresh (eI.append Ih)⟩
def OK{a b:Expr}{fa fb:Gx PV}(ha:PE X a (tE X aa ab fa))(hb:PE X b (tE X aa ab fb)):PE X (.BinOp a .Add b pos) (tE X aa ab (OJ m fa fb)):=(Lr Kr ha hb).imp λσ H Q ⟨F,st,R,h⟩ =>
 ⟨F,st,R,h.bnd λp v F1 st1 H1 R1 g1 b1 h1=>⟨F1,st1,R1,h1.bnd λq w F2 dw H2 R2 g2 b2 h2=>by
  obtain⟨l,e,z⟩:=At.hp (At.bnd h2);exact⟨F2,dw,σ,p,q,l,e,R2,b1.mono g2,b2,z⟩⟩⟩
def OL(h:List aj)(p:PV)(as:List PV):Option PV:=match as with
 | [q]=>(jZ h p).bind λps=>(toT h fq q).bind λx=>(aT (toT h fq) ps).map λys=>.int (ys.countP λy=>eqT y x:Nat)
 | _=>none
def Ks(p:PV)(as:List PV):Gx PV:=hp λh=>OL h p as
def S6(K:W.Frag):V->List V->Hp->VK->Prop:=λv ws H Q=>∃aa ab F st σ p as o,OL st.h p as=some o/\Rep K aa ab F st σ H/\aY K F p v/\aq K F as ws/\∀u H' F',Rep K aa ab F' st σ H'->Gr F F'->aY K F' o u->Q u H'
theorem Bc{s:Shared}{p:Tr}:∀{ts:List Tr} {us:List Value},bF s ts us->us.countP (jv s p)=ts.countP λy=>eqT y p
 | [],_,b=>by simp only[bF]at b;subst b;rfl
 | q::ts,_,b=>by
  simp only[bF]at b;obtain⟨u,r,rfl,c1,d1⟩:=b;rw[List.countP_cons,List.countP_cons,uD c1,Bc d1]
def OM(hu:X.A.units+1150<cLine):Nc X "list.count" (S6 X.K):=by
 rintro ae s σ H x vs v us Q I rx rv ⟨aa,ab,F,st,τ,p,as,o,e,R,bp,ba,k⟩
 unfold OL at e;split at e
 ·obtain⟨ps,e1,e⟩:=aE e;obtain⟨t,e2,e⟩:=aE e;obtain⟨ts,e3,rfl⟩:=aL e;obtain⟨y,rfl,b⟩:=cj ba;obtain⟨a,ws,rfl,ha,eI⟩:=R.at (dm e1) bp;cases rx;obtain⟨u,rfl,ru⟩:=rv.one;have tp:=R.tree I _ _ _ _ _ e2 b ru;obtain⟨ak,r,pl,_⟩:=I.list (gC.sq ha);obtain⟨h1,h2⟩:=R.trees I _ _ _ _ _ e3 eI r;obtain⟨⟨cls,dd,data,sl⟩,ho,hc,n,hd⟩:=pl.isList;simp only at hc hd;subst hc hd;refine dD PySem.F.slot_list_count ⟨_,ho,rfl⟩ PySem.F.entry_list_count (PySem.F.args_list_count_2 _ _) (SeqAt.list_countAt a ak.toArray n dd sl u (jv s t)) ⟨ho,λy hy=>ny tp h1 (by rw[oj];unfold fq at h2;lia) y (by simpa using hy),?_⟩
  rw[show ak.toArray.toList=ak from rfl,Bc h1]
  exact⟨.int _,H,I.tok _,⟨_,rfl⟩,k _ H F R (Gr.refl F) (au.mpr rfl)⟩
 ·cases e
def ON:SA X (S6 X.K) Ks:=λaa H ab F st σ p as v ws Q h R bp ba=>by
 obtain⟨o,e,z⟩:=At.hp h;exact⟨aa,ab,F,st,σ,p,as,o,e,R,bp,ba,z⟩
def S7{o:Expr}{es:List Expr}{fo:Gx PV}{ts:Gx (List PV)}{kC fW:Pos}(hu:X.A.units+1150<cLine)(ho:PE X o (tE X aa ab fo))(ha:PA X (e::es) (tA X aa ab ts))(f9:attributeBase o "count" X.env (eval o X.env)=eval o X.env)
  (qK:((backTo fW (starEach (e::es) X.env)).all (λx=>!x.1)&&(backToKw fW (keywordEach [] X.env)).all (λx=>x.1.isSome)&&decide ((e::es).length+([]:List Keyword).length+(if([]:List Keyword).isEmpty then 0 else 1)<30))=true)
  (fx:(kC.endLine==fW.line)=true) (kr:starEach (e::es) X.env=(false,eval e X.env)::starEach es X.env) (kJ:(backTo fW (starEach es X.env)).any (·.1)=false):PE X (.Call (.Attribute o "count" kC) (e::es) [] fW) (tE X aa ab (Kb "list" Ks fo ts)) :=
 (o6 nP PySem.F.slot_list_count PySem.F.type_list_count (OM hu) ho ha f9 qK fx kr kJ).imp λ_ _ _ h=>j4 ON h
def Ge:bootBuiltins "all"=some (.builtin "all"):=by kernel_rfl
def Gf:bootBuiltins "any"=some (.builtin "any"):=by kernel_rfl
end
theorem ng{a b:Nat}(h:b<a):@Ne Addr a b:=lW h
structure Zp (h:Heap) (z TI TO i1 i2 l1 l2:Nat) (f0:Value) (k:Nat) (xs ys:Array Value):Prop where
 hz:IsZip h z TI TO f0
 hTI:IsPair h TI (.ref i1) (.ref i2)
 hTO:∃a b,IsPair h TO a b
 s1:SI h i1 l1 k xs
 s2:SI h i2 l2 k ys
 ord:i1<i2/\i2<TI/\TI<TO/\TO<z
 o1:l1<i1
 o2:l2<i1
section
variable {prog:Program} {w:World} {A:Around} {E:Value->Shared->Prop} {s:Shared} {z TI TO i1 i2 l1 l2:Nat} {k:Nat} {xs ys:Array Value}
theorem Be{x y:Value}{Q:Value->Shared->Prop}(Z:Zp s.heap z TI TO i1 i2 l1 l2 .none k xs ys)(hx:xs[k]?=some x)(hy:ys[k]?=some y)
  (hQ:∀h',Zp h' z TI TO i1 i2 l1 l2 (rawInt s.heap.objs.size) (k+1) xs ys->IsPair h' s.heap.objs.size x y->h'.objs.size=s.heap.objs.size+1->(∀c o,c≠z->c≠TO->c≠i1->c≠i2->s.heap.get? c=some o->h'.get? c=some o)->Q (.ref s.heap.objs.size) {s with heap:=h'}) :
  wpAny (model prog w) A (Builtin.«zip.__next__» ⟨[.ref z],[]⟩) (λiS s'=>∃v,iS=.done (.ret v)/\Q v s') E s:=by
 obtain⟨hz,hTI,⟨a,b,hTO⟩,s1,s2,⟨o1,o2,o3,o4⟩,q1,q2⟩:=Z;show wpAny _ _ (field (.ref z) 2 >>= _) _ _ _;refine af (cb hz rfl (x:=.bool false) rfl ?_);show wpAny _ _ (field (.ref z) 3 >>= _) _ _ _;refine af (cb hz rfl (x:=.ref TI) rfl (af (fL hTI rfl ?_)));show wpAny _ _ (Builtin.SmallTypes.ownedTupleIsFree (.ref z) >>= _) _ _ _;refine af ?_;unfold Builtin.SmallTypes.ownedTupleIsFree;refine af (cb hz rfl (x:=.none) rfl (ai ?_));simp only[dE];refine af (iR (af (cb hz rfl (x:=.ref TO) rfl (af (jH hz (by simp) λfQ hz₁ e₁=>?_)))))
 replace hz₁:IsZip fQ z TI TO .ellipsis:=hz₁;refine af ?_;simp only[List.zipIdx_cons,List.zipIdx_nil,oq,t8];refine af (af (ub ?_));show wpAny _ _ (Builtin.SmallTypes.nextOf (.ref i1) >>= _) _ _ _;have lb:SI fQ i1 l1 k xs:=s1.at (λo e=>e₁.extBut _ _ (by first | exact nl (by lia) | exact ng (by lia)) e) (λo e=>e₁.extBut _ _ (by first | exact nl (by lia) | exact ng (by lia)) e)
 refine af (SI.next lb hx λpY wM e₂=>ai ?_)
 have pZ:IsPair pY TO a b:=e₂.extBut _ _ (by first | exact nl (by lia) | exact ng (by lia)) (e₁.extBut _ _ (by first | exact nl (by lia) | exact ng (by lia)) hTO)
 refine af (fL pZ rfl (af (xV pZ λj6 hTO₃ iz=>?_)))
 replace hTO₃:IsPair j6 TO x b:=hTO₃;refine af (lX (ai (af (af (ub ?_)))));show wpAny _ _ (Builtin.SmallTypes.nextOf (.ref i2) >>= _) _ _ _;have wN:SI j6 i2 l2 k ys:=s2.at (λo e=>iz.extBut _ _ (by first | exact nl (by lia) | exact ng (by lia)) (e₂.extBut _ _ (by first | exact nl (by lia) | exact ng (by lia)) (e₁.extBut _ _ (by first | exact nl (by lia) | exact ng (by lia)) e))) (λo e=>iz.extBut _ _ (by first | exact nl (by lia) | exact ng (by lia)) (e₂.extBut _ _ (by first | exact nl (by lia) | exact ng (by lia)) (e₁.extBut _ _ (by first | exact nl (by lia) | exact ng (by lia)) e)))
 refine af (SI.next wN hy λOO S8 e₄=>ai ?_)
 have Gg:IsPair OO TO x b:=e₄.extBut _ _ (by first | exact nl (by lia) | exact ng (by lia)) hTO₃
 refine af (fL Gg rfl (af (xV Gg λi5 hTO₅ zm=>?_)))
 replace hTO₅:IsPair i5 TO x y:=hTO₅;refine af (lX (ai (ai ?_)));refine af (fL hTO₅ rfl (af (wpAny_newTuple ?_)));have hsz:i5.objs.size=s.heap.objs.size:=by rw[zm.1,e₄.1,iz.1,e₂.1,e₁.1]
 have LQ:IsZip i5 z TI TO .ellipsis:=zm.extBut _ _ (by first | exact nl (by lia) | exact ng (by lia)) (e₄.extBut _ _ (by first | exact nl (by lia) | exact ng (by lia)) (iz.extBut _ _ (by first | exact nl (by lia) | exact ng (by lia)) (e₂.extBut _ _ (by first | exact nl (by lia) | exact ng (by lia)) hz₁)))
 have kp:∀c o,c≠z->c≠TO->c≠i1->c≠i2->s.heap.get? c=some o->i5.get? c=some o:=λc o c1 c2 c3 c4 e=>zm.extBut _ _ c2 (e₄.extBut _ _ c4 (iz.extBut _ _ c2 (e₂.extBut _ _ c3 (e₁.extBut _ _ c1 e))))
 have S9:SI i5 i1 l1 (k+1) xs:=wM.at (λo e=>zm.extBut _ _ (by first | exact nl (by lia) | exact ng (by lia)) (e₄.extBut _ _ (by first | exact nl (by lia) | exact ng (by lia)) (iz.extBut _ _ (by first | exact nl (by lia) | exact ng (by lia)) e))) (λo e=>zm.extBut _ _ (by first | exact nl (by lia) | exact ng (by lia)) (e₄.extBut _ _ (by first | exact nl (by lia) | exact ng (by lia)) (iz.extBut _ _ (by first | exact nl (by lia) | exact ng (by lia)) e)))
 have Ta:SI i5 i2 l2 (k+1) ys:=S8.at (λo e=>zm.extBut _ _ (by first | exact nl (by lia) | exact ng (by lia)) e) (λo e=>zm.extBut _ _ (by first | exact nl (by lia) | exact ng (by lia)) e)
 have zlt:z<i5.objs.size:=az LQ;show wpAny _ _ (Builtin.SmallTypes.ownedTupleHandOut (.ref z) (.ref i5.objs.size) >>= _) _ _ _;refine af ?_;unfold Builtin.SmallTypes.ownedTupleHandOut;have Tb:IsZip (i5.push {cls:=.type "tuple",data:=.seq #[x,y]}) z TI TO .ellipsis:=ax _ LQ
 refine af (jH Tb (by simp) λXf Gi e₇=>?_)
 replace Gi:IsZip Xf z TI TO (rawInt i5.objs.size):=Gi;refine jH Gi (by simp) λGj Bf OP=>?_
 replace Bf:IsZip Gj z TI TO (rawInt i5.objs.size):=Bf;have up:∀c o,c≠z->i5.get? c=some o->Gj.get? c=some o:=λc o c1 e=>OP.extBut _ _ c1 (e₇.extBut _ _ c1 (ax _ e))
 have hT₈:IsPair Gj i5.objs.size x y:=OP.extBut _ _ (by first | exact nl (by lia) | exact ng (by lia)) (e₇.extBut _ _ (by first | exact nl (by lia) | exact ng (by lia)) (aZ _ rfl))
 have Zd:Gj.objs.size=i5.objs.size+1:=by rw[OP.1,e₇.1,cQ]
 rw[hsz]at Bf hT₈ Zd;refine ai ⟨_,rfl,?_⟩;show Q (.ref i5.objs.size) _;rw[hsz];refine hQ Gj ⟨Bf,up _ _ (by first | exact nl (by lia) | exact ng (by lia)) (kp _ _ (by first | exact nl (by lia) | exact ng (by lia)) (by first | exact nl (by lia) | exact ng (by lia)) (by first | exact nl (by lia) | exact ng (by lia)) (by first | exact nl (by lia) | exact ng (by lia)) hTI),⟨x,y,up _ _ (by first | exact nl (by lia) | exact ng (by lia)) hTO₅⟩,S9.at (λo e=>up _ o (by first | exact nl (by lia) | exact ng (by lia)) e) (λo e=>up _ o (by first | exact nl (by lia) | exact ng (by lia)) e),Ta.at (λo e=>up _ o (by first | exact nl (by lia) | exact ng (by lia)) e) (λo e=>up _ o (by first | exact nl (by lia) | exact ng (by lia)) e),⟨o1,o2,o3,o4⟩,q1,q2⟩ hT₈ Zd λc o c1 c2 c3 c4 e=>up c o c1 (kp c o c1 c2 c3 c4 e)
theorem Gk{Q:Fin->Shared->Prop}(hh:A.handled=none)(Z:Zp s.heap z TI TO i1 i2 l1 l2 .none k xs ys)(wO:xs[k]?=none\/ys[k]?=none)
  (hE:∀h' e,(∀c o,c≠z->c≠TO->c≠i1->c≠i2->s.heap.get? c=some o->h'.get? c=some o)->(∃o,h'.get? e=some o/\o.cls=.type "StopIteration")->E (.ref e) {s with heap:=h'}):wpAny (model prog w) A (Builtin.«zip.__next__» ⟨[.ref z],[]⟩) Q E s:=by
 obtain⟨hz,hTI,⟨a,b,hTO⟩,s1,s2,⟨o1,o2,o3,o4⟩,q1,q2⟩:=Z;show wpAny _ _ (field (.ref z) 2 >>= _) _ _ _;refine af (cb hz rfl (x:=.bool false) rfl ?_);show wpAny _ _ (field (.ref z) 3 >>= _) _ _ _;refine af (cb hz rfl (x:=.ref TI) rfl (af (fL hTI rfl ?_)));show wpAny _ _ (Builtin.SmallTypes.ownedTupleIsFree (.ref z) >>= _) _ _ _;refine af ?_;unfold Builtin.SmallTypes.ownedTupleIsFree;refine af (cb hz rfl (x:=.none) rfl (ai ?_));simp only[dE];refine af (iR (af (cb hz rfl (x:=.ref TO) rfl (af (jH hz (by simp) λfQ hz₁ e₁=>?_)))))
 replace hz₁:IsZip fQ z TI TO .ellipsis:=hz₁;refine af ?_;simp only[List.zipIdx_cons,List.zipIdx_nil,oq,t8];refine af (af (ub ?_));show wpAny _ _ (Builtin.SmallTypes.nextOf (.ref i1) >>= _) _ _ _;have lb:SI fQ i1 l1 k xs:=s1.at (λo e=>e₁.extBut _ _ (by first | exact nl (by lia) | exact ng (by lia)) e) (λo e=>e₁.extBut _ _ (by first | exact nl (by lia) | exact ng (by lia)) e)
 cases hx:xs[k]? with
 | none =>
  refine af (SI.stop hh lb hx λpY e hs₂ he=>?_)
  obtain⟨oe,OQ,Tc⟩:=he;have LR:IsZip pY z TI TO .ellipsis:=hs₂ _ _ (by first | exact nl (by lia) | exact ng (by lia)) hz₁
  have Xg:e≠z:=λx=>by subst x;rw[LR]at OQ;cases OQ;simp at Tc
  exact jH LR (by simp) λj6 _ hs₃=>hE j6 e (λc o c1 _ c3 _ x=>hs₃.extBut _ _ c1 (hs₂ _ _ c3 (e₁.extBut _ _ c1 x))) ⟨oe,hs₃.extBut _ _ Xg OQ,Tc⟩
 | some x =>
  have hy:ys[k]?=none:=by
   rcases wO with h | h
   ·rw[hx]at h;cases h
   ·exact h
  refine af (SI.next lb hx λpY wM e₂=>ai ?_)
  have pZ:IsPair pY TO a b:=e₂.extBut _ _ (by first | exact nl (by lia) | exact ng (by lia)) (e₁.extBut _ _ (by first | exact nl (by lia) | exact ng (by lia)) hTO)
  refine af (fL pZ rfl (af (xV pZ λj6 hTO₃ iz=>?_)))
  refine af (lX (ai (af (af (ub ?_)))));show wpAny _ _ (Builtin.SmallTypes.nextOf (.ref i2) >>= _) _ _ _;have wN:SI j6 i2 l2 k ys:=s2.at (λo e=>iz.extBut _ _ (by first | exact nl (by lia) | exact ng (by lia)) (e₂.extBut _ _ (by first | exact nl (by lia) | exact ng (by lia)) (e₁.extBut _ _ (by first | exact nl (by lia) | exact ng (by lia)) e))) (λo e=>iz.extBut _ _ (by first | exact nl (by lia) | exact ng (by lia)) (e₂.extBut _ _ (by first | exact nl (by lia) | exact ng (by lia)) (e₁.extBut _ _ (by first | exact nl (by lia) | exact ng (by lia)) e)))
  refine af (SI.stop hh wN hy λOO e LU he=>?_)
  obtain⟨oe,OQ,Tc⟩:=he;have LV:IsZip OO z TI TO .ellipsis:=LU _ _ (by first | exact nl (by lia) | exact ng (by lia)) (iz.extBut _ _ (by first | exact nl (by lia) | exact ng (by lia)) (e₂.extBut _ _ (by first | exact nl (by lia) | exact ng (by lia)) hz₁))
  have Xg:e≠z:=λx=>by subst x;rw[LV]at OQ;cases OQ;simp at Tc
  exact jH LV (by simp) λi5 _ hs₅=>hE i5 e (λc o c1 c2 c3 c4 x=>hs₅.extBut _ _ c1 (LU _ _ c4 (iz.extBut _ _ c2 (e₂.extBut _ _ c3 (e₁.extBut _ _ c1 x))))) ⟨oe,hs₅.extBut _ _ Xg OQ,Tc⟩
theorem wQ(l1 l2:Addr)(xs ys:Array Value)(c1 c2:String) :
  Meets (Builtin.«zip.__new__» ⟨[.type "zip",.ref l1,.ref l2],[]⟩) (λ_ R s=>gK s.heap l1 xs c1/\gK s.heap l2 ys c2 /\
   ∀h1 h2 h3 h4:Heap,h1=s.heap.push {cls:=.type c1,data:=.fields #[.ref l1,.int 0 0]}->h2=h1.push {cls:=.type c2,data:=.fields #[.ref l2,.int 0 0]}->h3=h2.push {cls:=.type "tuple",data:=.seq #[.ref s.heap.objs.size,.ref h1.objs.size]}->h4=h3.push {cls:=.type "tuple",data:=.seq #[.none,.none]} ->
    R (.ok (.ret (.ref h4.objs.size))) {s with heap:=h4.push {cls:=.type "zip",data:=.fields #[.none,.bool false,.bool false,.ref h2.objs.size,.ref h3.objs.size]}}) :=
 .of_wp λprog w A R s h=>by
  obtain⟨hp,g,d,tk,os⟩:=s;obtain⟨OR,U1,h⟩:=h;have uL:=sub_zip;have hL1:gK (Shared.heap ⟨hp,g,d,tk,os⟩) l1 xs c1:=OR;have hL2:gK (Shared.heap ⟨hp.push {cls:=.type c1,data:=.fields #[.ref l1,.int 0 0]},g,d,tk,os⟩) l2 ys c2:=by
   rcases U1 with⟨e,q⟩ | ⟨e,q⟩
   ·exact .inl ⟨e,yn q _⟩
   ·exact .inr ⟨e,Heap.IsTuple.push q _⟩
  wp_walk using jh hL1,jh hL2
  exact⟨_,rfl,h _ _ _ _ rfl rfl rfl rfl⟩
end
def Xh(h:Heap)(z TI TO t:Nat)(f:Bool):Prop:=h.get? z=some {cls:=.type "zip",data:=.fields #[rawInt t,.bool f,.bool false,.ref TI,.ref TO]}
structure Zq (h:Heap) (z TI TO i1 i2 l1 l2 t:Nat) (f:Bool) (k:Nat) (xs ys:Array Value):Prop where
 hz:Xh h z TI TO t f
 hTI:IsPair h TI (.ref i1) (.ref i2)
 s1:SI h i1 l1 k xs
 s2:SI h i2 l2 k ys
 al:∃o,h.get? t=some o
 ord:i1<i2/\i2<TI/\TI<TO/\TO<z/\z<t
 o1:l1<i1
 o2:l2<i1
section
variable {prog:Program} {w:World} {A:Around} {E:Value->Shared->Prop} {s:Shared} {z TI TO i1 i2 l1 l2 t:Nat} {f:Bool} {k:Nat} {xs ys:Array Value}
theorem Zq.at{h h':Heap}(Z:Zq h z TI TO i1 i2 l1 l2 t f k xs ys)(kp:∀b o,b<=z->h.get? b=some o->h'.get? b=some o)(ka:∀o,h.get? t=some o->∃o',h'.get? t=some o'):Zq h' z TI TO i1 i2 l1 l2 t f k xs ys:=by
 obtain⟨hz,hTI,s1,s2,⟨oa,ha⟩,⟨o1,o2,o3,o4,o5⟩,q1,q2⟩:=Z;exact⟨kp _ _ (ao _) hz,kp _ _ (by lia) hTI,s1.at (λo e=>kp _ o (by lia) e) (λo e=>kp _ o (by lia) e),s2.at (λo e=>kp _ o (by lia) e) (λo e=>kp _ o (by lia) e),ka _ ha,⟨o1,o2,o3,o4,o5⟩,q1,q2⟩
theorem Bg{oa:Obj}{Q:Bool->Shared->Prop}(hz:Xh s.heap z TI TO t f)(ha:s.heap.get? t=some oa)(hQ:∀fQ,Xh fQ z TI TO t true->Heap.SameBut z s.heap fQ->Q false {s with heap:=fQ}):wpAny (model prog w) A (Builtin.SmallTypes.ownedTupleIsFree (.ref z)) Q E s:=by
 unfold Builtin.SmallTypes.ownedTupleIsFree;refine af (cb hz rfl (x:=rawInt t) rfl ?_);show wpAny _ _ (loadIfAlive ((t:Int).toNat) >>= _) _ _ _;rw[iM];refine af (W.kdx_alive ha ?_);simp only[Option.isNone_some,cW,cu];refine af (cb hz rfl (x:=.bool f) rfl ?_);cases f with
 | true =>
  rw[if_neg (show ¬((Value.bool true != Value.bool true)=true)from dP)]
  exact ai (hQ _ hz (Heap.SameBut.refl _ _))
 | false =>
  rw[if_pos (show(Value.bool false != Value.bool true)=true from rfl)]
  exact af (jH hz (by simp) λfQ hz₁ e₁=>ai (hQ fQ hz₁ e₁))
theorem Kt{x y:Value}{Q:Value->Shared->Prop}(Z:Zq s.heap z TI TO i1 i2 l1 l2 t f k xs ys)(hx:xs[k]?=some x)(hy:ys[k]?=some y)
  (hQ:∀h',Zq h' z TI TO i1 i2 l1 l2 t true (k+1) xs ys->IsPair h' s.heap.objs.size x y->h'.objs.size=s.heap.objs.size+1->(∀c o,c≠z->c≠i1->c≠i2->s.heap.get? c=some o->h'.get? c=some o)->Q (.ref s.heap.objs.size) {s with heap:=h'}) :
  wpAny (model prog w) A (Builtin.«zip.__next__» ⟨[.ref z],[]⟩) (λiS s'=>∃v,iS=.done (.ret v)/\Q v s') E s:=by
 obtain⟨hz,hTI,s1,s2,⟨oa,ha⟩,⟨o1,o2,o3,o4,o5⟩,q1,q2⟩:=Z;show wpAny _ _ (field (.ref z) 2 >>= _) _ _ _;refine af (cb hz rfl (x:=.bool false) rfl ?_);show wpAny _ _ (field (.ref z) 3 >>= _) _ _ _;refine af (cb hz rfl (x:=.ref TI) rfl (af (fL hTI rfl ?_)));show wpAny _ _ (Builtin.SmallTypes.ownedTupleIsFree (.ref z) >>= _) _ _ _;refine af (Bg hz ha λfQ hz₁ e₁=>?_)
 simp only[cW,cu];refine af ?_;simp only[List.forIn_toArray,oq,t8];refine af (af (cR ?_));show wpAny _ _ (Builtin.SmallTypes.nextOf (.ref i1) >>= _) _ _ _;have lb:SI fQ i1 l1 k xs:=s1.at (λo e=>e₁.extBut _ _ (by first | exact nl (by lia) | exact ng (by lia)) e) (λo e=>e₁.extBut _ _ (by first | exact nl (by lia) | exact ng (by lia)) e)
 refine af (SI.next lb hx λpY wM e₂=>ai ?_)
 refine ai (af (af (cR ?_)));show wpAny _ _ (Builtin.SmallTypes.nextOf (.ref i2) >>= _) _ _ _;have Gn:SI pY i2 l2 k ys:=s2.at (λo e=>e₂.extBut _ _ (by first | exact nl (by lia) | exact ng (by lia)) (e₁.extBut _ _ (by first | exact nl (by lia) | exact ng (by lia)) e)) (λo e=>e₂.extBut _ _ (by first | exact nl (by lia) | exact ng (by lia)) (e₁.extBut _ _ (by first | exact nl (by lia) | exact ng (by lia)) e))
 refine af (SI.next Gn hy λj6 wN iz=>ai ?_)
 refine ai (ai ?_);have hsz:j6.objs.size=s.heap.objs.size:=by rw[iz.1,e₂.1,e₁.1]
 have kp:∀c o,c≠z->c≠i1->c≠i2->s.heap.get? c=some o->j6.get? c=some o:=λc o c1 c2 c3 e=>iz.extBut _ _ c3 (e₂.extBut _ _ c2 (e₁.extBut _ _ c1 e))
 have up:∀c o,c≠i1->c≠i2->fQ.get? c=some o->j6.get? c=some o:=λc o c2 c3 e=>iz.extBut _ _ c3 (e₂.extBut _ _ c2 e)
 refine af (wpAny_newTuple (hsz:=by show 2<=sizeLine;decide) ?_)
 show wpAny _ _ (ret (Value.ref j6.objs.size)) _ _ {s with heap:=j6.push {cls:=.type "tuple",data:=.seq #[x,y]}}
 rw[hsz];refine ai ⟨_,rfl,?_⟩;have Z3:Zq j6 z TI TO i1 i2 l1 l2 t true (k+1) xs ys:=⟨up _ _ (by first | exact nl (by lia) | exact ng (by lia)) (by first | exact nl (by lia) | exact ng (by lia)) hz₁,kp _ _ (by first | exact nl (by lia) | exact ng (by lia)) (by first | exact nl (by lia) | exact ng (by lia)) (by first | exact nl (by lia) | exact ng (by lia)) hTI,wM.at (λo e=>iz.extBut _ _ (by first | exact nl (by lia) | exact ng (by lia)) e) (λo e=>iz.extBut _ _ (by first | exact nl (by lia) | exact ng (by lia)) e),wN,⟨oa,kp _ _ (by first | exact nl (by lia) | exact ng (by lia)) (by first | exact nl (by lia) | exact ng (by lia)) (by first | exact nl (by lia) | exact ng (by lia)) ha⟩,⟨o1,o2,o3,o4,o5⟩,q1,q2⟩
 refine hQ _ (Z3.at (λb o _ e=>ax _ e) λo e=>⟨o,ax _ e⟩) ?_ (by rw[cQ,hsz]) λc o c1 c2 c3 e=>ax _ (kp c o c1 c2 c3 e)
 rw[<-hsz];exact aZ _ rfl
theorem OS{Q:Fin->Shared->Prop}(hh:A.handled=none)(Z:Zq s.heap z TI TO i1 i2 l1 l2 t f k xs ys)(wO:xs[k]?=none\/ys[k]?=none)
  (hE:∀h' e,(∀c o,c≠z->c≠i1->c≠i2->s.heap.get? c=some o->h'.get? c=some o)->(∃o,h'.get? e=some o/\o.cls=.type "StopIteration")->E (.ref e) {s with heap:=h'}):wpAny (model prog w) A (Builtin.«zip.__next__» ⟨[.ref z],[]⟩) Q E s:=by
 obtain⟨hz,hTI,s1,s2,⟨oa,ha⟩,⟨o1,o2,o3,o4,o5⟩,q1,q2⟩:=Z;show wpAny _ _ (field (.ref z) 2 >>= _) _ _ _;refine af (cb hz rfl (x:=.bool false) rfl ?_);show wpAny _ _ (field (.ref z) 3 >>= _) _ _ _;refine af (cb hz rfl (x:=.ref TI) rfl (af (fL hTI rfl ?_)));show wpAny _ _ (Builtin.SmallTypes.ownedTupleIsFree (.ref z) >>= _) _ _ _;refine af (Bg hz ha λfQ hz₁ e₁=>?_)
 simp only[cW,cu];refine af ?_;simp only[List.forIn_toArray,oq,t8];refine af (af (cR ?_));show wpAny _ _ (Builtin.SmallTypes.nextOf (.ref i1) >>= _) _ _ _;have lb:SI fQ i1 l1 k xs:=s1.at (λo e=>e₁.extBut _ _ (by first | exact nl (by lia) | exact ng (by lia)) e) (λo e=>e₁.extBut _ _ (by first | exact nl (by lia) | exact ng (by lia)) e)
 cases hx:xs[k]? with
 | none =>
  refine af (SI.stop hh lb hx λpY e hs₂ he=>?_)
  exact hE pY e (λc o c1 c3 _ x=>hs₂ _ _ c3 (e₁.extBut _ _ c1 x)) he
 | some x =>
  have hy:ys[k]?=none:=by
   rcases wO with h | h
   ·rw[hx]at h;cases h
   ·exact h
  refine af (SI.next lb hx λpY wM e₂=>ai ?_)
  refine ai (af (af (cR ?_)));show wpAny _ _ (Builtin.SmallTypes.nextOf (.ref i2) >>= _) _ _ _;have Gn:SI pY i2 l2 k ys:=s2.at (λo e=>e₂.extBut _ _ (by first | exact nl (by lia) | exact ng (by lia)) (e₁.extBut _ _ (by first | exact nl (by lia) | exact ng (by lia)) e)) (λo e=>e₂.extBut _ _ (by first | exact nl (by lia) | exact ng (by lia)) (e₁.extBut _ _ (by first | exact nl (by lia) | exact ng (by lia)) e))
  refine af (SI.stop hh Gn hy λj6 e hs₃ he=>?_)
  exact hE j6 e (λc o c1 c2 c3 x=>hs₃ _ _ c3 (e₂.extBut _ _ c2 (e₁.extBut _ _ c1 x))) he
end
def ZS(h:Heap)(z TI TO i1 i2 l1 l2 B i:Nat)(xs ys:Array Value):Prop:=(i=0/\Zp h z TI TO i1 i2 l1 l2 .none 0 xs ys)\/(0<i/\∃f,Zq h z TI TO i1 i2 l1 l2 B f i xs ys)
noncomputable def j7(B i:Nat):Array Value:=((List.range i).map λj=>Value.ref (B+j)).toArray
theorem CP(B i:Nat):(j7 B i).push (.ref (B+i))=j7 B (i+1):=by
 unfold j7;rw[yu,bz];simp
theorem sk(B i:Nat):(j7 B i).size=i:=by unfold j7;simp
section
variable {prog:Program} {w:World} {A:Around} {E:Value->Shared->Prop} {s:Shared} {z TI TO i1 i2 l1 l2 B:Nat} {i:Nat} {xs ys:Array Value}
theorem ZS.zip{h:Heap}(Z:ZS h z TI TO i1 i2 l1 l2 B i xs ys):∃o,h.get? z=some o/\o.cls=.type "zip":=by
 rcases Z with⟨_,Z⟩ | ⟨_,f,Z⟩
 ·exact⟨_,Z.hz,rfl⟩
 ·exact⟨_,Z.hz,rfl⟩
theorem ZS.at{h h':Heap}(Z:ZS h z TI TO i1 i2 l1 l2 B i xs ys)(kp:∀b o,b<=z->h.get? b=some o->h'.get? b=some o)(ka:∀o,h.get? B=some o->∃o',h'.get? B=some o'):ZS h' z TI TO i1 i2 l1 l2 B i xs ys:=by
 rcases Z with⟨e,⟨hz,hTI,⟨a,b,hTO⟩,s1,s2,⟨o1,o2,o3,o4⟩,q1,q2⟩⟩ | ⟨e,f,Z⟩
 ·exact .inl ⟨e,⟨kp _ _ (ao _) hz,kp _ _ (by lia) hTI,⟨a,b,kp _ _ (by lia) hTO⟩,s1.at (λo e=>kp _ o (by lia) e) (λo e=>kp _ o (by lia) e),s2.at (λo e=>kp _ o (by lia) e) (λo e=>kp _ o (by lia) e),⟨o1,o2,o3,o4⟩,q1,q2⟩⟩
 ·exact .inr ⟨e,f,Z.at kp ka⟩
theorem Ku{x y:Value}{Q:Option Value->Shared->Prop}(Z:ZS s.heap z TI TO i1 i2 l1 l2 B i xs ys)(hsz:s.heap.objs.size=B+i)(hx:xs[i]?=some x)(hy:ys[i]?=some y)
  (hQ:∀h',ZS h' z TI TO i1 i2 l1 l2 B (i+1) xs ys->IsPair h' (B+i) x y->h'.objs.size=B+(i+1)->(∀c o,c≠z->c≠TO->c≠i1->c≠i2->s.heap.get? c=some o->h'.get? c=some o)->Q (some (.ref (B+i))) {s with heap:=h'}) :
  wpAny (model prog w) A (pyNext (.ref z)) Q E s:=by
 obtain⟨oz,Vd,Xi⟩:=Z.zip;have hT:s.TypeIs (.ref z) "zip":=⟨_,Vd,Xi⟩;have Xj:z<s.heap.objs.size:=az Vd;unfold pyNext;rcases Z with⟨rfl,Z⟩ | ⟨hi,f,Z⟩
 ·refine af (jN (eS (name:=Str.ofString "__next__") hT eY (eX eY hT lQ
   (Be Z hx hy λh' Z' LW Sd kp=>ai ?_) (lM _))))
  obtain⟨hz,hTI,_,s1,s2,⟨o1,o2,o3,o4⟩,q1,q2⟩:=Z';rw[hsz]at LW hz Xj ⊢;refine(hQ h' (.inr ⟨Nat.succ_pos _,false,⟨hz,hTI,s1,s2,⟨_,LW⟩,⟨o1,o2,o3,o4,by lia⟩,q1,q2⟩⟩) LW (by lia) kp)
 ·refine af (jN (eS (name:=Str.ofString "__next__") hT eY (eX eY hT lQ
   (Kt Z hx hy λh' Z' LW Sd kp=>ai ?_) (lM _))))
  rw[hsz]at LW ⊢;exact(hQ h' (.inr ⟨Nat.succ_pos _,true,Z'⟩) LW (by lia) λc o c1 _ c3 c4 e=>kp c o c1 c3 c4 e)
theorem Kv{Q:Option Value->Shared->Prop}(hh:A.handled=none)(Z:ZS s.heap z TI TO i1 i2 l1 l2 B i xs ys)(wO:xs[i]?=none\/ys[i]?=none)
  (hQ:∀h',(∀c o,c≠z->c≠TO->c≠i1->c≠i2->s.heap.get? c=some o->h'.get? c=some o)->Q none {s with heap:=h'}) :
  wpAny (model prog w) A (pyNext (.ref z)) Q E s:=by
 obtain⟨oz,Vd,Xi⟩:=Z.zip;have hT:s.TypeIs (.ref z) "zip":=⟨_,Vd,Xi⟩;unfold pyNext;rcases Z with⟨rfl,Z⟩ | ⟨hi,f,Z⟩
 ·refine af (jN (eS (name:=Str.ofString "__next__") hT eY (eX eY hT lQ (Gk hh Z wO λh' e kp ⟨o,ho,hcl⟩=>?_) (lM _))))
  exact af (tU (T:="StopIteration") (b:=true) ⟨o,ho,hcl⟩ t7 (ai (hQ h' kp)))
 ·refine af (jN (eS (name:=Str.ofString "__next__") hT eY (eX eY hT lQ (OS hh Z wO λh' e kp ⟨o,ho,hcl⟩=>?_) (lM _))))
  exact af (tU (T:="StopIteration") (b:=true) ⟨o,ho,hcl⟩ t7 (ai (hQ h' λc o c1 _ c3 c4 e=>kp c o c1 c3 c4 e)))
end
section
variable {prog:Program} {w:World} {A:Around} {R:Result->Shared->Prop} {z TI TO i1 i2 l1 l2 S B n:Nat} {xs ys:Array Value}
def lg(h:Heap)(B i:Nat)(xs ys:Array Value):Prop:=∀j,j<i->∃x y,xs[j]?=some x/\ys[j]?=some y/\IsPair h (B+j) x y
theorem Kw(hh:A.handled=none)(hn:n=min xs.size ys.size)(Ze:z<S)(Zf:S<B)(ord:i1<z/\i2<z/\TO<z)(res:Value)(Qm:n<=sizeLine) :
  ∀(k i:Nat) (s:Shared) (c:Nat),n-i=k->i<=n->ZS s.heap z TI TO i1 i2 l1 l2 B i xs ys->s.heap.objs.size=B+i->lg s.heap B i xs ys->s.heap.get? S=some {cls:=.type "list",dict:=none,data:=.seq (j7 B i) c,slots:=#[]} ->
  (∀h' c',(∀b o,b≠z->b≠TO->b≠i1->b≠i2->b≠S->s.heap.get? b=some o->h'.get? b=some o)->h'.get? S=some {cls:=.type "list",dict:=none,data:=.seq (j7 B n) c',slots:=#[]}->lg h' B n xs ys->R (.ok (.ret res)) {s with heap:=h'}) ->
  codeAny (model prog w) A (.builtin "list.extend.loop" ⟨[.ref S,.ref z,res],[]⟩) R s:=by
 intro k;induction k with
 | zero =>
  intro i s c hk hi kr hsz hp hS hR;have Ow:i=n:=by lia
  subst Ow;refine iO F.entry_extend_loop ?_;rw[jF tN _];show wpAny _ A.in1 (pyNext (.ref z) >>= _) _ _ s;refine af (Kv (by simp[hh]) kr ?_ λh' kp=>?_)
  ·rcases Nat.le_total xs.size ys.size with q | q
   ·exact .inl (jE (by lia))
   ·exact .inr (jE (by lia))
  ·refine ai (hR h' c (λb o c1 c2 c3 c4 _ e=>kp b o c1 c2 c3 c4 e) (kp S _ (by lia) (by lia) (by lia) (by lia) hS) λj hj=>?_)
   obtain⟨x,y,e1,e2,e3⟩:=hp j hj;exact⟨x,y,e1,e2,kp _ _ (by lia) (by lia) (by lia) (by lia) e3⟩
 | succ k ih =>
  intro i s c hk hi kr hsz hp hS hR;have wx:i<n:=by lia
  have hx:xs[i]?=some (xs[i]'(by lia)):=nN _
  have hy:ys[i]?=some (ys[i]'(by lia)):=nN _
  refine iO F.entry_extend_loop ?_;rw[jF tN _];show wpAny _ A.in1 (pyNext (.ref z) >>= _) _ _ s;refine af (Ku kr hsz hx hy λh' Ga hpr Xk kp=>?_)
  have xF:=kp S _ (by lia) (by lia) (by lia) (by lia) hS
  show wpAny _ A.in1 (updateSeq S (·.push (.ref (B+i))) >>= _) _ _ _;refine af ?_;have Xl:=iG (Obj.mapSeq (·.push (Value.ref (B+i)))) xF rfl;obtain⟨c1,Xl⟩:∃c1,(h'.update S (Obj.mapSeq (·.push (Value.ref (B+i))))).get? S=some {cls:=.type "list",dict:=none,data:=.seq (j7 B (i+1)) c1,slots:=#[]}:=⟨_,by rw[<-CP];exact Xl⟩
  have oth:∀b o,b≠S->h'.get? b=some o->(h'.update S (Obj.mapSeq (·.push (Value.ref (B+i))))).get? b=some o:=λb o hb e=>(iE _ _ (bj hb)).trans e
  refine oy (s:={s with heap:=h'}) xF rfl (ai ⟨jP tN _,ih (i+1) _ c1 (by lia) wx (Ga.at (λb o hb e=>oth b o (by lia) e) λo e=>⟨o,oth _ o (by lia) e⟩) ?_ (λj hj=>?_) ?_ λh2 c2 Sj Xm DO=>?_⟩)
   (by rw[sk];lia) (by show((j7 B i).push _).size<=sizeLine+1;rw[Array.size_push,sk];lia)
  ·show(h'.update S _).objs.size=_;rw[tY];exact Xk
  ·by_cases hji:j=i
   ·subst hji;exact⟨_,_,hx,hy,oth _ _ (by lia) hpr⟩
   ·obtain⟨x,y,e1,e2,e3⟩:=hp j (by lia)
    exact⟨x,y,e1,e2,oth _ _ (by lia) (kp _ _ (by lia) (by lia) (by lia) (by lia) e3)⟩
  ·exact Xl
  ·exact hR h2 c2 (λb o c1 c2 c3 c4 c5 e=>Sj b o c1 c2 c3 c4 c5 (oth b o c5 (kp b o c1 c2 c3 c4 e))) Xm DO
end
theorem zo:typeLookup (.type "zip") "__len__"=pure none:=by rw[tZ,tK];kernel_rfl
theorem wR:typeLookup (.type "zip") "__length_hint__"=pure none:=by rw[tZ,tK];kernel_rfl
section
variable {prog:Program} {w:World} {A:Around} {E:Value->Shared->Prop} {s:Shared} {R:Result->Shared->Prop} {z TI TO i1 i2 l1 l2 S B n:Nat} {xs ys:Array Value}
theorem CQ{c:Nat}(hh:A.handled=none)(hn:n=min xs.size ys.size)(Ze:z<S)(hB:s.heap.objs.size=B)(Zf:S<B)(ord:i1<z/\i2<z/\TO<z)(res:Value)(Qm:n<=sizeLine)
  (Z:Zp s.heap z TI TO i1 i2 l1 l2 .none 0 xs ys) (hS:s.heap.get? S=some {cls:=.type "list",data:=.seq #[] c})
  (hR:∀h' c',(∀b o,b≠z->b≠TO->b≠i1->b≠i2->b≠S->s.heap.get? b=some o->h'.get? b=some o)->h'.get? S=some {cls:=.type "list",dict:=none,data:=.seq (j7 B n) c',slots:=#[]}->lg h' B n xs ys->R (.ok (.ret res)) {s with heap:=h'}) :
  wpAny (model prog w) A.in1 (Builtin.List.listExtendWith (.ref S) (.ref z) res)
   (λiS s'=>match iS with | .done f=>R (.ok f) s' | .again c'=>c'.quiet=true/\codeAny (model prog w) A c' R s') (λe s'=>R (.error e) s') s:=by
 have hT:s.TypeIs (.ref z) "zip":=⟨_,Z.hz,rfl⟩;unfold Builtin.List.listExtendWith;refine af (jS hT ?_);have h1:Builtin.List.listSameRef (.ref S) (.ref z)=false:=by
  have:(S==z)=false:=by simp;lia
  exact this
 have h2:(Value.type "zip"==Value.type "list")=false:=by decide
 have h3:(Value.type "zip"==Value.type "tuple")=false:=by decide
 simp only[h1,h2,h3,Bool.or_false,cW,cu];refine af (yi Z.hz ?_);refine af (cR ?_);unfold Builtin.List.listLengthHint;refine af (wpAny_specialOf hT zo ?_);show wpAny _ A.in1 (specialOf (Value.ref z) (Str.ofString "__length_hint__") >>= _) _ _ _;refine af (wpAny_specialOf hT wR ?_);refine ai ?_;show wpAny _ A.in1 (rule "list.extend.makes-room" >>= λ_=>Builtin.List.listTouch (.ref S) >>= λ_ =>
  again (.builtin "list.extend.loop" ⟨[.ref S,.ref z,res],[]⟩)) _ _ _
 refine af (iR ?_);refine af ?_;show wpAny _ A.in1 (updateSeq S (·.push .none) >>= λ_=>updateSeq S (·.pop)) _ _ _
 refine af (oy hS rfl ?_);have Bh:=iG (Obj.mapSeq (·.push Value.none)) hS rfl;refine oy (hz:=by seq_fits) Bh rfl ?_
 have Td:=iG (Obj.mapSeq (·.pop)) Bh rfl;have oth:∀b o,b≠S->s.heap.get? b=some o->((s.heap.update S (Obj.mapSeq (·.push Value.none))).update S (Obj.mapSeq (·.pop))).get? b=some o :=
  λb o hb e=>(iE _ _ (bj hb)).trans ((iE _ _ (bj hb)).trans e)
 have Z0:ZS s.heap z TI TO i1 i2 l1 l2 B 0 xs ys:=.inl ⟨rfl,Z⟩;refine ai ⟨jP tN _,Kw hh hn Ze Zf ord res Qm n 0 _ _ rfl (fg _) (Z0.at (λb o hb e=>oth b o (by lia) e) λo e=>?_) ?_ (λj hj=>absurd hj (Nat.not_lt_zero _)) Td λh' c' kp xF hp=>?_⟩
 ·have q:=az e;rw[hB]at q;exact absurd q (dC _)
 ·show((s.heap.update S _).update S _).objs.size=_;rw[tY,tY];exact hB
 ·exact hR h' c' (λb o c1 c2 c3 c4 c5 e=>kp b o c1 c2 c3 c4 c5 (oth b o c5 e)) xF hp
theorem qS{Q:Value->Shared->Prop}(hh:A.handled=none)(hn:n=min xs.size ys.size)(Qm:n<=sizeLine)(ord:i1<z/\i2<z/\TO<z)(Z:Zp s.heap z TI TO i1 i2 l1 l2 .none 0 xs ys)
  (hQ:∀h' c',(∀b o,b≠z->b≠TO->b≠i1->b≠i2->s.heap.get? b=some o->h'.get? b=some o)->h'.get? s.heap.objs.size=some {cls:=.type "list",dict:=none,data:=.seq (j7 (s.heap.objs.size+1) n) c',slots:=#[]}->lg h' (s.heap.objs.size+1) n xs ys->Q (.ref s.heap.objs.size) {s with heap:=h'}) :
  wpAny (model prog w) A (call (.type "list") [.ref z]) Q E s:=by
 refine callType_codes (Q₁:=λobj s₁=>obj=.ref s.heap.objs.size/\s₁={s with heap:=s.heap.push {cls:=.type "list",data:=.seq #[]}}) F.called_list (F.typeCall_list_1 _) F.entry_list_init
  (code_list_new _ ⟨rfl,rfl⟩) λobj s₁ fQ=>?_
 obtain⟨rfl,rfl⟩:=fQ;have Xj:z<s.heap.objs.size:=az Z.hz;have hS:(s.heap.push {cls:=.type "list",data:=.seq #[]}).get? s.heap.objs.size=some {cls:=.type "list",data:=.seq #[]}:=aZ _ rfl
 refine⟨⟨_,hS,rfl⟩,F.args_list_init_2 _ _,?_⟩;show wpAny _ _ (do let old <-Builtin.List.listItems (.ref s.heap.objs.size);Builtin.List.listUpdate (.ref s.heap.objs.size) (λ_=>#[]);letGo old.toList.reverse;Builtin.List.listExtendWith (.ref s.heap.objs.size) (.ref z) .none) _ _ _
 refine af ?_;unfold Builtin.List.listItems;refine af (fL hS rfl (ai ?_));show wpAny _ _ (updateSeq s.heap.objs.size (λ_=>#[]) >>= λ_=>letGo (#[]:Array Value).toList.reverse >>= λ_=>Builtin.List.listExtendWith (.ref s.heap.objs.size) (.ref z) .none) _ _ _
 refine af (oy hS rfl ?_);have Bh:=iG (Obj.mapSeq (λ_=>(#[]:Array Value))) hS rfl
 have oth:∀b o,b≠s.heap.objs.size->s.heap.get? b=some o->((s.heap.push {cls:=.type "list",data:=.seq #[]}).update s.heap.objs.size (Obj.mapSeq (λ_=>(#[]:Array Value)))).get? b=some o :=
  λb o hb e=>(iE _ _ (bj hb)).trans (ax _ e)
 refine af (lX ?_);have Z1:ZS ((s.heap.push {cls:=.type "list",data:=.seq #[]}).update s.heap.objs.size (Obj.mapSeq (λ_=>(#[]:Array Value)))) z TI TO i1 i2 l1 l2 0 0 xs ys :=
  ZS.at (h:=s.heap) (.inl ⟨rfl,Z⟩) (λb o hb e=>oth b o (by lia) e) λo e=>⟨o,oth _ o (by lia) e⟩
 rcases Z1 with⟨_,Z1⟩ | ⟨h0,_⟩
 ·refine CQ (A:=A.in1) (by simp[hh]) hn Xj (B:=s.heap.objs.size+1) ?_ (lP _) ord .none Qm Z1 Bh λh' c' kp xF hp=>⟨rfl,?_⟩
  ·show((s.heap.push _).update _ _).objs.size=_;rw[tY,cQ]
  ·exact hQ h' c' (λb o c1 c2 c3 c4 e=>kp b o c1 c2 c3 c4 (aN (az e)) (oth b o (aN (az e)) e)) xF hp
 ·exact absurd h0 (dC _)
end
theorem su{vs:List V}{us:List Value}(r:Vals vs us):∀{i:Nat} {u:Value},us[i]?=some u->∃v,vs[i]?=some v/\RelV v u:=by
 induction r with
 | nil=>intro i u e;simp at e
 | @cons v w vs ws h t ih =>
  intro i u e;cases i with
  | zero=>simp at e;subst e;exact⟨v,rfl,h⟩
  | succ i=>obtain⟨x,h1,h2⟩:=ih (i:=i) (u:=u) (by simpa using e);exact⟨x,by simpa using h1,h2⟩
theorem CS(B n:Nat):Vals ((List.range n).map λj=>V.ref (B+j)) (j7 B n).toList:=by
 unfold j7;induction n with
 | zero=>exact .nil
 | succ n ih =>
  rw[yu,bz,bz];exact ih.append (.cons rfl .nil)
theorem wU{X:Cx}{ae:List (Addr×Obj)}{σ:St}{H1 aa:Hp}{ab F1:Fz}{st:bU}{s:Shared}{B m:Nat}{xs ys:List Value}{vs ws:List V}{ps qs:List PV}(b0:Nat)(YQ:b0<=B)(fo:∀b,b0<=b->H1 b=none/\oR X ae H1 b)(hsz:X.s₀.heap.objs.size<=b0)(I:Inv X ae σ H1 s)(R:Rep X.K aa ab F1 st σ H1)(r1:Vals vs xs)(r2:Vals ws ys)(b1:aq X.K F1 ps vs)(b2:aq X.K F1 qs ws)
  (hp:lg s.heap B m xs.toArray ys.toArray):∀i,i<=m->∃Hi Fi,Inv X ae σ Hi s/\Rep X.K aa ab Fi st σ Hi/\Gr F1 Fi/\aq X.K Fi ((List.zipWith eJ ps qs).take i) ((List.range i).map λj=>V.ref (B+j))/\∀b,b0<=b->(b<B\/B+i<=b)->Hi b=none:=by
 intro i;induction i with
 | zero=>intro _;exact⟨H1,F1,I,R,Gr.refl _,by simp only[List.take_zero,List.range_zero,bL];exact .nil,λb hb _=>(fo b hb).1⟩
 | succ i ih =>
  intro hi;obtain⟨Hi,Fi,Ii,Ri,si,bi,ni⟩:=ih (by lia)
  obtain⟨x,y,e1,e2,e3⟩:=hp i hi;obtain⟨v,ev,rv⟩:∃v,vs[i]?=some v/\RelV v x:=by
   exact su r1 (by simpa using e1)
  obtain⟨w,ew,Jm⟩:∃w,ws[i]?=some w/\RelV w y:=by
   exact su r2 (by simpa using e2)
  obtain⟨p,ep⟩:∃p,ps[i]?=some p:=⟨_,bB (by have:=(b8.mp ev).1;rw[b1.length];exact this)⟩
  obtain⟨v',ev',bp⟩:=b1.get ep;cases bI (ev.symm.trans ev');obtain⟨q,Zg⟩:∃q,qs[i]?=some q:=⟨_,bB (by have:=(b8.mp ew).1;rw[b2.length];exact this)⟩
  obtain⟨w',ew',bq⟩:=b2.get Zg;cases bI (ew.symm.trans ew');have hn:Hi (B+i)=none:=ni (B+i) (by lia) (.inr (ao _))
  obtain⟨_,f2,f3,f4,f5,f6⟩:=(fo (B+i) (by lia)).2
  have I2:=Inv.adopt (D:=B+i) (o:=.ag [v,w]) Ii hn (aM hsz (by lia)) f2 f5 f6 ⟨(by show 2<=sizeLine;decide),[x,y],.cons rv (.cons Jm .nil),⟨_,e3,rfl,⟨0,rfl⟩,rfl⟩⟩
  obtain⟨R2,s2⟩:=Ri.laid (.ag [v,w]) hn;refine⟨_,_,I2,R2,si.trans s2,?_,λb hb hc=>?_⟩
  ·have hz:(List.zipWith eJ ps qs)[i]?=some (eJ p q):=by rw[List.getElem?_zipWith,ep,Zg]
   rw[List.take_succ,hz,yu,bz];exact(bi.mono s2).append (.cons (bu.mpr ⟨B+i,[v,w],rfl,fw.of ar,.cons (bp.mono (si.trans s2)) (.cons (bq.mono (si.trans s2)) .nil)⟩) .nil)
  ·rw[aI (show b≠B+i from λz=>by lia)]
   exact ni b hb (by lia)
def Xn(p q:PV):Option (List PV):=(m6 p).bind λps=>(m6 q).bind λqs=>if(List.zipWith eJ ps qs).length<=gY then some (List.zipWith eJ ps qs)else none
def OT(m:Nat)(fa fb:Gx PV):Gx PV:=bnd fa λp=>bnd fb λq=>bnd (fB (Xn p q)) λl=>la m l
section
variable {X:Cx} {aa:Hp} {ab:Fz} {a b:Expr} {fa fb:Gx PV} {pos p pE zp:Pos} {m:Nat}
def OU(hh:X.A.handled=none)(OE:Gl X "list")(OF:X.mg "list"=none)(hg:Gl X "zip")(hm:X.mg "zip"=none)(ha:PE X a (tE X aa ab fa))(hb:PE X b (tE X aa ab fb))(hs:starEach [a,b] X.env=(false,eval a X.env)::starEach [b] X.env)(xD:starEach [b] X.env=[(false,eval b X.env)]) :
  PE X (.Call (.Name "list" p) [.Call (.Name "zip" zp) [a,b] [] pE] [] pos) (tE X aa ab (OT m fa fb)):=by
 rintro ae s σ H Q I ⟨F,st,Rp,h⟩
 refine iJ (ld_blt I OE OF (g9 .list) ?_ (by decide) (by decide))
 refine d7 (pF rfl ?_) rfl rfl;have hA:=f7 ha (f7 hb oW xD) hs pE ae s σ H (λvs H'=>∃F' bM x y pa pb,vs=[x,y]/\Rep X.K aa ab F' bM σ H'/\aY X.K F' pa x/\aY X.K F' pb y/\Tx X aa ab (aY X.K) F' bM (bnd (fB (Xn pa pb)) λl=>la m l) σ Q) I
  ⟨F,st,Rp,h.bnd λpa v F1 st1 H1 R1 g1 b1 h1=>⟨F1,st1,R1,h1.bnd λpb w F2 dw H2 R2 g2 b2 h2=>⟨F2,dw,v,w,pa,pb,rfl,R2,b1.mono g2,b2,h2⟩⟩⟩
 refine Call_ (ld_blt I hg hm boot_zip (d7 (thn hA λus s1 z9=>?_) hs (by rw[xD];rfl)))
 obtain⟨vs,H1,I1,r1,F1,st1,x,y,pa,pb,ev,R1,b1,b2,hT⟩:=z9;subst ev;obtain⟨l,e,hT⟩:=At.fB (At.bnd hT);obtain⟨ps,f3,e⟩:=aE e;obtain⟨qs,f4,e⟩:=aE e;obtain⟨yT,rfl⟩:=aw e;obtain⟨u1,u2,rfl,N4,S5⟩:=AA r1;obtain⟨c1,l1,Y5,rfl,q1,Qj,k1⟩:=i3 f3 b1;obtain⟨c2,l2,vs2,rfl,q2,Ve,k2⟩:=i3 f4 b2;cases N4;cases S5;obtain⟨ak,v1,J4⟩:=(k1 H1 R1.sub).get I1;obtain⟨cD,v2,Qn⟩:=(k2 H1 R1.sub).get I1;have lt:∀{l:Addr} {xs:Array Value} {c:String},gK s1.heap l xs c->l<s1.heap.objs.size:=λh=>by
  rcases h with⟨_,⟨o,e,_⟩⟩ | ⟨_,⟨o,e,_⟩⟩
  ·exact az e
  ·exact az e
 have Sl:=lt J4;have LC:=lt Qn;refine callType_new PySem.F.called_zip (by decide) (PySem.F.typeCall_zip_2 _ _) (PySem.F.newCall_zip_2 _ _) (λobj=>D1 obj _ _) PySem.F.entry_zip_new (wQ l1 l2 ak.toArray cD.toArray (jw c1) (jw c2)) ⟨J4,Qn,λh1 h2 h3 h4 e1 e2 e3 e4=>?_⟩
 have z1:h1.objs.size=s1.heap.objs.size+1:=by rw[e1];exact cQ ..
 have z2:h2.objs.size=s1.heap.objs.size+2:=by rw[e2,cQ,z1]
 have z3:h3.objs.size=s1.heap.objs.size+3:=by rw[e3,cQ,z2]
 have z4:h4.objs.size=s1.heap.objs.size+4:=by rw[e4,cQ,z3]
 generalize e5:h4.push {cls:=.type "zip",data:=.fields #[.none,.bool false,.bool false,.ref h2.objs.size,.ref h3.objs.size]}=h5
 have z5:h5.objs.size=s1.heap.objs.size+5:=by rw[<-e5,cQ,z4]
 have p1:∀b o,s1.heap.get? b=some o->h1.get? b=some o:=λb o e=>by rw[e1];exact ax _ e
 have p2:∀b o,h1.get? b=some o->h2.get? b=some o:=λb o e=>by rw[e2];exact ax _ e
 have p3:∀b o,h2.get? b=some o->h3.get? b=some o:=λb o e=>by rw[e3];exact ax _ e
 have p4:∀b o,h3.get? b=some o->h4.get? b=some o:=λb o e=>by rw[e4];exact ax _ e
 have p5:∀b o,h4.get? b=some o->h5.get? b=some o:=λb o e=>by rw[<-e5];exact ax _ e
 have pp:∀b o,s1.heap.get? b=some o->h5.get? b=some o:=λb o e=>p5 _ _ (p4 _ _ (p3 _ _ (p2 _ _ (p1 _ _ e))))
 have g5:IsZip h5 h4.objs.size h2.objs.size h3.objs.size .none:=by rw[<-e5];exact aZ _ rfl
 have g4:IsPair h5 h3.objs.size .none .none:=p5 _ _ (by rw[e4];exact aZ _ rfl)
 have g3:IsPair h5 h2.objs.size (.ref s1.heap.objs.size) (.ref h1.objs.size):=p5 _ _ (p4 _ _ (by rw[e3];exact aZ _ rfl))
 have g2:h5.get? h1.objs.size=some {cls:=.type (jw c2),data:=.fields #[.ref l2,.int 0 0]}:=p5 _ _ (p4 _ _ (p3 _ _ (by rw[e2];exact aZ _ rfl)))
 have g1:h5.get? s1.heap.objs.size=some {cls:=.type (jw c1),data:=.fields #[.ref l1,.int 0 0]}:=p5 _ _ (p4 _ _ (p3 _ _ (p2 _ _ (by rw[e1];exact aZ _ rfl))))
 have Zh:∀{c:Bool} {it l:Addr} {xs:Array Value},h5.get? it=some {cls:=.type (jw c),data:=.fields #[.ref l,.int 0 0]}->gK s1.heap l xs (jw c)->SI h5 it l 0 xs:=λ{c it l xs} e k=>by
  cases c with
  | true =>
   rcases k with⟨_,⟨o,eo,r⟩⟩ | ⟨k,_⟩
   ·exact .inl ⟨⟨_,e,rfl,rfl⟩,⟨o,pp _ _ eo,r⟩⟩
   ·exact absurd k (by decide)
  | false =>
   rcases k with⟨k,_⟩ | ⟨_,⟨o,eo,r⟩⟩
   ·exact absurd k (by decide)
   ·exact .inr ⟨⟨_,e,rfl,rfl⟩,⟨o,pp _ _ eo,r⟩⟩
 have Z:Zp h5 h4.objs.size h2.objs.size h3.objs.size s1.heap.objs.size h1.objs.size l1 l2 .none 0 ak.toArray cD.toArray:=⟨g5,g3,⟨_,_,g4⟩,Zh g1 J4,Zh g2 Qn,⟨by lia,by lia,by lia,by lia⟩,Sl,LC⟩
 refine⟨⟨_,g5,rfl⟩,?_⟩;have abi:=Qj.length;have abj:=Ve.length;have vl1:=v1.length;have vl2:=v2.length;have Xo:min ak.toArray.size cD.toArray.size=(List.zipWith eJ ps qs).length:=by rw[List.length_zipWith,bV,bV];lia
 refine qS (s:={s1 with heap:=h5,toks:=s1.toks}) hh Xo.symm (c9 yT) ⟨by lia,by lia,by lia⟩ Z λh' c' kp hS hp=>?_
 have hS:h'.get? h5.objs.size=some {cls:=.type "list",dict:=none,data:=.seq (j7 (h5.objs.size+1) (List.zipWith eJ ps qs).length) c',slots:=#[]}:=hS
 have I2:Inv X ae σ H1 {s1 with heap:=h',toks:=s1.toks}:=I1.kept λb o e=>by
  have hb:@LT.lt Nat _ b s1.heap.objs.size:=az e;exact kp b o (show @Ne Nat _ _ by lia) (show @Ne Nat _ _ by lia) (show @Ne Nat _ _ by lia) (show @Ne Nat _ _ by lia) (pp _ _ e)
 have fo:∀b,s1.heap.objs.size<=b->H1 b=none/\oR X ae H1 b:=λb hb=>⟨I1.hok.fresh hb,I1.um hb (I1.hok.fresh hb)⟩
 obtain⟨Hn,Fn,In,Rn,sn,bn,nn⟩:=wU s1.heap.objs.size (B:=h5.objs.size+1) (by lia) fo I1.sz I2 R1 v1 v2 Qj Ve hp _ (ao _)
 rw[tV]at bn;have Zi:Hn h5.objs.size=none:=nn _ (by lia) (.inl (by lia))
 obtain⟨_,f2,f3,f4',f5,f6⟩:=(fo h5.objs.size (by lia)).2
 have I3:=Inv.adopt (D:=h5.objs.size) (o:=.lst ((List.range (List.zipWith eJ ps qs).length).map λj=>V.ref (h5.objs.size+1+j))) In Zi (aM I1.sz (by lia)) f2 f5 f6
  ⟨by simp only[ah,gm];exact c9 yT,(j7 (h5.objs.size+1) (List.zipWith eJ ps qs).length).toList,c',CS _ _,by simpa using hS⟩
 exact⟨.ref h5.objs.size,_,I3,rfl,Tx.la (Tx.mono hT sn λ_ _ z=>z) Rn Zi bn⟩
end
section
variable {X:Cx}
theorem uP{α:Type}(xs:List α):∀n:Nat,(List.replicate n xs).flatten.length=n*xs.length
 | 0=>by simp
 | n+1=>by rw[dO,gS,bC,uP xs n,Nat.succ_mul,Nat.add_comm]
theorem uQ(ak:List Value):∀(m:Nat) (acc:List Value),List.foldl (λx1 x2=>x1++x2) acc.toArray (List.replicate m ak.toArray)=(acc++(List.replicate m ak).flatten).toArray
 | 0,acc=>by simp
 | m+1,acc=>by
  rw[dO,jK,show acc.toArray++ak.toArray=(acc++ak).toArray by simp,uQ ak m,dO,gS,gR]
theorem p0{xs:List V}{ak:List Value}(r:Vals xs ak):∀n:Nat,Vals (List.replicate n xs).flatten (List.replicate n ak).flatten
 | 0=>.nil
 | n+1=>by rw[dO,dO,gS,gS];exact r.append (p0 r n)
theorem uR{K:W.Frag}{F:Fz}{ps:List PV}{vs:List V}(r:aq K F ps vs):∀n:Nat,aq K F (List.replicate n ps).flatten (List.replicate n vs).flatten
 | 0=>.nil
 | n+1=>by rw[dO,dO,gS,gS];exact r.append (uR r n)
def Tf(K:W.Frag):R2:=λx y H Q=>∃l k xs,x=.ref l/\y=.int k/\gC K H l xs /\ -(2^63)<=k/\k<2^63/\xs.length*k.toNat<=sizeLine /\
 ∀p,H p=none->Q (.ref p) (cf H p (.lst (List.replicate k.toNat xs).flatten))
theorem Kx:OpR X (binaryOp .Mult) (Tf X.K):=by
 intro ae s σ H x y v u Q I rx ry h;obtain⟨l,k,xs,rfl,rfl,hH,h1,h2,hz,q⟩:=h;cases rx;obtain⟨t,rfl⟩:=ry;obtain⟨ak,n,r,e,z⟩:=I.kQ hH;have hl:=r.length;have dj:ak.toArray.size*k.toNat<=sizeLine:=by rw[bV,<-hl];exact hz
 have Xp:¬ak.toArray.size*k.toNat>(2^63-1)/8:=by
  have:(sizeLine:Nat)<=(2^63-1)/8:=by decide
  lia
 have RY:¬(!Builtin.List.listFitsIndex k)=true:=by
  rw[fitsIndex_both h1 h2];exact dP
 have Th:¬Builtin.List.listTooLong (ak.toArray.size*k.toNat)=true:=by
  rw[vU dj];exact dP
 have pP:List.foldl (λx1 x2=>x1++x2) #[] (List.replicate (if ak.toArray.isEmpty=true then 0 else k.toNat) ak.toArray)=(List.replicate k.toNat ak).flatten.toArray:=by
  have f0:∀m:Nat,List.foldl (λx1 x2=>x1++x2) #[] (List.replicate m ak.toArray)=(List.replicate m ak).flatten.toArray:=λm=>by
   have:=uQ ak m [];rw[dS]at this;exact this
  rw[f0];cases ak with
  | nil=>simp
  | cons a r'=>rw[if_neg (by simp)]
 refine wpAny_binaryOp_repeat_ref (T:="list") (U:="int") (by decide) ⟨_,e,rfl⟩ (λs'=>oJ s' k t) noFill_list_mul F.fills_int_mul F.slot_int_rmul repeat_list F.slot_int_index.lookup
  (dD F.slot_int_rmul (oJ s k t) F.entry_int_rmul (F.args_int_rmul_2 _ _) (int___rmul___int_list k t l ak.toArray n)
   ⟨e,rfl,⟨_,e,rfl⟩,dD F.slot_list_mul ⟨_,e,rfl⟩ F.entry_list_mul (F.args_list_mul_2 _ _) (AutoListH.list___mul___list_int_3 l ak.toArray n k t RY Xp Th) ⟨e,?_⟩⟩)
 rw[pP];exact⟨.ref _,_,I.Nh (t':=s.toks) (p0 r k.toNat) (by rw[uP,Nat.mul_comm];exact hz),rfl,q _ I.fresh⟩
theorem CU:fillsNumberSlot (.type "tuple") "mul"=pure false:=PySem.fillsNumberSlot_seq (id:="tuple.__mul__") (r:=some (.builtin "tuple.__rmul__")) F.slot_tuple_mul.lookup (by decide +kernel) F.slot_tuple_rmul.lookup (by decide +kernel)
theorem OW:seqRepeat? (.type "tuple")=pure (some (.builtin "tuple.__mul__")):=by
  unfold seqRepeat?;rw[PySem.seqSlot_of (T:="tuple") (name:="__mul__") (id:="tuple.__mul__") F.slot_tuple_mul.lookup (by decide +kernel),PySem.seqSlot_of (T:="tuple") (name:="__rmul__") (id:="tuple.__rmul__") F.slot_tuple_rmul.lookup (by decide +kernel)]
  rfl
theorem Kz(a:Int)(t:Tok)(l:Addr)(items:Array Value)(n:Nat)(Ki:Option Addr)(sl:Array (Option Value)) :
    Meets (Builtin.«int.__rmul__» ⟨[.int a t,.ref l],[]⟩) (λ_ R s=>s.heap.get? l=some {cls:=.type "tuple",dict:=Ki,data:=.seq items n,slots:=sl}/\R (.ok (.ret Value.notImplemented)) s) :=
  .of_wp λprog w A R s h=>by
    obtain⟨hp,g,d,tk,os⟩:=s;obtain⟨hl,h⟩:=h
    wp_walk
    exact⟨_,rfl,h⟩
theorem OX(l:Addr)(items:Array Value)(n:Nat)(u:Tok)(Ki:Option Addr)(sl:Array (Option Value)) :
    Meets (Builtin.«tuple.__mul__» ⟨[.ref l,.int 1 u],[]⟩) (λ_ R s=>s.heap.get? l=some {cls:=.type "tuple",dict:=Ki,data:=.seq items n,slots:=sl}/\R (.ok (.ret (.ref l))) s) :=
  .of_wp λprog w A R s h=>by
    obtain⟨hp,g,d,tk,os⟩:=s;obtain⟨hl,h⟩:=h
    wp_walk
    exact⟨_,rfl,h⟩
theorem KA(l:Addr)(items:Array Value)(n:Nat)(x:Int)(u:Tok)(Ki:Option Addr)(sl:Array (Option Value))(h2:2<=x)(h3:x<=1000)(ne:items.isEmpty=false)(hz:items.size<=1000) :
    Meets (Builtin.«tuple.__mul__» ⟨[.ref l,.int x u],[]⟩) (λ_ R s=>s.heap.get? l=some {cls:=.type "tuple",dict:=Ki,data:=.seq items n,slots:=sl}/\R (.ok (.ret (.ref s.heap.objs.size))) {s with heap:=s.heap.push {cls:=.type "tuple",data:=.seq (List.foldl (λx1 x2=>x1++x2) #[] (List.replicate x.toNat items))}}) :=
  .of_wp λprog w A R s h=>by
    obtain⟨hp,g,d,tk,os⟩:=s;obtain⟨hl,h⟩:=h;have hx:(items.size:Int)*x<=1000*1000:=by
      have h0:(0:Int)<=items.size:=Int.natCast_nonneg _;have h1:(items.size:Int)<=1000:=by lia
      exact Int.mul_le_mul h1 h3 (by lia) (by lia)
    have hsz:(List.foldl (λx1 x2=>x1++x2) #[] (List.replicate x.toNat items)).size<=sizeLine:=by
      rw[AutoListH.size_joined,jT];have h4:x.toNat*items.size<=1000*1000:=t9 (by lia) hz
      simp
      lia
    wp_walk
    refine ot (aV ?_) ?_
    · simp
      lia
    wp_walk
    refine ot (aV ?_) ?_
    · rw[ne]
      simp
      lia
    wp_walk
    refine ot (aV ?_) ?_
    · rw[ne]
      simp
      lia
    wp_walk
    refine ot (aV ?_) ?_
    · lia
    wp_walk
    refine ot (aV ?_) ?_
    · unfold Builtin.Tuple.tupleTooMany
      rw[jT];simp
      lia
    wp_walk
    exact⟨_,rfl,h⟩
theorem KC(l:Addr)(items:Array Value)(n:Nat)(u:Tok)(Ki:Option Addr)(sl:Array (Option Value))(ne:items.isEmpty=false) :
  Meets (Builtin.«tuple.__mul__» ⟨[.ref l,.int 0 u],[]⟩) (λ_ R s=>s.heap.get? l=some {cls:=.type "tuple",dict:=Ki,data:=.seq items n,slots:=sl}/\R (.ok (.ret (.ref s.heap.objs.size))) {s with heap:=s.heap.push {cls:=.type "tuple",data:=.seq #[]}}) :=
 .of_wp λprog w A R s h=>by
  obtain⟨hp,g,d,tk,os⟩:=s;obtain⟨hl,h⟩:=h
  wp_walk
  exact⟨_,rfl,h⟩
theorem OY{xs:List PV}{j:Int}(h1:0<=j)(h2:j<=1000)(h3:1<=xs.length)(h4:xs.length<=100){ae:List (Addr×Obj)}{s:Shared}{σ τ:St}{H aa:Hp}{ab F:Fz}{st:bU}{x y:V}{v u:Value}{Q:V->Hp->Prop}(I:Inv X ae σ H s)(rx:RelV x v)(ry:RelV y u)(R:Rep X.K aa ab F st τ H)(ba:aY X.K F (.ag xs) x)(bb:aY X.K F (.int j) y)
    (k:∀v' H' F',Rep X.K aa ab F' st τ H'->Gr F F'->aY X.K F' (.ag (List.replicate j.toNat xs).flatten) v'->Q v' H'):wpAny (model X.prog X.w) X.A (binaryOp .Mult v u) (EP X ae σ Q) X.xe s:=by
  obtain⟨a,vs,rfl,ha,eI⟩:=bu.mp ba;rw[au.mp bb]at ry;cases rx;obtain⟨t,rfl⟩:=ry;obtain⟨ak,r,pl,_⟩:=I.tuple (aS R.sub ha);obtain⟨⟨cls,dd,data,sl⟩,e,hc,n,hd⟩:=id pl;simp only at hc hd;subst hc hd;have hl:=r.length;have hxl:=eI.length;refine wpAny_binaryOp_repeat_ref (T:="tuple") (U:="int") (by decide) ⟨_,e,rfl⟩ (λs'=>oJ s' j t) CU PySem.F.fills_int_mul PySem.F.slot_int_rmul OW PySem.F.slot_int_index.lookup
    (dD PySem.F.slot_int_rmul (oJ s j t) PySem.F.entry_int_rmul (PySem.F.args_int_rmul_2 _ _) (Kz j t a ak.toArray n dd sl) ⟨e,rfl,⟨_,e,rfl⟩,?_⟩)
  have nt:ak.toArray.isEmpty=false:=by
    cases ak with
    | nil=>rw[oB]at hl;lia
    | cons _ _=>simp
  by_cases Xq:j=0
  · subst Xq
    refine dD xR ⟨_,e,rfl⟩ xM (xK _ _) (KC a ak.toArray n t dd sl nt) ⟨e,?_⟩;obtain⟨R2,s2⟩:=R.laid (.ag []) I.fresh;exact⟨.ref s.heap.objs.size,_,I.laid (t':=s.toks) (o:=.ag []) (λb ob q=>ax _ q) (ao _) ⟨fg _,[],.nil,mV.new _ _⟩,rfl,k _ _ _ R2 s2 (bu.mpr ⟨_,_,rfl,fw.of ar,.nil⟩)⟩
  by_cases hj:j=1
  · subst hj
    refine dD xR ⟨_,e,rfl⟩ xM (xK _ _) (OX a ak.toArray n t dd sl) ⟨e,?_⟩;refine⟨.ref a,H,I,rfl,k _ H F R (Gr.refl F) ?_⟩;simpa using ba
  · refine dD xR ⟨_,e,rfl⟩ xM (xK _ _) (KA a ak.toArray n j t dd sl (by lia) h2 nt (by rw[bV];lia)) ⟨e,?_⟩
    have pP:List.foldl (λx1 x2=>x1++x2) #[] (List.replicate j.toNat ak.toArray)=(List.replicate j.toNat ak).flatten.toArray:=by
      have:=uQ ak j.toNat [];rw[dS]at this;exact this
    rw[pP];obtain⟨R2,s2⟩:=R.laid (.ag (List.replicate j.toNat vs).flatten) I.fresh;have dj:(List.replicate j.toNat vs).flatten.length<=sizeLine:=by
      rw[uP,jT];have:j.toNat*vs.length<=1000*100:=t9 (by lia) (by lia)
      lia
    exact⟨.ref s.heap.objs.size,_,I.laid (t':=s.toks) (o:=.ag (List.replicate j.toNat vs).flatten) (λb ob q=>ax _ q) (ao _) ⟨dj,_,p0 r j.toNat,mV.new _ _⟩,rfl,k _ _ _ R2 s2 (bu.mpr ⟨_,_,rfl,fw.of ar,(uR eI j.toNat).mono s2⟩)⟩
def OZ{x':Str}{j:Int}(h1:2<=j)(h2:j<=100)(h3:1<=x'.length)(h4:x'.length<=100){ae:List (Addr×Obj)}{s:Shared}{σ τ:St}{H aa:Hp}{ab F:Fz}{st:bU}{x y:V}{v u:Value}{Q:V->Hp->Prop}(I:Inv X ae σ H s)(rx:RelV x v)(ry:RelV y u)(R:Rep X.K aa ab F st τ H)(ba:aY X.K F (.str x') x)(bb:aY X.K F (.int j) y)
 (k:∀v' H' F',Rep X.K aa ab F' st τ H'->Gr F F'->aY X.K F' (.str (Txt.mul x' j)) v'->Q v' H'):wpAny (model X.prog X.w) X.A (binaryOp .Mult v u) (EP X ae σ Q) X.xe s:=by
 rw[au.mp bb]at ry;rw[bh.mp ba]at rx;obtain⟨t,rfl⟩:=rx;obtain⟨t',rfl⟩:=ry;refine SB.mul ⟨by simp;lia,λ_ _=>?_,λ_ _=>?_⟩ λt' m=>⟨.str _,H,I.kept (t':=m) (λ_ _ e=>e),⟨t',rfl⟩,k _ H F R (Gr.refl F) (bh.mpr rfl)⟩
 ·have:100<=(2^63-1:Int)/j:=by
   rw[Int.le_ediv_iff_mul_le (by lia)]
   lia
  lia
 ·unfold Builtin.Str.tooLong;have:x'.length*j.toNat<=100*100:=t9 h4 (by lia)
  exact aV (Nat.not_lt.mpr (aM this (by decide)))
def Xr(h:List aj)(p:PV)(j:Int):Option (List PV):=(jZ h p).bind λxs=>if(-1000<=j/\j<=1000/\xs.length<=100)then some (List.replicate j.toNat xs).flatten else none
def fY:G2:=λh p q=>match p,q with
 | .int i,.int j=>if((-qM<i/\i<qM)\/(-qM<j/\j<qM))then some (.int (i*j))else none
 | .nd .ag xs,.int j=>if(0<=j/\j<=1000/\1<=xs.length/\xs.length<=100)then some (.ag (List.replicate j.toNat xs).flatten)else none
 | .str x,.int j=>if(2<=j/\j<=100/\1<=x.length/\x.length<=100)then some (.str (Txt.mul x j))else none
 | p,.int j=>(Xr h p j).map .lst
 | _,_=>none
theorem O0{xs:List PV}{vs:List V}{F:Fz}{j:Int}(h:-1000<=j/\j<=1000/\xs.length<=100)(b:aq X.K F xs vs):-(2^63)<=j/\j<2^63/\vs.length*j.toNat<=sizeLine:=by
 refine⟨by lia,by lia,?_⟩
 have:=b.length;rw[jT];have:vs.length*j.toNat<=100*1000:=t9 (by lia) (by lia)
 lia
theorem Gp:qC X (binaryOp .Mult) fY:=by
 intro ae s σ H x y v u Q I rx ry ⟨aa,ab,F,st,τ,pa,pb,p,e,R,ba,bb,k⟩;unfold fY at e;split at e
 ·rename_i i j;obtain⟨hc,rfl⟩:=aw e;exact AM (op:=.Mult) (g:=NC) rfl ae s σ H x y v u Q I rx ry ⟨aa,ab,F,st,τ,.int i,.int j,.int (i*j),(show(if decide ((-qM<i/\i<qM)\/(-qM<j/\j<qM))=true then some (PV.int (i*j))else none)=_ from if_pos (aP hc)),R,ba,bb,k⟩
 ·obtain⟨⟨h1,h2,h3,h4⟩,rfl⟩:=aw e;exact OY h1 h2 h3 h4 I rx ry R ba bb k
 ·obtain⟨⟨h1,h2,h3,h4⟩,rfl⟩:=aw e;exact OZ h1 h2 h3 h4 I rx ry R ba bb k
 ·obtain⟨qs,e1,rfl⟩:=aL e;obtain⟨xs,e2,e1⟩:=aE e1;obtain⟨hc,rfl⟩:=aw e1;obtain⟨a,vs,rfl,ha,eI⟩:=R.at (dm e2) ba;obtain⟨c1,c2,c3⟩:=O0 hc eI;refine Kx ae s σ H _ y v u Q I rx ry ⟨a,_,vs,rfl,au.mp bb,ha,c1,c2,c3,λp hp=>?_⟩
  obtain⟨R2,s2⟩:=R.laid (.lst (List.replicate _ vs).flatten) hp;exact k _ _ _ R2 s2 (cJ.mpr ⟨p,_,rfl,gC.of ar,(uR eI _).mono s2⟩)
 ·cases e
def KD(op:Operator):Option G2:=match op with
 | .Mult=>some fY
 | op=>NF op
theorem Gq{op:Operator}{g:G2}(h:KD op=some g):qC X (binaryOp op) g:=by
 cases op<;>first | (cases h;exact Gp) | exact AM h
end
def Zj(K:W.Frag)(c1 c2:Bool)(l1 l2:Addr):It where
 go:=λi H=>∃vs ws v w,qE K H c1 l1 vs/\qE K H c2 l2 ws/\vs[i]?=some v/\ws[i]?=some w
 yld:=λi H x H'=>∃T v w,H T=none/\x=.ref T/\H'=cf H T (.ag [v,w])/\∀vs ws,qE K H c1 l1 vs->qE K H c2 l2 ws->vs[i]?=some v/\ws[i]?=some w
 stop:=λi H=>∃vs ws,qE K H c1 l1 vs/\qE K H c2 l2 ws/\(vs.length<=i\/ws.length<=i)
def zTn(z TI TO i1 i2 l1 l2:Nat)(c1 c2:Bool)(i:Nat)(h:Heap):Prop:=IsZip h z TI TO .none/\IsPair h TI (.ref i1) (.ref i2)/\(∃a b,IsPair h TO a b)/\DN h c1 i1 l1 i/\DN h c2 i2 l2 i
theorem Gs{P:Program}{w:World}{K:W.Frag}{elts:List Expr}{x1:Nat}{B9:Pos}{z TI TO i1 i2 l1 l2:Nat}{c1 c2:Bool}(ord:i1<i2/\i2<TI/\TI<TO/\TO<z)(o1:l1<i1)(o2:l2<i1) :
  Turn P w K (.Tuple elts x1 B9) (Zj K c1 c2 l1 l2) [z,TI,TO,i1,i2] z (zTn z TI TO i1 i2 l1 l2 c1 c2) where
 mem:=cz
 obj:=by
  rintro i h ⟨a1,a2,⟨_,_,a3⟩,a4,a5⟩ b hb
  simp only[aF,bf,bg]at hb;rcases hb with rfl | rfl | rfl | rfl | rfl
  ·exact⟨_,a1,λv=>by simp⟩
  ·exact⟨_,a2,λv=>by simp⟩
  ·exact⟨_,a3,λv=>by simp⟩
  ·exact a4.obj
  ·exact a5.obj
 keep:=λi h h' ⟨a1,a2,⟨p,q,a3⟩,a4,a5⟩ k=>⟨k z (by simp) _ a1,k TI (by simp) _ a2,⟨p,q,k TO (by simp) _ a3⟩,a4.at λo e=>k i1 (by simp) o e,a5.at λo e=>k i2 (by simp) o e⟩
 item:=by
  rintro X hP hw hK hc i ae s σ H E I hf ⟨a1,a2,a3,a4,a5⟩ ⟨vs,ws,v,w',hv,Vf,ev,ew⟩
  subst hP hw hK;obtain⟨ak,r1,k1⟩:=hv.get I;obtain⟨cD,r2,k2⟩:=Vf.get I;obtain⟨x,ex,rx⟩:=r1.get ev;obtain⟨y,ey,ry⟩:=r2.get ew;have Z:Zp s.heap z TI TO i1 i2 l1 l2 .none i ak.toArray cD.toArray:=⟨a1,a2,a3,rX a4 k1,rX a5 k2,ord,o1,o2⟩;have hT:s.TypeIs (.ref z) "zip":=⟨_,a1,rfl⟩;unfold pyNext;refine af (jN (eS (name:=Str.ofString "__next__") hT eY (eX eY hT lQ
   (Be Z (by simpa using ex) (by simpa using ey) λh' Z' LW Sd kp=>ai ⟨_,rfl,?_⟩) (lM _))))
  refine wpAny_letOwnedTupleGo_zip Z'.hz λN2 Xs sb=>?_
  have Si:∀b∈[z,TI,TO,i1,i2],b<s.heap.objs.size:=λb hb=>by
   simp only[aF,bf,bg]at hb;have h1:=az a1;have h2:z<s.heap.objs.size:=h1;obtain⟨q1,q2,q3,q4⟩:=ord;rcases hb with rfl | rfl | rfl | rfl | rfl<;>lia
  have zT:z≠s.heap.objs.size:=aN (Si z (by simp))
  have Sj:∀b o,b∉[z,TI,TO,i1,i2]->s.heap.get? b=some o->N2.get? b=some o:=λb o hb e=>by
   simp only[aF,bf,bg,not_or]at hb;exact sb.extBut _ _ hb.1 (kp b o hb.1 hb.2.2.1 hb.2.2.2.1 hb.2.2.2.2 e)
  have I1:Inv X ae σ H {s with heap:=N2,toks:=s.toks}:=Inv.turns I hf Sj
  have hn:H s.heap.objs.size=none:=I.fresh;have J0:=I.um (H':=H) (ao _) hn;have pr:IsPair N2 s.heap.objs.size x y:=sb.extBut _ _ (bj zT) LW;have I2:=Inv.adopt (D:=s.heap.objs.size) (o:=.ag [v,w']) I1 hn (by
    rcases J0.2.2.2.1 with q | q
    ·exact I.sz
    ·exact q) J0.2.1 J0.2.2.2.2.1 J0.2.2.2.2.2 ⟨(by show 2<=sizeLine;decide),[x,y],.cons rx (.cons ry .nil),⟨_,pr,rfl,⟨0,rfl⟩,rfl⟩⟩
  refine⟨.ref s.heap.objs.size,_,I2,rfl,⟨s.heap.objs.size,v,w',hn,rfl,rfl,λwo ws' h1 h2=>?_⟩,⟨Xs,sb.extBut _ _ (by first | exact nl (by lia) | exact ng (by lia)) Z'.hTI,?_,?_,?_⟩,λb hb=>?_⟩
  ·rw[<-qE.inj I hv h1,<-qE.inj I Vf h2];exact⟨ev,ew⟩
  ·obtain⟨p,q,e⟩:=Z'.hTO;exact⟨p,q,sb.extBut _ _ (by first | exact nl (by lia) | exact ng (by lia)) e⟩
  ·have q:=uK (k':=i) Z'.s1 k1 λo e=>kp l1 o (by first | exact nl (by lia) | exact ng (by lia)) (by first | exact nl (by lia) | exact ng (by lia)) (by first | exact nl (by lia) | exact ng (by lia)) (by first | exact nl (by lia) | exact ng (by lia)) e
   exact q.at λo e=>sb.extBut _ _ (by first | exact nl (by lia) | exact ng (by lia)) e
  ·have q:=uK (k':=i) Z'.s2 k2 λo e=>kp l2 o (by first | exact nl (by lia) | exact ng (by lia)) (by first | exact nl (by lia) | exact ng (by lia)) (by first | exact nl (by lia) | exact ng (by lia)) (by first | exact nl (by lia) | exact ng (by lia)) e
   exact q.at λo e=>sb.extBut _ _ (by first | exact nl (by lia) | exact ng (by lia)) e
  ·rw[aI (aN (Si b hb))];exact(hf b hb).1
 done:=by
  rintro X hP hw hK hc i ae s σ H E I hf ⟨a1,a2,a3,a4,a5⟩ ⟨vs,ws,hv,Vf,he⟩
  subst hP hw hK;obtain⟨ak,r1,k1⟩:=hv.get I;obtain⟨cD,r2,k2⟩:=Vf.get I;have Z:Zp s.heap z TI TO i1 i2 l1 l2 .none i ak.toArray cD.toArray:=⟨a1,a2,a3,rX a4 k1,rX a5 k2,ord,o1,o2⟩;have hT:s.TypeIs (.ref z) "zip":=⟨_,a1,rfl⟩;have wO:ak.toArray[i]?=none\/cD.toArray[i]?=none:=by
   rcases he with q | q
   ·exact .inl (jE (by rw[bV,<-r1.length];exact q))
   ·exact .inr (jE (by rw[bV,<-r2.length];exact q))
  unfold pyNext;refine af (jN (eS (name:=Str.ofString "__next__") hT eY (eX eY hT lQ (Gk (I.ok.hd hc) Z wO λh' e kp ⟨o,ho,hcl⟩=>?_) (lM _))))
  refine af (tU (T:="StopIteration") (b:=true) ⟨o,ho,hcl⟩ t7 (ai ⟨rfl,?_⟩));exact Inv.turns (t':=s.toks) I hf λb o hb e=>by
   simp only[aF,bf,bg,not_or]at hb;exact kp b o hb.1 hb.2.2.1 hb.2.2.2.1 hb.2.2.2.2 e
 self:=λA i s Q E ⟨a1,_⟩ q=>yi a1 q
theorem Gu{K:W.Frag}{F:Fz}{c1 c2:Bool}{l1 l2:Addr}{ps qs:List PV}{vs ws:List V}(k1:∀F',b7 F.F F'->qE K F' c1 l1 vs)(k2:∀F',b7 F.F F'->qE K F' c2 l2 ws)(b1:aq K F ps vs)(b2:aq K F qs ws):Walk K F (List.zipWith eJ ps qs) (Zj K c1 c2 l1 l2):=by
 intro aa ab F' ρ σ H R s i;have h1:=k1 H (s.s.trans R.sub);have h2:=k2 H (s.s.trans R.sub);refine⟨λp e=>?_,λe=>?_⟩
 ·rw[List.getElem?_zipWith]at e;cases z1:ps[i]? with
  | none=>rw[z1]at e;cases e
  | some p1 =>
   cases z2:qs[i]? with
   | none=>rw[z1,z2]at e;cases e
   | some p2 =>
    rw[z1,z2]at e;cases e;obtain⟨v,e1,N3⟩:=b1.get z1;obtain⟨w,e2,c2'⟩:=b2.get z2;refine⟨⟨vs,ws,v,w,h1,h2,e1,e2⟩,λx H' ⟨T,v',w',hn,hx,hH,vW⟩=>?_⟩
    obtain⟨g1,g2⟩:=vW vs ws h1 h2;rw[e1]at g1;rw[e2]at g2;cases g1;cases g2;subst hx hH;obtain⟨R2,s2⟩:=R.laid (.ag [v,w]) hn;exact⟨_,R2,s2,bu.mpr ⟨T,[v,w],rfl,fw.of ar,.cons (N3.mono (s.trans s2)) (.cons (c2'.mono (s.trans s2)) .nil)⟩⟩
 ·refine⟨vs,ws,h1,h2,?_⟩;have:=fJ.mp e;rw[List.length_zipWith,b1.length,b2.length]at this
  lia
section
variable {X:Cx} {aa:Hp} {ab:Fz} {a b tg:Expr} {fa fb:Gx PV} {pos p:Pos}
def Xu(p q:PV):Option (List PV):=(m6 p).bind λps=>(m6 q).map λqs=>List.zipWith eJ ps qs
def O1(fa fb:Gx PV):Gx (List PV):=bnd fa λp=>bnd fb λq=>fB (Xu p q)
theorem Ti(ht:A1 tg=true)(hg:Gl X "zip")(hm:X.mg "zip"=none)(ha:PE X a (tE X aa ab fa))(hb:PE X b (tE X aa ab fb))(hs:starEach [a,b] X.env=(false,eval a X.env)::starEach [b] X.env)(xD:starEach [b] X.env=[(false,eval b X.env)]) :
  PI X tg (.Call (.Name "zip" p) [a,b] [] pos) (tI X aa ab (O1 fa fb)):=by
 rintro ae s σ H R I ⟨F,st,Rp,h⟩
 have hA:=f7 ha (f7 hb oW xD) hs pos ae s σ H (λvs H'=>∃F' bM x y pa pb ps qs,vs=[x,y]/\Rep X.K aa ab F' bM σ H'/\aY X.K F' pa x/\aY X.K F' pb y/\m6 pa=some ps/\m6 pb=some qs/\∀b Sk E8,Rep X.K aa ab E8 bM σ Sk->Gr F' E8->Walk X.K E8 (List.zipWith eJ ps qs) b->R b Sk) I
  ⟨F,st,Rp,h.bnd λp v F1 st1 H1 R1 g1 b1 h1=>⟨F1,st1,R1,h1.bnd λq w F2 dw H2 R2 g2 b2 h2=>by
   obtain⟨o,e,z⟩:=h2.fB;obtain⟨ps,e1,e⟩:=aE e;obtain⟨qs,e2,rfl⟩:=aL e;exact⟨F2,dw,v,w,p,q,ps,qs,rfl,R2,b1.mono g2,b2,e1,e2,z⟩⟩⟩
 refine Call_ (ld_blt I hg hm boot_zip (d7 (thn hA λus s1 z9=>?_) hs (by rw[xD];rfl)))
 obtain⟨vs,H1,I1,r1,F1,st1,x,y,pa,pb,ps,qs,ev,R1,b1,b2,f3,f4,q⟩:=z9;subst ev;obtain⟨u1,u2,rfl,N4,S5⟩:=AA r1;obtain⟨c1,l1,Y5,rfl,q1,Qj,k1⟩:=i3 f3 b1;obtain⟨c2,l2,vs2,rfl,q2,Ve,k2⟩:=i3 f4 b2;cases N4;cases S5;obtain⟨ak,v1,J4⟩:=(k1 H1 R1.sub).get I1;obtain⟨cD,v2,Qn⟩:=(k2 H1 R1.sub).get I1;have lt:∀{l:Addr} {xs:Array Value} {c:String},gK s1.heap l xs c->l<s1.heap.objs.size:=λh=>by
  rcases h with⟨_,⟨o,e,_⟩⟩ | ⟨_,⟨o,e,_⟩⟩
  ·exact az e
  ·exact az e
 have Sl:=lt J4;have LC:=lt Qn;refine callType_new PySem.F.called_zip (by decide) (PySem.F.typeCall_zip_2 _ _) (PySem.F.newCall_zip_2 _ _) (λobj=>D1 obj _ _) PySem.F.entry_zip_new (wQ l1 l2 ak.toArray cD.toArray (jw c1) (jw c2)) ⟨J4,Qn,λh1 h2 h3 h4 e1 e2 e3 e4=>?_⟩
 have z1:h1.objs.size=s1.heap.objs.size+1:=by rw[e1];exact cQ ..
 have z2:h2.objs.size=s1.heap.objs.size+2:=by rw[e2,cQ,z1]
 have z3:h3.objs.size=s1.heap.objs.size+3:=by rw[e3,cQ,z2]
 have z4:h4.objs.size=s1.heap.objs.size+4:=by rw[e4,cQ,z3]
 generalize e5:h4.push {cls:=.type "zip",data:=.fields #[.none,.bool false,.bool false,.ref h2.objs.size,.ref h3.objs.size]}=h5
 have p1:∀b o,s1.heap.get? b=some o->h1.get? b=some o:=λb o e=>by rw[e1];exact ax _ e
 have p2:∀b o,h1.get? b=some o->h2.get? b=some o:=λb o e=>by rw[e2];exact ax _ e
 have p3:∀b o,h2.get? b=some o->h3.get? b=some o:=λb o e=>by rw[e3];exact ax _ e
 have p4:∀b o,h3.get? b=some o->h4.get? b=some o:=λb o e=>by rw[e4];exact ax _ e
 have p5:∀b o,h4.get? b=some o->h5.get? b=some o:=λb o e=>by rw[<-e5];exact ax _ e
 have g5:IsZip h5 h4.objs.size h2.objs.size h3.objs.size .none:=by rw[<-e5];exact aZ _ rfl
 have g4:IsPair h5 h3.objs.size .none .none:=p5 _ _ (by rw[e4];exact aZ _ rfl)
 have g3:IsPair h5 h2.objs.size (.ref s1.heap.objs.size) (.ref h1.objs.size):=p5 _ _ (p4 _ _ (by rw[e3];exact aZ _ rfl))
 have g2:h5.get? h1.objs.size=some {cls:=.type (jw c2),data:=.fields #[.ref l2,.int 0 0]}:=p5 _ _ (p4 _ _ (p3 _ _ (by rw[e2];exact aZ _ rfl)))
 have g1:h5.get? s1.heap.objs.size=some {cls:=.type (jw c1),data:=.fields #[.ref l1,.int 0 0]}:=p5 _ _ (p4 _ _ (p3 _ _ (p2 _ _ (by rw[e1];exact aZ _ rfl))))
 have Zk:∀{c:Bool} {it l:Addr},h5.get? it=some {cls:=.type (jw c),data:=.fields #[.ref l,.int 0 0]}->DN h5 c it l 0:=λ{c it l} e=>by
  cases c with
  | true=>exact(show h5.IsListIter it l 0 from⟨_,e,rfl,rfl⟩)
  | false=>exact(show h5.IsTupleIter it l 0 from⟨_,e,rfl,rfl⟩)
 have I2:Inv X ae σ H1 {s1 with heap:=h5,toks:=s1.toks}:=I1.kept λb o e=>p5 _ _ (p4 _ _ (p3 _ _ (p2 _ _ (p1 _ _ e))))
 have kE:∀b,s1.heap.objs.size<=b->H1 b=none:=λb hb=>I1.hok.fresh hb
 refine⟨⟨_,g5,rfl⟩,?_⟩;show wpAny _ _ (pyIter (.ref h4.objs.size)) _ _ {s1 with heap:=h5,toks:=s1.toks}
 refine yi g5 ?_;cases tg with
 | Tuple elts x1 B9 =>
  refine⟨h4.objs.size,[h4.objs.size,h2.objs.size,h3.objs.size,s1.heap.objs.size,h1.objs.size],_,_,H1,rfl,I2,Gs (TI:=h2.objs.size) (TO:=h3.objs.size) (i1:=s1.heap.objs.size) (i2:=h1.objs.size) (l1:=l1) (l2:=l2) (c1:=c1) (c2:=c2) ⟨by lia,by lia,by lia,by lia⟩ Sl LC,⟨g5,g3,⟨_,_,g4⟩,Zk g1,Zk g2⟩,λb hb=>?_,q _ H1 F1 R1 (Gr.refl _) (Gu k1 k2 Qj Ve)⟩
  simp only[aF,bf,bg]at hb;have Sm:s1.heap.objs.size<=b:=by rcases hb with rfl | rfl | rfl | rfl | rfl<;>lia
  have fo:=I1.um (H':=H1) Sm (kE b Sm);exact fo
 | _=>cases ht
end
end L2.U
namespace PySem
open PyProof.Rows
noncomputable def gy(l:List Str)(v:Str):List Str:=if l.any (· == v)=true then l else l++[v]
theorem Gv(l:List Str)(v k:Str):(l.any (· == k) || decide (k=v))=(gy l v).any (· == k):=by
 unfold gy;by_cases hk:k=v
 ·subst hk;split
  ·rename_i hc;rw[hc];simp
  ·simp
 ·have:(v==k)=false:=by simpa using bj hk
  split<;>simp[hk,this]
theorem wV(l:List Str)(v:Str):(if l.any (· == v)=true then l.length else l.length+1)=(gy l v).length:=by
 unfold gy;split<;>simp
def p6(val:Nat->Str):Nat->List Str
 | 0=>[]
 | i+1=>gy (p6 val i) (val i)
def p7(val:Nat->Str):∀i,(p6 val i).length<=i
 | 0=>ao _
 | i+1=>by
  have:=p7 val i;unfold p6;rw[<-wV];split<;>lia
section
variable {prog:Program} {w:World} {A:Around} {R:Result->Shared->Prop} {I:Addr} {fp wr:List Addr} {G:Array GenState->Array GenState->Prop} {n:Nat} {P:Nat->Value->Prop} {St:Nat->Shared->Prop}
abbrev CV(prog:Program)(w:World)(h:Heap)(S:Addr)(ks:List Str):Prop:=h.SetOf (strKind prog w) S (λk=>ks.any (· == k)) ks.length
def CW(W:WalksS prog w A.in1 I fp wr G n P St)(S:Addr)(hSf:S∉fp)(val:Nat->Str)(zj:∀i v,P i v->∃t,v=.str (val i) t)(hn:n<=1000) :
  ∀(k i:Nat) (s:Shared),n-i=k->i<=n->St i s->CV prog w s.heap S (p6 val i) ->
   (∀s',Moved (S::wr) G s s'->CV prog w s'.heap S (p6 val n)->R (.ok (.ret .none)) s') ->
   codeAny (model prog w) A (.builtin "set.update.loop" ⟨[.ref S,.ref I],[]⟩) R s:=by
 have SV:S∉wr:=λh=>hSf (W.sub _ h)
 have uL:∀b∈wr,b∈S::wr:=by grind
 intro k;induction k with
 | zero =>
  intro i s hk hi kr hS hR;have Ow:i=n:=by lia
  subst Ow;refine iO F.entry_set_update_loop ?_;rw[jF xP _];refine af (W.done s _ _ kr λs' hm=>?_)
  exact ai (hR s' (hm.mono uL) (by
   obtain⟨o,es,ep,t,ho,rest⟩:=hS;exact⟨o,es,ep,t,hm.heap S _ SV ho,rest⟩))
 | succ k ih =>
  intro i s hk hi kr hS hR;have wx:i<n:=by lia
  refine iO F.entry_set_update_loop ?_;rw[jF xP _];refine af (W.item i s _ _ wx kr λv s' hP Ga hm=>?_)
  obtain⟨t,rfl⟩:=zj i v hP;have xF:CV prog w s'.heap S (p6 val i):=by
   obtain⟨o,es,ep,t,ho,rest⟩:=hS;exact⟨o,es,ep,t,hm.heap S _ SV ho,rest⟩
  refine af (cR ?_);unfold setAdd;refine cR ?_;refine af ((strKind prog w).pyHash (oG _ _ _ _) ?_);have OR:=p7 val i;have abm:scanBound=4096:=rfl;refine wpAny_setAddHashed_of (oG _ _ _ _) rfl xF (by lia) λh' Ql Xm=>?_
  have hSi:CV prog w h' S (p6 val (i+1)):=by
   exact SetOf_congr Xm (λk'=>Gv _ _ _) (wV _ _)
  refine ai ⟨jP xP _,ih (i+1) _ (by lia) wx (W.frame _ s' _ _ Ga (Nat.le_succ _) λb hb o e=>?_) hSi λM8 Ox Oy=>?_⟩
  ·rw[Ql.2 b (λh:b=S=>hSf (by grind))];exact e
  ·refine hR M8 (Moved.trans W.gtrans ((hm.mono uL).then_heap (Nat.le_succ _) λb o hb e=>?_) Ox) Oy
   rw[Ql.2 b (λh:b=S=>hb (by grind))];exact e
end
section
variable {prog:Program} {w:World} {A:Around} {E:Value->Shared->Prop} {s:Shared}
set_option maxHeartbeats 3200000 in
theorem CY(hh:A.handled=none)(hl:s.heap.IsList l items)(val:Nat->Str)(hi:∀(i:Nat) (v:Value),items[i]?=some v->∃t,v=.str (val i) t)(hb:items.size<=1000)
  (h:∀(h':Heap) (tk:Nat),CV prog w h' s.heap.objs.size (p6 val items.size)->(∀b o,b<s.heap.objs.size->s.heap.get? b=some o->h'.get? b=some o)->Q (.ref s.heap.objs.size) {s with heap:=h',toks:=tk}) :
  wpAny (model prog w) A (call (.type "set") [.ref l]) Q E s:=by
 obtain⟨c,tl,abo⟩:=F.called_set.mro;have Zl:=F.called_set.made;have uL:=F.called_set.sub;refine wpAny_call (codeAny_of_tree ?_);refine ai ⟨Code.quiet_builtin _ (by decide +kernel),iO F.entry_type_call ?_⟩
 rw[Around.under_plain (weight_type_call_type "set" [.ref l] []) rfl];have h1:=F.called_set.notType;have h2:=F.called_set.canCreate;have hct:=F.typeCall_set_1 (.ref l)
 repeat (any_goals (first | assumption | wp_step))
 refine lV (qQ (.ref l) (E:=E) (Q₁:=λobj s₁=>obj=.ref s.heap.objs.size/\s₁={s with heap:=s.heap.push {cls:=.type "set",dict:=none,data:=.set #[] 0 (.fresh 0 0 (!BT w))}}) ⟨rfl,rfl⟩) λr s₁ hr=>?_
 cases r with
 | error e=>exact hr
 | ok fl =>
  cases fl with
  | ret obj =>
   obtain⟨rfl,rfl⟩:=hr;obtain⟨led,Xv⟩:∃led,led = !BT w:=⟨_,rfl⟩
   rw[<-Xv];have hS:(s.heap.push {cls:=.type "set",dict:=none,data:=.set #[] 0 (.fresh 0 0 led)}).get? s.heap.objs.size=some {cls:=.type "set",dict:=none,data:=.set #[] 0 (.fresh 0 0 led)}:=aZ _ rfl
   have hT:Shared.TypeIs {s with heap:=s.heap.push {cls:=.type "set",dict:=none,data:=.set #[] 0 (.fresh 0 0 led)}} (.ref s.heap.objs.size) "set":=⟨_,hS,rfl⟩
   have hli:=F.called_set.init.lookup;have hbi:=F.called_set.init.bind (.ref s.heap.objs.size)
   repeat (any_goals (first | assumption | wp_step))
   refine lV (codeAny_call_builtin (R:=wants (λr B0=>r=.none/\∃h' tk,B0={s with heap:=h',toks:=tk} /\
     CV prog w h' s.heap.objs.size (p6 val items.size) /\
     (∀b o,b<s.heap.objs.size->s.heap.get? b=some o->h'.get? b=some o)) E) F.called_set.init.plain F.entry_set_init (check_set_init_1 hT ?_)) λXw B0 Gw=>?_
   ·obtain⟨ol,m5,hcl,nl,LG⟩:=hl;obtain⟨W6,LN,SU,F9⟩:=ol;simp only at hcl LG;subst hcl;subst LG;have Xx:(s.heap.push {cls:=.type "set",dict:=none,data:=.set #[] 0 (.fresh 0 0 led)}).get? l=some {cls:=.type "list",dict:=LN,data:=.seq items nl,slots:=F9}:=ax _ m5
    have abp:=F.sub_list_set;have abq:=F.sub_list_frozenset;have hne:(Value.type "list"==Value.type "dict")=false:=by decide
    have OR:(s.heap.push {cls:=.type "set",dict:=none,data:=.set #[] 0 (.fresh 0 0 led)}).IsList l items:=⟨_,Xx,rfl,nl,rfl⟩
    unfold Builtin.«set.__init__» noKeywords Builtin.Frozenset.updateFrom
    generalize hPI:pyIter=PI
    wp_walk
    subst hPI;refine lO OR ?_;refine af (wpAny_runValue ?_);have Oz:l<s.heap.objs.size:=az m5;refine CW ((Walks.list (by simp[hh]) _ l (by rw[cQ];exact aN (Nat.lt_succ_of_lt Oz)) items).toS) s.heap.objs.size (by
     rw[cQ];simp only[aF,bc,bf,bg,not_or];exact⟨aN (lP _),lW Oz⟩) val hi hb (items.size-0) 0 _ (by lia) (fg _)
     ⟨⟨_,aZ _ rfl,rfl,rfl⟩,(OR.push _)⟩ ?hS0 ?hR
    case hS0 =>
     exact PySem.Obj.SetObjOf.setOf (setObjOf_fresh (knd:=strKind prog w) led) (ax _ hS) (show(0:Nat)<scanBound by decide)
    case hR =>
     intro s' hm xF;obtain⟨h',g',d',Gb,Jf⟩:=s';have eg:g'=s.gens:=hm.gens;have ed:d'=s.drawn:=hm.drawn;have eo:Jf=s.os:=hm.os;subst eg;subst ed;subst eo;show wpAny _ _ _ _ _ _;refine ai ?_;show wpAny _ _ (ret Value.none) _ _ _;refine ai ⟨rfl,h',Gb,rfl,xF,λb o hb e=>?_⟩
     have OC:b≠s.heap.objs.size:=by grind
     have Vc:b≠(s.heap.push {cls:=.type "set",dict:=none,data:=.set #[] 0 (.fresh 0 0 led)}).objs.size:=by
      rw[cQ];exact aN (Nat.lt_succ_of_lt hb)
     exact hm.heap b o (by grind) (ax _ (ax _ e))
   ·cases Xw with
    | error e=>exact Gw
    | ok Tj =>
     cases Tj with
     | ret r =>
      obtain⟨rfl,h',tk,rfl,xF,hk'⟩:=Gw
      repeat (any_goals (first | assumption | wp_step))
      exact h _ _ xF hk'
     | _=>exact Gw.elim
  | _=>exact hr.elim
end
end PySem
namespace L2.U
open PySem PySem.Spec PyProof.Rows
def zt(ks:List Str):List Str:=ks.foldl gy []
def Bi:PV->Option PV
 | .nd .lst ps=>if ps.length<=1000 then(aT uM ps).map λks=>.int ((zt ks).length:Nat)else none
 | _=>none
def O2(fa:Gx PV):Gx PV:=bnd fa λp=>fB (Bi p)
theorem p8(ks:List Str):∀i,i<=ks.length->p6 (λi=>ks.getD i ⟨#[]⟩) i=(ks.take i).foldl gy []
 | 0,_=>by simp[p6]
 | i+1,h=>by
  rw[List.take_add_one,List.foldl_append,<-p8 ks i (by lia)]
  have:ks[i]?=some (ks[i]'(by lia)):=bB _
  rw[this];show gy _ (ks.getD i ⟨#[]⟩)=gy _ _;rw[List.getD,this];rfl
theorem p9{α β:Type}{f:α->Option β}:∀{ps:List α} {ks:List β},aT f ps=some ks->ks.length=ps.length
 | [],_,h=>by cases h;rfl
 | p::ps,ks,h=>by
  obtain⟨k,r,h1,h2,rfl⟩:=cP h;rw[br,br,p9 h2]
theorem Bj{α β:Type}{f:α->Option β}:∀{ps:List α} {ks:List β},aT f ps=some ks->∀(i:Nat) (p:α),ps[i]?=some p->∃k,ks[i]?=some k/\f p=some k
 | [],_,h,i,p,e=>by cases e
 | q::ps,ks,h,i,p,e=>by
  obtain⟨k,r,h1,h2,rfl⟩:=cP h;cases i with
  | zero=>cases e;exact⟨k,rfl,h1⟩
  | succ i=>exact Bj h2 i p e
section
variable {X:Cx} {aa:Hp} {ab:Fz} {e:Expr} {fe:Gx PV} {pos p pE zp:Pos}
def O3(hh:X.A.handled=none)(OE:Gl X "len")(OF:X.mg "len"=none)(hg:Gl X "set")(hm:X.mg "set"=none)(he:PE X e (tE X aa ab fe))(hs:starEach [e] X.env=[(false,eval e X.env)]) :
  PE X (.Call (.Name "len" p) [.Call (.Name "set" zp) [e] [] pE] [] pos) (tE X aa ab (O2 fe)):=by
 rintro ae s σ H Q I ⟨F,st,R,h⟩
 refine Call_ (ld_blt I OE OF PySem.boot_len ?_);refine DV (pF rfl ?_) rfl rfl;have hA:=he ae s σ H (λv H1=>∃n ps vs ks c F1 st1,v=.ref c/\Rep X.K aa ab F1 st1 σ H1/\gC X.K F1.F c vs/\aq X.K F1 ps vs/\ps.length<=1000/\aT uM ps=some ks/\n=(zt ks).length/\Q (.int (n:Nat)) H1) I
  ⟨F,st,R,h.bnd λq v F1 st1 H1 R1 g1 b1 h1=>by
   obtain⟨o,e,z⟩:=h1.fB;unfold Bi at e;split at e
   ·rename_i ps;obtain⟨hl,e⟩:=bH e;obtain⟨ks,e1,rfl⟩:=aL e;obtain⟨c,vs,rfl,hs,hb⟩:=cJ.mp b1;exact⟨_,ps,vs,ks,c,F1,st1,rfl,R1,hs,hb,hl,e1,rfl,z _ _ _ R1 (Gr.refl _) (au.mpr rfl)⟩
   ·cases e⟩
 refine Call_ (ld_blt I hg hm (show bootBuiltins "set"=some (.type "set") by decide +kernel) (d7 (pF hs (thn hA λu s1 ⟨v,H1,I1,r1,n,ps,vs,ks,c,F1,st1,ev,R1,OR,b1,hl,hk,hn,q⟩=>?_)) hs rfl))
 subst ev;cases r1;obtain⟨ak,r,pl,_⟩:=I1.list (gF R1.sub OR).sq;have dj:ak.length=ps.length:=by rw[<-r.length,b1.length]
 have Zm:=p9 hk;have hsz:ak.toArray.size=ks.length:=by rw[bV,dj,Zm]
 refine CY (items:=ak.toArray) hh pl.isList (λi=>ks.getD i ⟨#[]⟩) (λi v hv=>?_) (by rw[hsz,Zm];exact hl) λh' tk hS kp=>?_
 ·rw[lK]at hv;have hi:i<ps.length:=by rw[<-dj];exact(b8.mp hv).1
  obtain⟨k,e1,e2⟩:=Bj hk i _ (bB hi);obtain⟨x,hx,bx⟩:=b1.get (bB hi);rw[ji e2]at bx;cases bh.mp bx;obtain⟨u,hu,t,ru⟩:=r.get hx;rw[hv]at hu;cases hu;refine⟨t,?_⟩;rw[ru,List.getD,e1];rfl
 ·rw[hsz,p8 ks _ (ao _),tV]at hS;have I2:Inv X ae σ H1 {s1 with heap:=h',toks:=tk}:=I1.kept λb o e=>kp b o (az e) e
  obtain⟨o,es,ep,t,ho,WB,hd,hel,abv,hb,hf,Rb⟩:=hS;have U4:(zt ks).length<=1000:=by
   have:=p7 (λi=>ks.getD i ⟨#[]⟩) ks.length
   rw[p8 ks _ (ao _),tV]at this;unfold zt
   lia
  refine call_len_set ho WB hd hf (by rw[Rb];unfold zt at U4;have h63:(2:Int)^63=9223372036854775808:=(by decide);lia) ?_
  refine⟨.int es.size,H1,I2.tok _,⟨_,rfl⟩,?_⟩;rw[Rb];rw[hn]at q;exact q
end
structure Gm where
 sc:List (Str×NameKind)
 N:List Str
 own:Bool
 fns:List (Str×Nat)
 call:Str->m7
 cons:List (Str×PV)
 cw:List Str
 tabs:List (Str×List (Str×Str))
 c8:List (Str×List (Str×PV))
 cls:List (Str×Nat)
 make:Str->m7
 clss:List Str
 flds:List Str
 /-- what Xy in a cell: 1 a list,2 a list of cells,10 a dict Lg keys Vw tuples -/
 QD:List (Str×Nat)
 Gy:Option ((PV->Gx PV)->Nat->m7)
 Gz:Option (Nat×(PV->Gx PV))
noncomputable def slot(Γ:Gm)(x:Str):Option Nat:=Γ.N.findIdx? (· == x)
noncomputable def IT(Γ:Gm)(x:Str):Bool:=match Γ.sc.lookup x with | some .local=>true | some .cell=>true | some .free=>true | _=>false
noncomputable def Qo(Γ:Gm)(x:Str):Bool:=match Γ.sc.lookup x with | some .local=>true | some .cell=>Γ.own | _=>false
noncomputable def qT(Γ:Gm)(x:Str):Bool:=match Γ.sc.lookup x with | some .globalImplicit=>true | _=>false
noncomputable def fu(x:Str):Bool:=!(x==("__debug__":Str))&&!(x==("__classdict__":Str))&&!(x==("__name__":Str))
noncomputable def md(Γ:Gm)(x:Str):Nat:=(Γ.QD.lookup x).getD 0
noncomputable def CZ(m:Nat):Nat:=if m<10 then m-1 else 0
def Tn(X:Cx)(k:Nat)(fns:List (Str×Nat))(call:Str->m7):Prop:=∀x n,fns.lookup x=some n->∃j f fd ps,j<=k/\FnOk X.prog X.w X.K X.mg X.base (ku X.prog X.w) j f fd ps (CG X.K n (call x))/\X.mg x=some (.ref f)/\W.keepIn X.K (.ref f)=true/\fM X.K fd ps []
structure LX (Γ:Gm) (X:Cx) (rs:(PV->Gx PV)->Nat->m7):Prop where
 ex:∃(st:Stmt) (fs:Addr) (Zn:FuncData) (pr Ns:List Str) (k:Nat) (rb:(PV->Gx PV)->Nat->Gx d6),rs=(λω n=>iy (rb ω n) Ns.length)/\BN X.K "spread" "spread" st fs Zn/\X.mg "spread"=some (.ref fs)/\fM X.K Zn pr []/\dg Ns pr (ay st)/\pr.length=2/\dU (k+2) X.A /\
  (∀(eA:Value) (A:Around) (aB:List Env) (s:Shared) (H:Hp) (E:XK) (aa:Hp) (ab:Fz) (n:Nat) (ω:PV->Gx PV),dU (k+1) (A.deeper (envOfC "spread" (ay st) s.heap.objs.size fs eA))->F8 (fN (ku X.prog X.w) X.prog X.w X.K X.mg X.base Ns "spread" (ay st) fs eA A aB s H E) aa ab n ω ->
   PSs (fN (ku X.prog X.w) X.prog X.w X.K X.mg X.base Ns "spread" (ay st) fs eA A aB s H E) (dh st) (tS (fN (ku X.prog X.w) X.prog X.w X.K X.mg X.base Ns "spread" (ay st) fs eA A aB s H E) aa ab (rb ω n))) /\
  Tn X k Γ.fns Γ.call
 lam:SR X
structure GOk (Γ:Gm) (X:Cx) (aa:Hp) (ab:Fz):Prop where
 names:X.env.scope.names=Γ.sc
 N:X.N=Γ.N
 nd:X.N.Nodup
 kind:X.env.scope.kind=.function
 calm:X.calm=true
 hd:X.A.handled=none
 un:X.A.units+1150<cLine
 own:Γ.own=true->∀x,X.fn x=true
 fns:F6 X Γ.fns Γ.call
 cons:∀x p,Γ.cons.lookup x=some p->∃u v,X.mg x=some u/\RelV v u/\∀F,aY X.K F p v
 cw:∀x,Γ.cw.contains x=true->X.mg x=none
 tabs:∀T rows,Γ.tabs.lookup T=some rows->A6 X.K X.mg X.w.params T rows
 c8:∀T rows,Γ.c8.lookup T=some rows->pC X.K X.mg X.w.params T rows
 ns:∀x a,W.nsIn X.K mainGlobals x=some (some (.ref a))->X.mg x=some (.ref a)
 Qp:F7 X.K Γ.clss Γ.flds
 cls:∀C n,Γ.cls.lookup C=some n->∃k Ca f fd ps,ClsAt X.K C (.ref Ca)/\BM X.K Ca/\Mk X.K Ca f/\FnOk X.prog X.w X.K X.mg X.base (ku X.prog X.w) k f fd ps (CG X.K n (Γ.make C))/\dU (k+1) X.A/\X.mg C=some (.ref Ca)/\fM X.K fd ps []
 Gy:∀rs,Γ.Gy=some rs->LX Γ X rs
 Gz:∀n ω,Γ.Gz=some (n,ω)->F8 X aa ab n ω
noncomputable def aO:Expr->Bool
 | .Starred _ _=>false
 | .Set _ _ _=>false
 | _=>true
noncomputable def nD:Expr->Bool
 | .Slice _ _ _ _=>false
 | _=>true
noncomputable def Bk:Expr->Bool
 | .Tuple _ _ _=>false
 | .ListComp _ _ _ _=>false
 | .SetComp _ _ _ _=>false
 | .DictComp _ _ _ _ _=>false
 | _=>true
noncomputable def i6:Expr->Bool
 | .ListComp _ _ _ _=>false
 | .SetComp _ _ _ _=>false
 | .DictComp _ _ _ _ _=>false
 | _=>true
noncomputable def uS:Expr->Bool
 | .Name _ _=>true
 | .Subscript _ _ _=>true
 | .Attribute _ _ _=>true
 | .Call _ (_::_) _ _=>true
 | _=>false
def lj(h:uS e=true):attributeBase e f env (eval e env)=eval e env:=by
 cases e with
 | Call f as ks=>cases as with
  | nil=>cases h
  | cons=>cases f<;>rfl
 | _=>first | rfl | cases h
def uT(h:Bk e=true):i6 e=true:=by
 cases e<;>first | rfl | cases h
noncomputable def zu:Expr->Bool
 | .UnaryOp .Not _ _=>false
 | .BoolOp _ _ _=>false
 | .IfExp _ _ _ _=>false
 | .Compare _ _ _ _=>false
 | _=>true
def aJ(h:aO e=true)(es:List Expr)(env:Env):starEach (e::es) env=(false,eval e env)::starEach es env:=by
 cases e<;>first | rfl | cases h
def dJ(h:aO e=true)(op:CmpOp):behindInMarks op e=false:=by
 cases e<;>first | rfl | cases h
def fR(h:aO e=true)(env:Env)(x:Value):foldedSetIterable e env x=pure x:=by
 cases e<;>first | rfl | cases h
def qa(h:nD e=true):kM e:=by
 intro o i;cases e<;>first | rfl | cases h
def GA(h:zu e=true)(env:Env)(il:Sem Value):isTrue e env il=(do let v <-il;standAt e.pos;holding [v] (truthy v)):=by
 cases e with
 | UnaryOp op a p=>cases op<;>first | rfl | cases h
 | BoolOp _ _ _=>cases h
 | IfExp _ _ _ _=>cases h
 | Compare _ _ _ _=>cases h
 | _=>rfl
def i7(h:i6 e=true)(t:Option Expr)(l:Nat)(env:Env):swapsWith e t l env=pure false:=by
 cases e<;>first | rfl | cases h
def dM(h:es.all aO=true)(env:Env)(pos:Pos):(backTo pos (starEach es env)).any (·.1)=false:=by
 induction es with
 | nil=>rfl
 | cons e es ih =>
  rw[gr,aC]at h;rw[aJ h.1];exact ih h.2
def zw(h:es.all aO=true)(env:Env)(pos:Pos):(backTo pos (starEach es env)).all (λx=>!x.1)=true:=by
 induction es with
 | nil=>rfl
 | cons e es ih =>
  rw[gr,aC]at h;rw[aJ h.1];exact ih h.2
def Bm(h:es.all aO=true)(hl:es.length<30):((backTo cp (starEach es env)).all (λx=>!x.1)&&(backToKw cp (keywordEach [] env)).all (λx=>x.1.isSome)
   && decide (es.length+([]:List Keyword).length+(if([]:List Keyword).isEmpty then 0 else 1)<30))=true:=by
 rw[zw h];simp only[jQ,aC,iK];exact⟨rfl,hl⟩
def eL(h:fu x=true):(x==("__debug__":Str))=false/\(x==("__classdict__":Str))=false/\x≠"__name__":=by
 unfold fu at h;simp only[aC,yd]at h;exact⟨h.1.1,h.1.2,by simpa using h.2⟩
noncomputable def uU:Nat->Gm->Expr->Option (Tg×List Nat)
 | 0,_,_=>none
 | n+1,Γ,e=>match e with
  | .Name x _=>if Qo Γ x=true then(slot Γ x).map λi=>(cO i,[i])else none
  | .Tuple es _ _=>(es.foldr (λe r=>(uU n Γ e).bind λg=>r.map λgs=>(dH g.1 gs.1,g.2++gs.2)) (some (pd,[]))).map λgs=>(kR es.length gs.1,gs.2)
  | _=>none
def GB(h:slot Γ x=some i):Γ.N[i]?=some x:=by
 unfold slot at h;obtain⟨hi,hp,_⟩:=DS.mp h;rw[bB hi];exact fj some (aH hp)
section
variable {Γ:Gm} {X:Cx} {x:Str} {pos:Pos} {aa:Hp} {ab:Fz}
def GOk.Xz(G:GOk Γ X aa ab)(h:IT Γ x=true):QL X.env.scope x:=by
 unfold IT at h;unfold QL;rw[G.names];split at h<;>simp_all
def GOk.O4(G:GOk Γ X aa ab)(h:Qo Γ x=true):Lk X.env.scope x/\(X.fn x=true\/X.env.scope.names.lookup x=some .local):=by
 unfold Qo at h;unfold Lk;rw[G.names];split at h
 ·grind
 ·rename_i z;exact⟨.inr z,.inl (G.own h x)⟩
 ·cases h
def GOk.fD(G:GOk Γ X aa ab)(h:qT Γ x=true):Gl X x:=by
 unfold qT at h;show X.env.scope.names.lookup x=_;rw[G.names];split at h
 ·assumption
 ·cases h
def GOk.sv(G:GOk Γ X aa ab)(h:slot Γ x=some i):X.N[i]?=some x:=by
 rw[G.N];exact GB h
theorem lq(G:GOk Γ X aa ab):∀(n:Nat) (e:Expr) (g:Tg×List Nat),uU n Γ e=some g->PG X e (tG X.K aa ab g.1)/\KG g.2 g.1/\(∀env:Env,(assignEach [e] env).map (·.2)=[assign e env])/\∀(es:List Expr) (env:Env),assignEach (e::es) env=(false,assign e env)::assignEach es env
 | 0,_,_,h=>by cases h
 | n+1,e,g,h=>by
  cases e with
  | Name x p =>
   have h:=h;obtain⟨hs,h⟩:=bH h;obtain⟨i,z,rfl⟩:=aL h;obtain⟨h1,h2⟩:=G.O4 hs;exact⟨Ny i (IP G.nd (G.sv z) h1 h2),JW i,λ_=>rfl,λ_ _=>rfl⟩
  | Tuple es k p =>
   have all:∀es gs,es.foldr (λe r=>(uU n Γ e).bind λg=>r.map λgs=>(dH g.1 gs.1,g.2++gs.2)) (some (pd,[]))=some gs ->
     PGs X es (RR X.K aa ab gs.1)/\Sh gs.2 gs.1/\∀env:Env,(assignEach es env).length=es.length/\(assignEach es env).findIdx? (·.1)=none:=by
    intro es;induction es with
    | nil =>
     intro gs h;cases h;exact⟨NA,JX,λenv=>⟨rfl,rfl⟩⟩
    | cons e es ih =>
     intro gs h;rw[List.foldr_cons]at h;obtain⟨g1,e1,h⟩:=aE h;obtain⟨g2,z,rfl⟩:=aL h;obtain⟨a1,a2,a3,a4⟩:=lq G n e g1 e1;obtain⟨b1,b2,b3⟩:=ih g2 z;refine⟨Jx a1 b1 (by grind),Fq a2 b2,λenv=>?_⟩
     rw[a4];obtain⟨c1,c2⟩:=b3 env;exact⟨by rw[br,br,c1],by grind⟩
   have h:=h;obtain⟨gs,z,rfl⟩:=aL h;obtain⟨b1,b2,b3⟩:=all es gs z;exact⟨RS G.calm b1 (b3 _).1 (b3 _).2,N0 b2,λ_=>rfl,λ_ _=>rfl⟩
  | _=>cases h
def sx(G:GOk Γ X aa ab)(hn:fu x=true)(hv:IT Γ x=true)(hs:slot Γ x=some i):PE X (.Name x pos) (MA i) :=
 pe_var (G.sv hs) (G.Xz hv) (eL hn).1 (eL hn).2.1
end
def uV(x:Str):Option GC :=
 if x==("len":Str)then some jW
 else if x==("tuple":Str)then some uF
 else if x==("int":Str)then some yZ
 else if x==("sum":Str)then some JG
 else if x==("str":Str)then some JF
 else if x==("any":Str)then some Ko
 else if x==("all":Str)then some wL
 else none
def GD:bootBuiltins "sum"=some (.builtin "sum"):=by kernel_rfl
set_option maxHeartbeats 4000000 in
theorem O5(h:uV x=some g)(hh:X.A.handled=none)(hg:Gl X x)(hm:X.mg x=none)(ha:PA X (a::es) (tA X aa ab ts))
  (he:starEach (a::es) X.env=(false,eval a X.env)::starEach es X.env) (kJ:(backTo pos (starEach es X.env)).any (·.1)=false):PE X (.Call (.Name x p) (a::es) [] pos) (tE X aa ab (yY g ts)):=by
 unfold uV at h;split at h
 ·rename_i e;cases h;have e:=aH e;subst e;exact(iT Cm hg hm PySem.boot_len ha (by decide) (by decide) he kJ).imp λ_ _ _ h=>gZ h
 ·split at h
  ·rename_i e;cases h;have e:=aH e;subst e;exact(l7 Cn hg hm (g9 .tuple) ha (by decide) (by decide) he kJ).imp λ_ _ _ h=>gZ h
  ·split at h
   ·rename_i e;cases h;have e:=aH e;subst e;exact(l7 Co hg hm (g9 .int) ha (by decide) (by decide) he kJ).imp λ_ _ _ h=>gZ h
   ·split at h
    ·rename_i e;cases h;have e:=aH e;subst e;exact(iT (Cq hh) hg hm GD ha (by decide) (by decide) he kJ).imp λ_ _ _ h=>gZ h
    ·split at h
     ·rename_i e;cases h;have e:=aH e;subst e;exact(l7 Cp hg hm (g9 .str) ha (by decide) (by decide) he kJ).imp λ_ _ _ h=>gZ h
     ·split at h
      ·rename_i e;cases h;have e:=aH e;subst e;exact(iT (CM hh) hg hm Gf ha (by decide) (by decide) he kJ).imp λ_ _ _ h=>gZ h
      ·split at h
       ·rename_i e;cases h;have e:=aH e;subst e;exact(iT (CO hh) hg hm Ge ha (by decide) (by decide) he kJ).imp λ_ _ _ h=>gZ h
       ·cases h
noncomputable def GF:ScopeKind->Bool
 | .function=>true
 | _=>false
noncomputable def sy(scope:Scope):List Str:=(scope.names.filter λy=>match y.2 with | .local=>true | .free=>true | _=>false).map (·.1)
def fS(Γ:Gm)(scope:Scope):List (Option Nat):=(sy scope).map λx=>match scope.names.lookup x with | some .free=>slot Γ x | _=>none
noncomputable def zx(Γ:Gm)(scope:Scope):List (Str×NameKind):=scope.names.map fun(n,k)=>if(k==NameKind.free&&Γ.sc.lookup n==some .cell)then(n,NameKind.cell)else(n,k)
def sE(Γ:Gm)(scope:Scope):Gm:={Γ with sc:=zx Γ scope,N:=sy scope,own:=false,Gy:=none,Gz:=none}
def qb(Γ:Gm)(scope:Scope)(L:List Nat):Bool :=
 GF scope.kind&&scope.names.all (λy=>match y.2 with
  | .cell=>false
  | .local=>(match scope.names.lookup y.1 with | some .local=>true | _=>false)
  | .free=>(match Γ.sc.lookup y.1 with | some .cell=>true | some .free=>true | _=>false)
  | _=>true)&&decide (sy scope).Nodup&&L.all λi=>match(fS Γ scope)[i]? with | some none=>true | _=>false
section
variable {Γ:Gm} {X:Cx} {scope:Scope} {L:List Nat} {aa:Hp} {ab:Fz}
def lr(h:qb Γ scope L=true):scope.kind=.function/\(∀y∈scope.names,(match y.2 with
  | .cell=>false
  | .local=>(match scope.names.lookup y.1 with | some .local=>true | _=>false)
  | .free=>(match Γ.sc.lookup y.1 with | some .cell=>true | some .free=>true | _=>false)
  | _=>true)=true)/\(sy scope).Nodup/\∀i∈L,(fS Γ scope)[i]?=some none:=by
 unfold qb at h;simp only[aC,dn,iK]at h;obtain⟨⟨⟨h1,h2⟩,h3⟩,h4⟩:=h;refine⟨?_,h2,h3,λi hi=>?_⟩
 ·unfold GF at h1;split at h1
  ·assumption
  ·cases h1
 ·grind
def zy(G:GOk Γ X aa ab)(h:qb Γ scope L=true):gI X (sy scope) (fS Γ scope) scope:=by
 obtain⟨h1,h2,h3,h4⟩:=lr h;refine⟨h1,λy hy z=>?_,λy hy z=>?_,λy hy z=>?_,by unfold fS;rw[ah],λi j x hl hx=>?_⟩
 ·grind
 ·grind
 ·have:=h2 y hy;rw[z]at this;simp only at this;show X.env.scope.names.lookup y.1=_\/X.env.scope.names.lookup y.1=_;rw[G.names];split at this
  ·grind
  ·grind
  ·cases this
 ·unfold fS at hl;rw[aX,hx]at hl;have hl:(match scope.names.lookup x with | some .free=>slot Γ x | _=>none)=some j:=by grind
  split at hl
  ·exact⟨G.sv hl,by assumption⟩
  ·cases hl
def GG(G:GOk Γ X aa ab)(h:qb Γ scope L=true)(C:Addr)(s:Shared)(H:Hp)(fp:List Addr)(XA:Hp)(XB:Fz):GOk (sE Γ scope) (bT X (sy scope) scope C s H fp) XA XB where
 names:=by
  show(relabel scope X.env).names=zx Γ scope;have e:∀n,X.env.kindOf n=Γ.sc.lookup n:=λn=>by show X.env.scope.names.lookup n=_;rw[G.names]
  unfold zx relabel;simp only[G.kind,e]
  congr 1
  funext y
  obtain⟨n,k⟩:=y;simp
 N:=rfl
 nd:=(lr h).2.2.1
 kind:=by
  exact(lr h).1
 calm:=G.calm
 hd:=G.hd
 un:=G.un
 own:=λz=>by cases z
 fns:=G.fns
 cons:=G.cons
 cw:=G.cw
 tabs:=G.tabs
 c8:=G.c8
 ns:=G.ns
 Qp:=G.Qp
 cls:=G.cls
 Gy:=λ_ z=>by cases z
 Gz:=λ_ _ z=>by cases z
end
noncomputable def bO{α:Type}:Gx α:=λ_=>none
section
variable {X:Cx} {aa:Hp} {ab:Fz} {e:Expr} {es:List Expr}
def sF{C:Prop}(h:tX X aa ab rl bO σ H Q):C:=by
 obtain⟨F,st,R,r,z,_⟩:=h;cases z
def aU:PE X e (tE X aa ab bO):=λ_ _ _ _ _ _ h=>sF h
def sG:PT X e (tT X aa ab bO):=λ_ _ _ _ _ _ h=>sF h
def GH:PW X e (tT X aa ab bO):=λ_ _ _ _ _ _ _ h=>sF h
def LY:PA X es (tA X aa ab bO):=λ_ _ _ _ _ _ _ h=>sF h
def wW{tg:Expr}:PI X tg e (CA X aa ab bO):=λ_ _ _ _ _ _ h=>sF h
end
def i8(m n:Nat)(g:m7)(as:List PV):Gx PV:=λst=>if((m==0)&&(st.h.isEmpty || aD as))=true then j3 n g as st else FU n g as st
def XC(G:FnOk X.prog X.w X.K X.mg X.base (ku X.prog X.w) k f fd ps (CG X.K n g))(hr:dU k X.A)(hb:fM X.K fd ps []):J8 X f (i8 m n g):=by
 rintro aa H ab F st σ ae s Q as us vs I R b r ⟨q,e1,e2⟩
 unfold i8 at e1;split at e1
 ·exact Od G hr hb aa H ab F st σ ae s Q as us vs I R b r ⟨q,e1,e2⟩
 ·exact WW G hr hb aa H ab F st σ ae s Q as us vs I R b r ⟨q,e1,e2⟩
def To(Γ:Gm):Expr->Nat
 | .Name x _=>CZ (md Γ x)
 | .Attribute _ f _=>CZ (md Γ f)
 | _=>0
def XD(Γ:Gm)(g:Str)(o:Expr):Nat:=if g==("get":Str)then 0 else To Γ o
noncomputable def uW(e:Expr):Option {x:Option Expr×Option Expr // ∃p,e=.Slice x.1 x.2 none p}:=match e with
 | .Slice lo hi none p=>some ⟨(lo,hi),p,rfl⟩
 | _=>none
noncomputable def zz(e:Expr):Option {x:Option Expr×Expr // ∃p,e=.Slice x.1 none (some x.2) p}:=match e with
 | .Slice lo none (some m) p=>some ⟨(lo,m),p,rfl⟩
 | _=>none
def XE:Const->Gx PV
 | .int i=>b6 (.int i)
 | .bool i=>b6 (.bl i)
 | .none=>b6 .aK
 | .str i=>b6 (.str i)
 | _=>bO
def O6(Γ:Gm)(x:Str):Gx PV:=if fu x=true then(if IT Γ x=true then(match slot Γ x with | some i=>rd i | none=>bO)else if qT Γ x=true then(match Γ.cons.lookup x with | some p=>b6 p | none=>bO)else bO)else bO
noncomputable def zA(a:Expr):Option {x:Str×Expr×List Expr // ∃p q,a=.Call (.Name x.1 p) (x.2.1::x.2.2) [] q}:=match a with
 | .Call (.Name z p) (b::bs) [] q=>some ⟨(z,b,bs),p,q,rfl⟩
 | _=>none
noncomputable def uX(a:Expr)(es:List Expr):Option {x:Str×Expr // es=[]/\∃p q,a=.Call (.Name x.1 p) [x.2] [] q}:=match a,es with
 | .Call (.Name z p) [e] [] q,[]=>some ⟨(z,e),rfl,p,q,rfl⟩
 | _,_=>none
def dN(Γ:Gm)(x:Str):Bool:=qT Γ x&&Γ.cw.contains x
noncomputable def XF:Expr->Expr
 | .Call _ [e] _ _=>e
 | a=>a
def O7(Γ:Gm)(x:Str)(a:Expr)(es:List Expr):Bool:=x==("len":Str)&&(match uX a es with
 | some ⟨ze,_⟩=>ze.1==("set":Str)&&dN Γ ze.1&&aO ze.2
 | none=>false)
def C1{Γ:Gm}(h:O7 Γ x a es=true):x="len"/\es=[]/\∃e p q,a=.Call (.Name "set" p) [e] [] q/\qT Γ "set"=true/\Γ.cw.contains "set"=true/\aO e=true:=by
 unfold O7 at h;rw[aC]at h;obtain⟨h0,h⟩:=h
 generalize uX a es=o at h
 rcases o with _ | ⟨⟨z,e⟩,h1,p,q,rfl⟩
 ·cases h
 ·simp only[dN,aC]at h;obtain⟨⟨hx,hg,hb⟩,hp⟩:=h;have hx:=aH hx;subst hx;exact⟨aH h0,h1,e,p,q,rfl,hg,hb,hp⟩
def GI(Γ:Gm)(op:CmpOp):Expr->Option (List (Str×PV)×Bool)
 | .Name T _=>if(fu T&&qT Γ T)=true then(Γ.c8.lookup T).bind λrows=>(match op with | .In=>some (rows,false) | .NotIn=>some (rows,true) | _=>none)else none
 | _=>none
def qc{Γ:Gm}(h:GI Γ op b=some y):∃T p,b=.Name T p/\fu T=true/\qT Γ T=true/\Γ.c8.lookup T=some y.1/\(op=.In/\y.2=false\/op=.NotIn/\y.2=true):=by
 cases b with
 | Name T p =>
  obtain⟨hc,h⟩:=bH h;obtain⟨rows,e1,e2⟩:=aE h;rw[aC]at hc;refine⟨T,p,rfl,hc.1,hc.2,?_⟩;cases op<;>cases e2
  ·exact⟨e1,.inl ⟨rfl,rfl⟩⟩
  ·exact⟨e1,.inr ⟨rfl,rfl⟩⟩
 | _=>cases h
noncomputable def Tp:Operator->Bool
 | .Add=>true
 | _=>false
mutual
noncomputable def aW:Nat->Gm->Nat->Expr->Gx PV
 | 0,_,_,_=>bO
 | n+1,Γ,m,e=>match e with
  | .Constant c _ _=>XE c
  | .Name x _=>O6 Γ x
  | .BinOp a op b _=>if(m != 0&&Tp op)=true then OJ m (aW n Γ 0 a) (aW n Γ 0 b)else(match KD op with | some g=>op2 g (aW n Γ 0 a) (aW n Γ 0 b) | none=>bO)
  | .UnaryOp .Not a _=>Nm (aW n Γ 0 a)
  | .UnaryOp .USub a _=>NN (aW n Γ 0 a)
  | .BoolOp op vs _=>GJ n Γ op vs
  | .Compare a ops bs _=>O8 n Γ a ops bs
  | .IfExp c a b _=>iV (qU n Γ c) (aW n Γ m a) (aW n Γ m b)
  | .Tuple es _ _=>Qh .ag (iA n Γ m es)
  | .List es _=>(match m with | 0=>Qh .lst (iA n Γ 0 es) | _=>Np (iA n Γ (CZ m) es))
  | .Dict [] [] _=>Oo (m==10)
  | .Subscript a b _=>O9 n Γ a b
  | .ListComp elt gens scope _=>Pa n Γ m elt gens scope
  | .Attribute o f _=>if uS o=true then Ou f (aW n Γ 0 o)else bO
  | .Call f (a::es) [] cp=>if(a::es).all aO=true then Pb n Γ m f a es cp else bO
  | .Call (.Attribute o f ap) [] [] cp=>if(uS o&&(ap.endLine==cp.line))=true then(if f==("isdigit":Str)then Ov (aW n Γ 0 o)else match zh f with | some w=>Kb w.1 w.2 (aW n Γ 0 o) (b6 []) | none=>bO)else bO
  | _=>bO
termination_by structural n=>n
noncomputable def Pb:Nat->Gm->Nat->Expr->Expr->List Expr->Pos->Gx PV
 | 0,_,_,_,_,_,_=>bO
 | n+1,Γ,m,f,a,es,cp=>match f with
  | .Name x _=>if fu x=true then(if qT Γ x=true then Pc n Γ m x a es else if IT Γ x=true then GL n Γ x a es else bO)else bO
  | .Subscript v k p=>r6 Γ.fns Γ.call (aW n Γ 0 (.Subscript v k p)) (iA n Γ 0 (a::es))
  | .Attribute o g ap=>if(uS o&&(ap.endLine==cp.line)&&decide ((a::es).length<30))=true then(if g==("count":Str)then Kb "list" Ks (aW n Γ 0 o) (iA n Γ 0 (a::es))else match wC g with | some w=>Kb w.1 w.2 (aW n Γ 0 o) (iA n Γ (XD Γ g o) (a::es)) | none=>bO)else bO
  | _=>bO
termination_by structural n=>n
noncomputable def GL:Nat->Gm->Str->Expr->List Expr->Gx PV
 | 0,_,_,_,_=>bO
 | n+1,Γ,x,a,es=>match slot Γ x with
  | some i=>r6 Γ.fns Γ.call (rd i) (iA n Γ 0 (a::es))
  | none=>bO
termination_by structural n=>n
noncomputable def Pc:Nat->Gm->Nat->Str->Expr->List Expr->Gx PV
 | 0,_,_,_,_,_=>bO
 | n+1,Γ,m,x,a,es=>if x==("spread":Str)then GN n Γ a es else match Γ.fns.lookup x with
  | some k=>bnd (iA n Γ 0 (a::es)) (i8 m k (Γ.call x))
  | none=>match Γ.cls.lookup x with
   | some k=>(match m with | 0=>SQ x k (Γ.make x) (iA n Γ 0 (a::es)) | _=>bO)
   | none=>if Γ.cw.contains x=true then(if x==("isinstance":Str)then GO n Γ a es else if x==("sorted":Str)then GP n Γ a es else if x==("dict":Str)then Pd n Γ a es else if x==("list":Str)then GQ n Γ m a es else if O7 Γ x a es=true then O2 (aW n Γ 0 (XF a))else match uV x with | some g=>yY g (iA n Γ 0 (a::es)) | none=>bO)else bO
termination_by structural n=>n
noncomputable def GN:Nat->Gm->Expr->List Expr->Gx PV
 | 0,_,_,_=>bO
 | n+1,Γ,a,es=>bO
termination_by structural n=>n
noncomputable def GQ:Nat->Gm->Nat->Expr->List Expr->Gx PV
 | 0,_,_,_,_=>bO
 | n+1,Γ,m,a,es=>match es with
  | []=>(match zA a with
   | some ⟨zs,_⟩=>if(zs.1==("range":Str)&&dN Γ zs.1&&(zs.2.1::zs.2.2).all aO)=true then Xb m (iA n Γ 0 (zs.2.1::zs.2.2))else(match zs.2.2 with
    | [b]=>if(zs.1==("zip":Str)&&dN Γ zs.1&&aO zs.2.1&&aO b)=true then OT m (aW n Γ 0 zs.2.1) (aW n Γ 0 b)else bO
    | _=>bO)
   | none=>Kp m (aW n Γ 0 a))
  | _=>bO
termination_by structural n=>n
noncomputable def Pd:Nat->Gm->Expr->List Expr->Gx PV
 | 0,_,_,_=>bO
 | n+1,Γ,a,es=>match es with
  | []=>(match a with
   | .BinOp l .Add r _=>Bb (aW n Γ 0 l) (aW n Γ 0 r)
   | a=>Km (aW n Γ 0 a))
  | _=>bO
termination_by structural n=>n
noncomputable def GP:Nat->Gm->Expr->List Expr->Gx PV
 | 0,_,_,_=>bO
 | n+1,Γ,a,es=>bO
termination_by structural n=>n
noncomputable def GO:Nat->Gm->Expr->List Expr->Gx PV
 | 0,_,_,_=>bO
 | n+1,Γ,a,es=>match es with
  | [.Name t _]=>if dN Γ t=true then(match AU t with | some g=>Wx g (aW n Γ 0 a) | none=>bO)else bO
  | _=>bO
termination_by structural n=>n
noncomputable def O8:Nat->Gm->Expr->List CmpOp->List Expr->Gx PV
 | 0,_,_,_,_=>bO
 | n+1,Γ,a,ops,bs=>match ops,bs with
  | [op],[b]=>if aO b=true then(match GI Γ op b with | some y=>CI y.1 y.2 (aW n Γ 0 a) | none=>match za op with | some g=>op2 g (aW n Γ 0 a) (aW n Γ 0 b) | none=>bO)else bO
  | [op,vz],[b,c]=>if aO c=true then(match za op,za vz with | some g,some g'=>chain g g' (aW n Γ 0 a) (aW n Γ 0 b) (aW n Γ 0 c) | _,_=>bO)else bO
  | _,_=>bO
termination_by structural n=>n
noncomputable def O9:Nat->Gm->Expr->Expr->Gx PV
 | 0,_,_,_=>bO
 | n+1,Γ,a,b=>match uW b with
  | some ⟨lh,_⟩=>cutE (aW n Γ 0 a) (C2 n Γ lh.1) (C2 n Γ lh.2)
  | none=>match zz b with
  | some ⟨lm,_⟩=>NP (aW n Γ 0 a) (C2 n Γ lm.1) (C2 n Γ (some lm.2))
  | none=>if nD b=true then(match a with
   | .Name T p=>if(fu T&&qT Γ T)=true then(match Γ.c8.lookup T with
    | some rows=>FY (λk=>rows.lookup k) (aW n Γ 0 b)
    | none=>match Γ.tabs.lookup T with
     | some rows=>FY (λk=>(rows.lookup k).map .fn) (aW n Γ 0 b)
     | none=>op2 dI (aW n Γ 0 (.Name T p)) (aW n Γ 0 b))else op2 dI (aW n Γ 0 (.Name T p)) (aW n Γ 0 b)
   | a=>op2 dI (aW n Γ 0 a) (aW n Γ 0 b))else bO
termination_by structural n=>n
noncomputable def qU:Nat->Gm->Expr->Gx Bool
 | 0,_,_=>bO
 | n+1,Γ,e=>match e with
  | .UnaryOp .Not a _=>yV (qU n Γ a)
  | .BoolOp op vs _=>GR n Γ op vs
  | .Compare a [op] [b] _=>if aO b=true then(match GI Γ op b with | some y=>toB (CI y.1 y.2 (aW n Γ 0 a)) | none=>match za op with | some g=>toB (op2 g (aW n Γ 0 a) (aW n Γ 0 b)) | none=>bO)else bO
  | .Compare a [op,vz] [b,c] _=>if aO c=true then(match za op,za vz with | some g,some g'=>toB (chain g g' (aW n Γ 0 a) (aW n Γ 0 b) (aW n Γ 0 c)) | _,_=>bO)else bO
  | e=>if zu e=true then v3 (aW n Γ 0 e)else bO
termination_by structural n=>n
noncomputable def GJ:Nat->Gm->BoolOp->List Expr->Gx PV
 | 0,_,_,_=>bO
 | n+1,Γ,op,[a]=>aW n Γ 0 a
 | n+1,Γ,.And,a::b::r=>Nl (aW n Γ 0 a) (GJ n Γ .And (b::r))
 | n+1,Γ,.Or,a::b::r=>Wr (aW n Γ 0 a) (GJ n Γ .Or (b::r))
 | _,_,_,_=>bO
termination_by structural n=>n
noncomputable def GR:Nat->Gm->BoolOp->List Expr->Gx Bool
 | 0,_,_,_=>bO
 | n+1,Γ,op,[a]=>qU n Γ a
 | n+1,Γ,.And,a::b::r=>iV (qU n Γ a) (GR n Γ .And (b::r)) (b6 false)
 | n+1,Γ,.Or,a::b::r=>iV (qU n Γ a) (b6 true) (GR n Γ .Or (b::r))
 | _,_,_,_=>bO
termination_by structural n=>n
noncomputable def iA:Nat->Gm->Nat->List Expr->Gx (List PV)
 | 0,_,_,_=>bO
 | n+1,Γ,m,[]=>b6 []
 | n+1,Γ,m,e::es=>if aO e=true then fy (aW n Γ m e) (iA n Γ m es)else bO
termination_by structural n=>n
noncomputable def C2:Nat->Gm->Option Expr->Gx (Option Int)
 | 0,_,_=>bO
 | n+1,Γ,none=>b6 none
 | n+1,Γ,some e=>Fc (aW n Γ 0 e)
termination_by structural n=>n
noncomputable def GS:Nat->Gm->Expr->Expr->Gx A2
 | 0,_,_,_=>bO
 | n+1,Γ,tg,e=>match e with
  | .Call (.Name x p) [a] [] cp=>if(x==("range":Str)&&dN Γ x&&aO a)=true then Qk (Fy Cz (iA n Γ 0 [a]))
    else if(x==("enumerate":Str)&&dN Γ x&&aO a&&A1 tg)=true then Qk (FD (aW n Γ 0 a))
    else if(x==("reversed":Str)&&dN Γ x)=true then(match uX a []with | some ⟨ze,_⟩=>if(ze.1==("range":Str)&&dN Γ ze.1&&aO ze.2)=true then bO else bO | none=>bO)
    else qO (aW n Γ 0 (.Call (.Name x p) [a] [] cp))
  | .Call (.Name x p) [a,b] [] cp=>if(x==("range":Str)&&dN Γ x&&aO a&&aO b)=true then Qk (Fy J3 (iA n Γ 0 [a,b]))
    else if(x==("zip":Str)&&dN Γ x&&aO a&&aO b&&A1 tg)=true then Qk (O1 (aW n Γ 0 a) (aW n Γ 0 b))
    else qO (aW n Γ 0 (.Call (.Name x p) [a,b] [] cp))
  | e=>if aO e=true then qO (aW n Γ 0 e)else bO
termination_by structural n=>n
noncomputable def Pa:Nat->Gm->Nat->Expr->List Comprehension->Scope->Gx PV
 | 0,_,_,_,_,_=>bO
 | n+1,Γ,m,elt,gens,scope=>match gens with
  | [⟨tg,iter,ifs,0⟩]=>if aO iter=true then(match uU n (sE Γ scope) tg with
   | some g=>if qb Γ scope g.2=true then(match ifs with
    | []=>i4 (m != 0) (fS Γ scope) (GS n Γ tg iter) (pz g.1 (aW n (sE Γ scope) (CZ m) elt))
    | [c]=>i4 (m != 0) (fS Γ scope) (GS n Γ tg iter) (Ft g.1 (qU n (sE Γ scope) c) (aW n (sE Γ scope) (CZ m) elt))
    | _=>bO)else bO
   | none=>bO)else bO
  | _=>bO
termination_by structural n=>n
end
def CC(X:Cx)(aa:Hp)(ab:Fz)(elt:Expr)(gens:List Comprehension)(scope:Scope)(p:Pos)(f:Gx PV):Prop:=PE X (.ListComp elt gens scope p) (tE X aa ab f) /\
  ∀i x p' sp,X.N[i]?=some x->X.env.scope.names.lookup x=some .local->swapsWith (.ListComp elt gens scope p) (some (.Name x p')) sp.line X.env=pure true ->
   PS X (.Assign [.Name x p'] (.ListComp elt gens scope p) sp) (tS X aa ab (pe f (cO i)))
structure XG (n:Nat):Prop where
 e:∀Γ X aa ab m e,GOk Γ X aa ab->PE X e (tE X aa ab (aW n Γ m e))
 f:∀Γ X aa ab m f a es cp,GOk Γ X aa ab->(a::es).all aO=true->PE X (.Call f (a::es) [] cp) (tE X aa ab (Pb n Γ m f a es cp))
 o:∀Γ X aa ab x a es p cp,GOk Γ X aa ab->(a::es).all aO=true->fu x=true->IT Γ x=true->PE X (.Call (.Name x p) (a::es) [] cp) (tE X aa ab (GL n Γ x a es))
 cn:∀Γ X aa ab m x a es p cp,GOk Γ X aa ab->(a::es).all aO=true->fu x=true->qT Γ x=true->PE X (.Call (.Name x p) (a::es) [] cp) (tE X aa ab (Pc n Γ m x a es))
 sp:∀Γ X aa ab a es p cp,GOk Γ X aa ab->(a::es).all aO=true->qT Γ "spread"=true->PE X (.Call (.Name "spread" p) (a::es) [] cp) (tE X aa ab (GN n Γ a es))
 st:∀Γ X aa ab a es p cp,GOk Γ X aa ab->(a::es).all aO=true->qT Γ "sorted"=true->Γ.cw.contains "sorted"=true->PE X (.Call (.Name "sorted" p) (a::es) [] cp) (tE X aa ab (GP n Γ a es))
 d:∀Γ X aa ab a es p cp,GOk Γ X aa ab->(a::es).all aO=true->qT Γ "dict"=true->Γ.cw.contains "dict"=true->PE X (.Call (.Name "dict" p) (a::es) [] cp) (tE X aa ab (Pd n Γ a es))
 li:∀Γ X aa ab m a es p cp,GOk Γ X aa ab->(a::es).all aO=true->qT Γ "list"=true->Γ.cw.contains "list"=true->PE X (.Call (.Name "list" p) (a::es) [] cp) (tE X aa ab (GQ n Γ m a es))
 is:∀Γ X aa ab a es p cp,GOk Γ X aa ab->(a::es).all aO=true->qT Γ "isinstance"=true->Γ.cw.contains "isinstance"=true->PE X (.Call (.Name "isinstance" p) (a::es) [] cp) (tE X aa ab (GO n Γ a es))
 k:∀Γ X aa ab a ops bs p,GOk Γ X aa ab->PE X (.Compare a ops bs p) (tE X aa ab (O8 n Γ a ops bs))
 x:∀Γ X aa ab a b p,GOk Γ X aa ab->PE X (.Subscript a b p) (tE X aa ab (O9 n Γ a b))
 t:∀Γ X aa ab e,GOk Γ X aa ab->PT X e (tT X aa ab (qU n Γ e))
 b:∀Γ X aa ab op vs p,GOk Γ X aa ab->PE X (.BoolOp op vs p) (tE X aa ab (GJ n Γ op vs))
 w:∀Γ X aa ab op vs p,GOk Γ X aa ab->PW X (.BoolOp op vs p) (tT X aa ab (GR n Γ op vs))
 a:∀Γ X aa ab m es,GOk Γ X aa ab->PA X es (tA X aa ab (iA n Γ m es))
 l:∀Γ X aa ab e,GOk Γ X aa ab->PO X e (JE X aa ab (C2 n Γ e))
 i:∀Γ X aa ab tg e,GOk Γ X aa ab->PI X tg e (CA X aa ab (GS n Γ tg e))
 c:∀Γ X aa ab m elt gens scope p,GOk Γ X aa ab->CC X aa ab elt gens scope p (Pa n Γ m elt gens scope)
def pI{X:Cx}{aa:Hp}{ab:Fz}{e:Expr}{c:Prop} [Decidable c] {f g:Gx PV} (h:c->PE X e (tE X aa ab f)) (h':PE X e (tE X aa ab g)):PE X e (tE X aa ab (if c then f else g)):=by
 split
 ·exact h ‹_›
 ·exact h'
def pJ{X:Cx}{aa:Hp}{ab:Fz}{e:Expr}{c:Prop} [Decidable c] {f:Gx PV} (h:c->PE X e (tE X aa ab f)):PE X e (tE X aa ab (if c then f else bO)):=pI h aU
def gf:PS X s (tS X aa ab bO):=λ_ _ _ _ _ _ ⟨F,st,R,r,z,_⟩=>by cases z
def uY:PS X s (tS X aa ab (pe bO g)):=λ_ _ _ _ _ _ ⟨F,st,R,r,z,_⟩=>by cases z
def Tq{ab:Fz}:PO X e (JE X aa ab bO):=λ_ _ _ _ _ _ h=>sF h
def GU:XG 0 where
 e:=λ_ _ _ _ _ _ _=>aU
 f:=λ_ _ _ _ _ _ _ _ _ _ _=>aU
 o:=λ_ _ _ _ _ _ _ _ _ _ _ _ _=>aU
 cn:=λ_ _ _ _ _ _ _ _ _ _ _ _ _ _=>aU
 sp:=λ_ _ _ _ _ _ _ _ _ _ _=>aU
 st:=λ_ _ _ _ _ _ _ _ _ _ _ _=>aU
 d:=λ_ _ _ _ _ _ _ _ _ _ _ _=>aU
 li:=λ_ _ _ _ _ _ _ _ _ _ _ _ _=>aU
 is:=λ_ _ _ _ _ _ _ _ _ _ _ _=>aU
 k:=λ_ _ _ _ _ _ _ _ _=>aU
 x:=λ_ _ _ _ _ _ _ _=>aU
 t:=λ_ _ _ _ _ _=>sG
 b:=λ_ _ _ _ _ _ _ _=>aU
 w:=λ_ _ _ _ _ _ _ _=>GH
 a:=λ_ _ _ _ _ _ _=>LY
 l:=λ_ _ _ _ _ _=>Tq
 i:=λ_ _ _ _ _ _ _=>wW
 c:=λ_ _ _ _ _ _ _ _ _ _=>⟨aU,λ_ _ _ _ _ _ _=>uY⟩
section
variable {n:Nat} (S:XG n)
include S
def Ts(Γ:Gm)(X:Cx)(aa:Hp)(ab:Fz)(op:BoolOp)(vs:List Expr)(p:Pos)(G:GOk Γ X aa ab):PE X (.BoolOp op vs p) (tE X aa ab (GJ (n+1) Γ op vs)):=by
 match op,vs with
 | .And,[]=>exact aU
 | .Or,[]=>exact aU
 | .And,[a]=>exact Es (S.e Γ X aa ab 0 a G)
 | .Or,[a]=>exact Es (S.e Γ X aa ab 0 a G)
 | .And,a::b::r=>exact RM (S.e Γ X aa ab 0 a G) (S.b Γ X aa ab .And (b::r) p G)
 | .Or,a::b::r=>exact Ws (S.e Γ X aa ab 0 a G) (S.b Γ X aa ab .Or (b::r) p G)
def Tt(Γ:Gm)(X:Cx)(aa:Hp)(ab:Fz)(op:BoolOp)(vs:List Expr)(p:Pos)(G:GOk Γ X aa ab):PW X (.BoolOp op vs p) (tT X aa ab (GR (n+1) Γ op vs)):=by
 match op,vs with
 | .And,[]=>exact GH
 | .Or,[]=>exact GH
 | .And,[a]=>exact IH (S.t Γ X aa ab a G)
 | .Or,[a]=>exact ME (S.t Γ X aa ab a G)
 | .And,a::b::r=>exact RK (S.t Γ X aa ab a G) (S.w Γ X aa ab .And (b::r) p G)
 | .Or,a::b::r=>exact Wq (S.t Γ X aa ab a G) (S.w Γ X aa ab .Or (b::r) p G)
def Tu(Γ:Gm)(X:Cx)(aa:Hp)(ab:Fz)(m:Nat)(es:List Expr)(G:GOk Γ X aa ab):PA X es (tA X aa ab (iA (n+1) Γ m es)):=by
 match es with
 | []=>exact RO
 | e::es =>
  unfold iA;split
  ·rename_i hp;exact Nn (S.e Γ X aa ab m e G) (S.a Γ X aa ab m es G) (aJ hp _ _)
  ·exact LY
def Tv(Γ:Gm)(X:Cx)(aa:Hp)(ab:Fz)(e:Option Expr)(G:GOk Γ X aa ab):PO X e (JE X aa ab (C2 (n+1) Γ e)):=by
 match e with
 | none=>exact NK
 | some e=>exact NL (S.e Γ X aa ab 0 e G)
def Tw(Γ:Gm)(X:Cx)(aa:Hp)(ab:Fz)(a:Expr)(ops:List CmpOp)(bs:List Expr)(p:Pos)(G:GOk Γ X aa ab):PE X (.Compare a ops bs p) (tE X aa ab (O8 (n+1) Γ a ops bs)):=by
 rcases ops with _ | ⟨op,_ | ⟨vz,_ | _⟩⟩<;>rcases bs with _ | ⟨b,_ | ⟨c,_ | _⟩⟩<;>try exact aU
 ·show PE X _ (tE X aa ab (ite _ _ _));split
  ·rename_i hp;split
   ·rename_i y h0;obtain⟨T,q,rfl,h1,h2,h3,h4⟩:=qc h0;exact(LM (G.c8 _ _ h3) (G.fD h2) (S.e Γ X aa ab 0 _ G) (eL h1).1 h4 (dJ hp _)).1
   split
   ·rename_i g h1;exact RH (jg G.un h1) (S.e Γ X aa ab 0 _ G) (S.e Γ X aa ab 0 _ G) (dJ hp _)
   ·exact aU
  ·exact aU
 ·show PE X _ (tE X aa ab (ite _ _ _));split
  ·rename_i hp;split
   ·rename_i g g' h1 h2;exact Jt (jg G.un h1) (jg G.un h2) (S.e Γ X aa ab 0 _ G) (S.e Γ X aa ab 0 _ G) (S.e Γ X aa ab 0 _ G) (dJ hp _)
   ·exact aU
  ·exact aU
def Tz(Γ:Gm)(X:Cx)(aa:Hp)(ab:Fz)(e:Expr)(G:GOk Γ X aa ab):PT X e (tT X aa ab (qU (n+1) Γ e)):=by
 have df:∀e,PT X e (tT X aa ab (if zu e=true then v3 (aW n Γ 0 e)else bO)):=λe=>by
  split
  ·rename_i hp;exact RJ (S.e Γ X aa ab 0 _ G) λil=>GA hp _ il
  ·exact sG
 cases e with
 | UnaryOp op=>cases op with
  | Not=>exact RL (S.t Γ X aa ab _ G)
  | _=>exact df _
 | BoolOp=>exact(S.w Γ X aa ab _ _ _ G).pt
 | Compare a ops bs =>
  rcases ops with _ | ⟨op,_ | ⟨vz,_ | _⟩⟩<;>rcases bs with _ | ⟨b,_ | ⟨c,_ | _⟩⟩<;>try exact df _
  ·show PT X _ (tT X aa ab (ite _ _ _));split
   ·rename_i hp;split
    ·rename_i y h0;obtain⟨T,q,rfl,h1,h2,h3,h4⟩:=qc h0;exact(LM (G.c8 _ _ h3) (G.fD h2) (S.e Γ X aa ab 0 _ G) (eL h1).1 h4 (dJ hp _)).2
    split
    ·rename_i g h1;exact RI (jg G.un h1) (S.e Γ X aa ab 0 _ G) (S.e Γ X aa ab 0 _ G) (dJ hp _)
    ·exact sG
   ·exact sG
  ·show PT X _ (tT X aa ab (ite _ _ _));split
   ·rename_i hp;split
    ·rename_i g g' h1 h2;exact Ju (jg G.un h1) (jg G.un h2) (S.e Γ X aa ab 0 _ G) (S.e Γ X aa ab 0 _ G) (S.e Γ X aa ab 0 _ G) (dJ hp _)
    ·exact sG
   ·exact sG
 | _=>exact df _
def Pe(Γ:Gm)(X:Cx)(aa:Hp)(ab:Fz)(a:Expr)(es:List Expr)(p cp:Pos)(G:GOk Γ X aa ab)(hp:(a::es).all aO=true)(hg:qT Γ "sorted"=true)(hb:Γ.cw.contains "sorted"=true):PE X (.Call (.Name "sorted" p) (a::es) [] cp) (tE X aa ab (GP (n+1) Γ a es)):=by
 exact aU
def TC(Γ:Gm)(X:Cx)(aa:Hp)(ab:Fz)(a:Expr)(es:List Expr)(p cp:Pos)(G:GOk Γ X aa ab)(hp:(a::es).all aO=true)(hg:qT Γ "dict"=true)(hb:Γ.cw.contains "dict"=true):PE X (.Call (.Name "dict" p) (a::es) [] cp) (tE X aa ab (Pd (n+1) Γ a es)):=by
 rw[gr,aC]at hp;cases es with
 | cons=>exact aU
 | nil=>cases a with
  | BinOp l op=>cases op with
   | Add=>exact OB G.hd (G.fD hg) (G.cw _ hb) (S.e Γ X aa ab 0 _ G) (S.e Γ X aa ab 0 _ G) rfl
   | _=>exact Gd G.hd (G.fD hg) (G.cw _ hb) (S.e Γ X aa ab 0 _ G) (aJ hp.1 _ _)
  | _=>exact Gd G.hd (G.fD hg) (G.cw _ hb) (S.e Γ X aa ab 0 _ G) (aJ hp.1 _ _)
def Pf(Γ:Gm)(X:Cx)(aa:Hp)(ab:Fz)(m:Nat)(a:Expr)(es:List Expr)(p cp:Pos)(G:GOk Γ X aa ab)(hp:(a::es).all aO=true)(hg:qT Γ "list"=true)(hb:Γ.cw.contains "list"=true):PE X (.Call (.Name "list" p) (a::es) [] cp) (tE X aa ab (GQ (n+1) Γ m a es)):=by
 rw[gr,aC]at hp;cases es with
 | cons=>exact aU
 | nil =>
  show PE X _ (tE X aa ab (match zA a with | some ⟨zs,_⟩=>_ | none=>Kp m (aW n Γ 0 a)))
  rcases zA a with _ | ⟨⟨z,b,bs⟩,zp,pE,rfl⟩
  ·exact OH (G.fD hg) (G.cw _ hb) (S.e Γ X aa ab 0 _ G) λ_=>aJ hp.1 _ _
  ·refine pI (λhc=>?_) ?_
   ·simp only[dN,aC]at hc;obtain⟨⟨hx,g1,g2⟩,DO⟩:=hc;have hx:=aH hx;subst hx;rw[gr,aC]at DO;exact S4 G.hd (G.fD hg) (G.cw _ hb) (G.fD g1) (G.cw _ g2) (S.a Γ X aa ab 0 _ G) (aJ DO.1 _ _) (dM DO.2 _ _)
   ·rcases bs with _ | ⟨c,_ | _⟩
    ·exact aU
    ·refine pJ λhc=>?_
     simp only[dN,aC]at hc;obtain⟨⟨⟨hx,g1,g2⟩,p1⟩,p2⟩:=hc;have hx:=aH hx;subst hx;exact OU G.hd (G.fD hg) (G.cw _ hb) (G.fD g1) (G.cw _ g2) (S.e Γ X aa ab 0 _ G) (S.e Γ X aa ab 0 _ G) (aJ p1 _ _) (aJ p2 _ _)
    ·exact aU
def Ph(Γ:Gm)(X:Cx)(aa:Hp)(ab:Fz)(a:Expr)(es:List Expr)(p cp:Pos)(G:GOk Γ X aa ab)(hp:(a::es).all aO=true)(hg:qT Γ "isinstance"=true)(hb:Γ.cw.contains "isinstance"=true):PE X (.Call (.Name "isinstance" p) (a::es) [] cp) (tE X aa ab (GO (n+1) Γ a es)):=by
 cases es with
 | nil=>exact aU
 | cons e es=>cases e with
  | Name t=>cases es with
   | cons=>exact aU
   | nil =>
    refine pJ λhc=>?_
    unfold dN at hc;rw[aC]at hc;rw[gr,aC]at hp;cases h1:AU t with
    | none=>exact aU
    | some g=>exact Wy h1 (G.fD hg) (G.cw _ hb) (G.fD hc.1) (G.cw _ hc.2) (S.e Γ X aa ab 0 a G) λes=>aJ hp.1 es _
  | _=>exact aU
def TF(Γ:Gm)(X:Cx)(aa:Hp)(ab:Fz)(a b:Expr)(p:Pos)(G:GOk Γ X aa ab):PE X (.Subscript a b p) (tE X aa ab (O9 (n+1) Γ a b)):=by
 show PE X _ (tE X aa ab (match uW b with | some ⟨lh,_⟩=>_ | none=>_))
 rcases uW b with _ | ⟨⟨lo,hi⟩,ps,rfl⟩
 ·show PE X _ (tE X aa ab (match zz b with | some ⟨lm,_⟩=>_ | none=>_))
  rcases zz b with _ | ⟨⟨lo,hi⟩,ps,rfl⟩
  rotate_left
  ·exact R7 (S.e Γ X aa ab 0 _ G) (S.l Γ X aa ab _ G) (S.l Γ X aa ab _ G)
  refine pJ λhp=>?_
  have gen:=λa=>Wz (pos:=p) G.un (S.e Γ X aa ab 0 a G) (S.e Γ X aa ab 0 b G) (qa hp)
  cases a with
  | Name T =>
   refine pI (λhc=>?_) (gen _)
   rw[aC]at hc;cases h0:Γ.c8.lookup T with
   | some rows=>exact SJ (G.c8 _ rows h0) (G.fD hc.2) (S.e Γ X aa ab 0 _ G) (qa hp) (eL hc.1).1
   | none =>
    cases h1:Γ.tabs.lookup T with
    | some rows=>exact SK (G.tabs _ rows h1) (G.fD hc.2) (S.e Γ X aa ab 0 _ G) (qa hp) (eL hc.1).1
    | none=>exact gen _
  | _=>exact gen _
 ·exact RX (S.e Γ X aa ab 0 _ G) (S.l Γ X aa ab _ G) (S.l Γ X aa ab _ G)
def TJ(Γ:Gm)(X:Cx)(aa:Hp)(ab:Fz)(tg e:Expr)(G:GOk Γ X aa ab):PI X tg e (CA X aa ab (GS (n+1) Γ tg e)):=by
 have df:∀e,PI X tg e (CA X aa ab (if aO e=true then qO (aW n Γ 0 e)else bO)):=λe=>by
  split
  ·exact FJ (S.e Γ X aa ab 0 _ G)
  ·exact wW
 cases e with
 | Call f as ks=>cases f with
  | Name x p =>
   rcases as with _ | ⟨a,_ | ⟨b,_ | _⟩⟩<;>rcases ks with _ | _<;>try exact df _
   ·show PI X _ _ (CA X aa ab (ite _ _ _));split
    ·rename_i hc;simp only[dN,aC]at hc;obtain⟨⟨hx,hg,hb⟩,hp⟩:=hc;have hx:=aH hx;subst hx;exact J5 <| FA (G.fD hg) (G.cw _ hb) (S.a Γ X aa ab 0 _ G) (aJ hp _ _)
    ·split
     ·rename_i hc;simp only[dN,aC]at hc;obtain⟨⟨⟨hx,hg,hb⟩,hp⟩,ht⟩:=hc;have hx:=aH hx;subst hx;exact J5 <| WO ht (G.fD hg) (G.cw _ hb) (S.e Γ X aa ab 0 _ G) (aJ hp _ _)
     ·split
      ·rename_i hc;simp only[dN,aC]at hc;obtain⟨hx,hg,hb⟩:=hc;have hx:=aH hx;subst hx;rcases uX a []with _ | ⟨⟨z,e⟩,_,zp,pE,rfl⟩
       ·exact wW
       ·show PI X _ _ (CA X aa ab (ite _ _ _));split
        ·rename_i hc;simp only[dN,aC]at hc;obtain⟨⟨hx,g1,g2⟩,DO⟩:=hc;have hx:=aH hx;subst hx;exact wW
        ·exact wW
      ·exact FJ (S.e Γ X aa ab 0 _ G)
   ·show PI X _ _ (CA X aa ab (ite _ _ _));split
    ·rename_i hc;simp only[dN,aC]at hc;obtain⟨⟨⟨hx,hg,hb⟩,hp⟩,DO⟩:=hc;have hx:=aH hx;subst hx;exact J5 <| FC (G.fD hg) (G.cw _ hb) (S.a Γ X aa ab 0 _ G) (by rw[aJ hp,aJ DO];rfl) (aJ DO _ _)
    ·split
     ·rename_i hc;simp only[dN,aC]at hc;obtain⟨⟨⟨⟨hx,hg,hb⟩,hp⟩,DO⟩,ht⟩:=hc;have hx:=aH hx;subst hx;exact J5 <| Ti ht (G.fD hg) (G.cw _ hb) (S.e Γ X aa ab 0 _ G) (S.e Γ X aa ab 0 _ G) (aJ hp _ _) (aJ DO _ _)
     ·exact FJ (S.e Γ X aa ab 0 _ G)
  | _=>exact df _
 | _=>exact df _
def KH:CC X aa ab elt gens scope p bO:=⟨aU,λ_ _ _ _ _ _ _=>uY⟩
def cI{c:Prop} [Decidable c] (h:c->CC X aa ab elt gens scope p f):CC X aa ab elt gens scope p (if c then f else bO):=by
 split
 ·exact h ‹_›
 ·exact KH
def TK(Γ:Gm)(X:Cx)(aa:Hp)(ab:Fz)(m:Nat)(elt:Expr)(gens:List Comprehension)(scope:Scope)(p:Pos)(G:GOk Γ X aa ab):CC X aa ab elt gens scope p (Pa (n+1) Γ m elt gens scope):=by
 rcases gens with _ | ⟨⟨tg,iter,ifs,(_ | _) | _⟩,_ | _⟩<;>try exact KH
 refine cI λhp=>?_
 cases h2:uU n (sE Γ scope) tg with
 | none=>exact KH
 | some g =>
  refine cI λhc=>?_
  have SC:=zy G hc;have hL:=(lr hc).2.2.2;have GK:=GG G hc;have hi:=S.i Γ X aa ab tg iter G;have hg:=λC s H fp=>(lq (GK C s H fp aa ab) n tg g h2).1
  have kg:=(lq (GK 0 X.s₀ X.aa [] aa ab) n tg g h2).2.1;have he:=λC s H fp=>S.e _ _ _ _ (CZ m) elt (GK C s H fp aa ab)
  rcases ifs with _ | ⟨c,_ | _⟩
  ·exact⟨(AZ G.calm SC hi (Y1 hg he) (fR hp _)).imp λσ H Q h=>FK kg hL h,λi x p' sp hx hl hw=>(A0 G.calm G.nd hx hl SC hi (Y1 hg he) hw (fR hp _)).imp λD σ H h=>FK kg hL (nA h)⟩
  ·have ht:=λC s H fp=>S.t _ _ _ _ c (GK C s H fp aa ab)
   exact⟨(AZ G.calm SC hi (Y2 hg he ht) (fR hp _)).imp λσ H Q h=>FL kg hL h,λi x p' sp hx hl hw=>(A0 G.calm G.nd hx hl SC hi (Y2 hg he ht) hw (fR hp _)).imp λD σ H h=>FL kg hL (nA h)⟩
  ·exact KH
def TL(Γ:Gm)(X:Cx)(aa:Hp)(ab:Fz)(x:Str)(a:Expr)(es:List Expr)(p cp:Pos)(G:GOk Γ X aa ab)(hp:(a::es).all aO=true)(hn:fu x=true)(hv:IT Γ x=true):PE X (.Call (.Name x p) (a::es) [] cp) (tE X aa ab (GL (n+1) Γ x a es)):=by
 have xE:=nY.mp (gr▸hp);cases h1:slot Γ x with
 | none=>show PE X _ (tE X aa ab (match slot Γ x with | some i=>_ | none=>bO));rw[h1];exact aU
 | some i =>
  show PE X _ (tE X aa ab (match slot Γ x with | some i=>r6 Γ.fns Γ.call (rd i) (iA n Γ 0 (a::es)) | none=>bO))
  rw[h1];exact Kg G.fns G.ns (Ly i (sx G hn hv h1)) (S.a Γ X aa ab 0 _ G) (aJ xE.1 _ _) (dM xE.2 _ _)
def Pj(Γ:Gm)(X:Cx)(aa:Hp)(ab:Fz)(a:Expr)(es:List Expr)(p cp:Pos)(G:GOk Γ X aa ab)(hp:(a::es).all aO=true)(hg:qT Γ "spread"=true):PE X (.Call (.Name "spread" p) (a::es) [] cp) (tE X aa ab (GN (n+1) Γ a es)):=by
 exact aU
def TM(Γ:Gm)(X:Cx)(aa:Hp)(ab:Fz)(m:Nat)(x:Str)(a:Expr)(es:List Expr)(p cp:Pos)(G:GOk Γ X aa ab)(hp:(a::es).all aO=true)(hn:fu x=true)(hg:qT Γ x=true):PE X (.Call (.Name x p) (a::es) [] cp) (tE X aa ab (Pc (n+1) Γ m x a es)):=by
 have xE:=hp;rw[gr,aC]at xE;obtain⟨n1,n2,n3⟩:=eL hn;have ha:=S.a Γ X aa ab 0 (a::es) G;have h1:=aJ xE.1 es X.env;have h2:=dM xE.2 X.env cp;refine pI (λhx=>?_) ?_
 ·cases aH hx;exact S.sp Γ X aa ab a es p cp G hp hg
 cases hk:Γ.fns.lookup x with
 | some k =>
  obtain⟨j,f,fd,ps,F,hr,q1,q2,q3⟩:=G.fns _ k hk;exact Oe (XC F hr q3) (G.fD hg) q1 q2 ha n1 h1 h2
 | none=>cases hk:Γ.cls.lookup x with
  | some k=>cases m with
   | zero =>
    obtain⟨j,Ca,f,fd,ps,hC,c,M,F,hr,q1,q2⟩:=G.cls _ k hk;exact(Jg (p:=p) M F hr (G.fD hg) q1 q2 .nil E2 ha n1 h1 h2).imp λσ H Q h=>Kh hC c h
   | succ=>exact aU
  | none =>
   refine pJ λhb=>pI (λhx=>?_) (pI (λhx=>?_) (pI (λhx=>?_) (pI (λhx=>?_) (pI (λhx=>?_) ?_))))
   ·cases aH hx;exact S.is Γ X aa ab a es p cp G hp hg hb
   ·cases aH hx;exact S.st Γ X aa ab a es p cp G hp hg hb
   ·cases aH hx;exact S.d Γ X aa ab a es p cp G hp hg hb
   ·cases aH hx;exact S.li Γ X aa ab m a es p cp G hp hg hb
   ·obtain⟨rfl,rfl,e,zp,zq,rfl,g1,g2,g3⟩:=C1 hx;exact O3 G.hd (G.fD hg) (G.cw _ hb) (G.fD g1) (G.cw _ g2) (S.e Γ X aa ab 0 _ G) (aJ g3 _ _)
   cases hg':uV x with
   | some g=>exact O5 hg' G.hd (G.fD hg) (G.cw _ hb) ha h1 h2
   | none=>exact aU
def TN(Γ:Gm)(X:Cx)(aa:Hp)(ab:Fz)(m:Nat)(f a:Expr)(es:List Expr)(cp:Pos)(G:GOk Γ X aa ab)(hp:(a::es).all aO=true):PE X (.Call f (a::es) [] cp) (tE X aa ab (Pb (n+1) Γ m f a es cp)):=by
 have xE:=hp;rw[gr,aC]at xE;cases f with
 | Name=>exact pJ λhn=>pI (λhg=>S.cn Γ X aa ab m _ a es _ cp G hp hn hg) (pJ λhv=>S.o Γ X aa ab _ a es _ cp G hp hn hv)
 | Subscript=>exact Kf G.fns G.ns (S.e Γ X aa ab 0 _ G) (S.a Γ X aa ab 0 _ G) (aJ xE.1 _ _) (dM xE.2 _ _)
 | Attribute o g ap =>
  refine pJ λhc=>?_
  simp only[aC,iK]at hc;refine pI (λhx=>?_) ?_
  ·have hx:=aH hx;subst hx;exact S7 G.un (S.e Γ X aa ab 0 _ G) (S.a Γ X aa ab _ _ G) (lj hc.1.1) (Bm hp hc.2) hc.1.2 (aJ xE.1 _ _) (dM xE.2 _ _)
  show PE X _ (tE X aa ab (match wC g with | some w=>_ | none=>bO))
  cases hw:wC g with
  | none=>exact aU
  | some w=>exact WX G.un hw (S.e Γ X aa ab 0 _ G) (S.a Γ X aa ab _ _ G) (lj hc.1.1) (Bm hp hc.2) hc.1.2 (aJ xE.1 _ _) (dM xE.2 _ _)
 | _=>exact aU
def TQ(Γ:Gm)(X:Cx)(aa:Hp)(ab:Fz)(m:Nat)(e:Expr)(G:GOk Γ X aa ab):PE X e (tE X aa ab (aW (n+1) Γ m e)):=by
 cases e with
 | Constant c=>cases c<;>first | exact aU | exact RF | exact Wn | exact RE | exact RG
 | Name x =>
  show PE X _ (tE X aa ab (O6 Γ x));unfold O6;split
  ·rename_i hn;split
   ·rename_i hv;split
    ·rename_i i hi;exact Ly i (sx G hn hv hi)
    ·exact aU
   ·split
    ·rename_i hg;split
     ·rename_i q hq;obtain⟨u,v,g1,g2,g3⟩:=G.cons _ q hq;exact vY (kG (G.fD hg) g1 g2 (eL hn).1) g3
     ·exact aU
    ·exact aU
  ·exact aU
 | BinOp a op b =>
  refine pI (λhc=>?_) ?_
  ·rw[aC]at hc;obtain rfl:op=.Add:=by
    cases op<;>first | rfl | cases hc.2
   exact OK (S.e Γ X aa ab 0 _ G) (S.e Γ X aa ab 0 _ G)
  show PE X _ (tE X aa ab (match KD op with | some g=>op2 g (aW n Γ 0 a) (aW n Γ 0 b) | none=>bO))
  cases h1:KD op with
  | none=>exact aU
  | some=>exact Wo (Gq h1) (S.e Γ X aa ab 0 _ G) (S.e Γ X aa ab 0 _ G)
 | UnaryOp op=>cases op with
  | Not=>exact RN (S.e Γ X aa ab 0 _ G)
  | USub=>exact R0 (S.e Γ X aa ab 0 _ G)
  | _=>exact aU
 | BoolOp=>exact S.b Γ X aa ab _ _ _ G
 | Compare=>exact S.k Γ X aa ab _ _ _ _ G
 | IfExp=>exact Wt (S.t Γ X aa ab _ G) (S.e Γ X aa ab m _ G) (S.e Γ X aa ab m _ G)
 | Tuple=>exact RP (S.a Γ X aa ab m _ G)
 | List=>cases m with
  | zero=>exact RQ (S.a Γ X aa ab 0 _ G)
  | succ=>exact Nq (S.a Γ X aa ab _ _ G)
 | Dict ks vs=>rcases ks with _ | _<;>rcases vs with _ | _<;>first | exact SH _ | exact aU
 | Subscript=>exact S.x Γ X aa ab _ _ _ G
 | ListComp=>exact(S.c Γ X aa ab m _ _ _ _ G).1
 | Attribute =>
  show PE X _ (tE X aa ab (ite _ _ _));split
  ·rename_i hb;exact SM (S.e Γ X aa ab 0 _ G) (lj hb)
  ·exact aU
 | Call f as ks=>cases as with
  | cons=>cases ks with
   | cons=>exact aU
   | nil =>
    show PE X _ (tE X aa ab (ite _ _ _));split
    ·rename_i hp;exact S.f Γ X aa ab m _ _ _ _ G hp
    ·exact aU
  | nil=>cases ks with
   | cons=>cases f<;>exact aU
   | nil=>cases f with
    | Attribute =>
     show PE X _ (tE X aa ab (ite _ _ _));split
     ·rename_i hc;rw[aC]at hc;split
      ·rename_i hx;have hx:=aH hx;subst hx;exact SS (S.e Γ X aa ab 0 _ G) (lj hc.1) hc.2
      split
      ·rename_i w hw;exact SD hw (S.e Γ X aa ab 0 _ G) (lj hc.1) hc.2
      ·exact aU
     ·exact aU
    | _=>exact aU
 | _=>exact aU
end
theorem snd:∀n:Nat,XG n
 | 0=>GU
 | n+1 =>
  have S:=snd n
  ⟨TQ S,TN S,TL S,TM S,Pj,Pe,TC S,Pf S,Ph S,Tw S,TF S,Tz S,Ts S,Tt S,Tu S,Tv S,TJ S,TK S⟩
structure XH (Γ:Gm) (X:Cx) (aa:Hp) (ab:Fz):Prop extends GOk Γ X aa ab where
 never:PassesOwn (model X.prog X.w) X.A X.env X.xe
noncomputable def GV:Expr->Bool
 | .ListComp _ _ _ _=>true
 | _=>false
def TR:G2:=mZ (λ_ _=>true) λi j=>.int (i+j)
def Pk:Operator->Option G2
 | .Add=>some TR
 | _=>none
def sI{c:Prop} [Decidable c] (h:c->PS X e (tS X aa ab f)):PS X e (tS X aa ab (if c then f else bO)):=by
 split
 ·exact h ‹_›
 ·exact gf
section
variable {Γ:Gm} {X:Cx} {x:Str} {p sp:Pos} {e:Expr} {op:Operator} {i:Nat} {aa:Hp} {ab:Fz} {fe:Gx PV} {g:G2}
def KI(h:Pk op=some g):qC X (inplaceOp op) g:=by
 cases op<;>cases h
 exact eE (rO IY) (λ_ _ _=>trivial) λ_ _ _=>au.mpr rfl
def KJ{st:bU}(h:rd i st=some r):∃p,st.ρ[i]?=some (some p)/\r=(.ok p,st):=by
 obtain⟨p,e1,e2⟩:=aL h;cases z:st.ρ[i]? with
 | none=>rw[z]at e1;cases e1
 | some o =>
  rw[z]at e1;cases o with
  | none=>cases e1
  | some p'=>cases e1;exact⟨p,rfl,e2.symm⟩
def TU(ho:qC X (inplaceOp op) g)(he:PE X e (tE X aa ab fe))(hN:X.N.Nodup)(hi:X.N[i]?=some x)(hx:Lk X.env.scope x)(hf:X.fn x=true\/X.env.scope.names.lookup x=some .local):PS X (.AugAssign (.Name x p) op e sp) (tS X aa ab (pe (op2 g (rd i) fe) (cO i))):=by
 refine(MO hN hi hx he (λae s σ H x y v u Q I r1 r2 t=>ho ae s σ H x y v u Q I r1 r2 t) hf).imp λD σ H h=>?_
 obtain⟨F,st,R,h⟩:=nA h;obtain⟨r,e1,e2⟩:=At.bnd h;obtain⟨q,e3,rfl⟩:=KJ e1;obtain⟨v,h3,h4⟩:=R.l.av i q e3;refine⟨v,h3,F,st,R,Tx.bnd (e2) λy w F1 st1 H1 R1 g1 b1 h1=>?_⟩
 obtain⟨z,hz,k⟩:=h1.hp;exact⟨aa,ab,F1,st1,σ,q,y,z,hz,R1,h4.mono g1,b1,k⟩
def wX(G:GOk Γ X aa ab)(hs:slot Γ x=some i)(hx:Qo Γ x=true)(he:PE X e (tE X aa ab fe))(hsw:swapsWith e (some (.Name x p)) sp.line X.env=pure false):PS X (.Assign [.Name x p] e sp) (tS X aa ab (pe fe (cO i))):=by
 obtain⟨h1,h2⟩:=G.O4 hx;exact(MN G.nd (G.sv hs) h1 he hsw h2).imp λD σ H h=>nA h
def zB :
  (swapsWith (.ListComp elt gens scope cp) (some (.Name x p)) sp.line X.env=pure true/\X.env.scope.names.lookup x=some .local)\/swapsWith (.ListComp elt gens scope cp) (some (.Name x p)) sp.line X.env=pure false:=by
 have e:swapsWith (.ListComp elt gens scope cp) (some (.Name x p)) sp.line X.env=pure (X.env.blockKind==.function&&X.env.kindOf x==some .local&&p.line==(Expr.ListComp elt gens scope cp).pos.line&&!(scope.names.any fun(n,k)=>n==x&&(k==.local || k==.cell))):=rfl
 rw[e];cases hb:(X.env.blockKind==.function&&X.env.kindOf x==some .local&&p.line==(Expr.ListComp elt gens scope cp).pos.line&&!(scope.names.any fun(n,k)=>n==x&&(k==.local || k==.cell)))with
 | true =>
  refine .inl ⟨rfl,?_⟩;simp only[aC]at hb;exact aH hb.1.1.2
 | false=>exact .inr rfl
def C3(h:(i6 e || GV e)=true)(l:Nat)(env:Env):swapsWith e (some (.Attribute a x p)) l env=pure false:=by
 cases e<;>first | rfl | cases h
def C4{a x:Expr}(h:(i6 e || GV e)=true)(l:Nat)(env:Env):swapsWith e (some (.Subscript a x p)) l env=pure false:=by
 cases e<;>first | rfl | cases h
def zC(h:nD k=true)(env:Env)(v:Value):assign (.Subscript o k p) env v=(do
   let ov <-holding [v] (eval o env)
   let iv <-holding [v,ov] (eval k env)
   standAt p
   holding [v,ov,iv] (setItem ov iv v)
   release [v,ov,iv] []):=by
 cases k<;>first | rfl | cases h
def zD(env:Env):swappedStores [.Subscript o k p] e env=pure none:=by
 cases e<;>rfl
end
noncomputable def Zo:Nat:=8000000
def isD(Γ:Gm):Expr->Bool
 | .Name x _=>md Γ x==10
 | _=>false
noncomputable def Zr:Str:="[return]"
def asName(n:Nat)(Γ:Gm)(x:Str)(e:Expr):Gx d6:=if(Qo Γ x&&(i6 e || GV e))=true then(match slot Γ x with | some i=>pe (aW n Γ (md Γ x) e) (cO i) | none=>bO)else bO
noncomputable def LZ(n:Nat)(Γ:Gm)(tg e:Expr):Gx d6:=match tg with
 | .Name x _=>asName n Γ x e
 | .Tuple ts k p=>if Bk e=true then(match uU n Γ (.Tuple ts k p)with | some g=>pe (aW n Γ 0 e) g.1 | none=>bO)else bO
 | .Subscript o k _=>if(nD k&&(i6 e || GV e))=true then Om (aW n Γ (To Γ o) e) (aW n Γ 0 o) (aW n Γ 0 k)else bO
 | .Attribute o f _=>if(i6 e || GV e)=true then zi Γ.clss Γ.flds f (aW n Γ (md Γ f) e) (aW n Γ 0 o)else bO
 | _=>bO
noncomputable def L3(n:Nat)(Γ:Gm)(tg:Expr)(op:Operator)(e:Expr):Gx d6:=match tg with
 | .Name x _=>if Qo Γ x=true then(match slot Γ x,Pk op with | some i,some g=>pe (op2 g (rd i) (aW n Γ 0 e)) (cO i) | _,_=>bO)else bO
 | _=>bO
mutual
noncomputable def Pl:Nat->Gm->Stmt->Gx d6
 | 0,_,_=>bO
 | n+1,Γ,st=>match st with
  | .Pass _=>b6 .nx
  | .Break _=>b6 .bk
  | .Continue _=>b6 .ct
  | .Return none _=>b6 (.rt .aK)
  | .Return (some e) _=>if md Γ Zr==7 then Ck (N9 (aW n Γ 1 e))else Ck (aW n Γ (md Γ Zr) e)
  | .If c a b _=>iV (qU n Γ c) (lu n Γ a) (lu n Γ b)
  | .While c b [] _=>l9 (qU n Γ c) (lu n Γ b) Zo
  | .For tg iter body [] _=>if aO iter=true then(match uU n Γ tg with | some g=>if isD Γ iter=true then bO else N7 (GS n Γ tg iter) g.1 (lu n Γ body) | none=>bO)else bO
  | .Expr e _=>if i6 e=true then E7 (aW n Γ 0 e)else bO
  | .Assign [tg] e _=>LZ n Γ tg e
  | .AugAssign tg op e _=>L3 n Γ tg op e
  | _=>bO
termination_by structural n=>n
noncomputable def lu:Nat->Gm->List Stmt->Gx d6
 | 0,_,_=>bO
 | n+1,Γ,[]=>b6 .nx
 | n+1,Γ,[st]=>Pl n Γ st
 | n+1,Γ,st::Qq=>qL (Pl n Γ st) (lu n Γ Qq)
termination_by structural n=>n
end
structure XI (n:Nat):Prop where
 s:∀Γ X aa ab st,XH Γ X aa ab->PS X st (tS X aa ab (Pl n Γ st))
 ss:∀Γ X aa ab Qq,XH Γ X aa ab->PSs X Qq (tS X aa ab (lu n Γ Qq))
def Pm:PSs X s (tS X aa ab bO):=λ_ _ _ _ _ _ ⟨F,st,R,r,z,_⟩=>by cases z
def Pn(G:GOk Γ X aa ab):PS X (.Assign [tg] e sp) (tS X aa ab (LZ n Γ tg e)):=by
 have S:=snd n;cases tg with
 | Name x p =>
  refine sI λhc=>?_
  rw[aC]at hc;cases hi:slot Γ x with
  | none=>exact gf
  | some i =>
   rcases Bool.or_eq_true _ _▸hc.2 with hn | hl
   ·exact wX G hi hc.1 (S.e Γ X aa ab _ _ G) (i7 hn _ _ _)
   ·cases e<;>try (exact absurd hl dP)
    rcases zB with⟨z,hl⟩ | z
    ·cases n with
     | zero=>exact uY
     | succ n=>exact((snd n).c Γ X aa ab _ _ _ _ _ G).2 i x p sp (G.sv hi) hl z
    ·exact wX G hi hc.1 (S.e Γ X aa ab _ _ G) z
 | Tuple ts k tp =>
  refine sI λhc=>?_
  cases h1:uU n Γ (.Tuple ts k tp)with
  | none=>exact gf
  | some g =>
   obtain⟨g1,g2,g3,g4⟩:=lq G n _ g h1;refine RT (S.e Γ X aa ab _ _ G) g1 (i7 (uT hc) (some (Expr.Tuple ts k tp)) sp.line X.env) ?_ (g3 _);cases e<;>first | rfl | cases hc
 | Subscript o k tp =>
  refine sI λhc=>?_
  rw[aC]at hc;exact SG G.un (S.e Γ X aa ab _ _ G) (S.e Γ X aa ab _ _ G) (S.e Γ X aa ab _ _ G) (zC hc.1 _) (C4 (a:=o) (x:=k) (p:=tp) hc.2 sp.line X.env) (zD _)
 | Attribute=>exact sI λhc=>SN G.Qp (S.e Γ X aa ab _ _ G) (S.e Γ X aa ab _ _ G) (C3 hc _ _)
 | _=>exact gf
def Po(G:GOk Γ X aa ab):PS X (.AugAssign tg op e sp) (tS X aa ab (L3 n Γ tg op e)):=by
 cases tg with
 | Name x p =>
  refine sI λhc=>?_
  cases h1:slot Γ x with
  | none=>exact gf
  | some i=>cases h2:Pk op with
   | none=>exact gf
   | some g =>
    obtain⟨l1,l2⟩:=G.O4 hc;exact TU (KI h2) ((snd n).e Γ X aa ab _ _ G) G.nd (G.sv h1) l1 l2
 | _=>exact gf
theorem XJ:∀n:Nat,XI n
 | 0=>⟨λ_ _ _ _ _ _=>gf,λ_ _ _ _ _ _=>Pm⟩
 | n+1=>by
  have T:=XJ n;have S:=snd n;refine⟨λΓ X aa ab st G=>?_,λΓ X aa ab Qq G=>?_⟩
  ·cases st with
   | Pass=>exact Nu
   | Break=>exact Jw
   | Continue=>exact Nv
   | Return e=>cases e with
    | none=>exact Nw
    | some e =>
     show PS X _ (tS X aa ab (ite _ _ _));split
     ·exact Lz (Su (S.e Γ X aa ab _ _ G.toGOk))
     ·exact Lz (S.e Γ X aa ab _ _ G.toGOk)
   | If=>exact Wu (S.t Γ X aa ab _ G.toGOk) (T.ss Γ X aa ab _ G) (T.ss Γ X aa ab _ G)
   | While c b o=>cases o with
    | nil=>exact Jz Zo G.never (S.t Γ X aa ab _ G.toGOk) (T.ss Γ X aa ab _ G)
    | cons=>exact gf
   | For tg iter body o=>cases o with
    | cons=>exact gf
    | nil =>
     refine sI λhp=>?_
     cases h1:uU n Γ tg with
     | none=>exact gf
     | some g =>
      show PS X _ (tS X aa ab (ite _ _ _));split
      ·exact gf
      ·exact N8 G.never G.calm (S.i Γ X aa ab _ _ G.toGOk) (lq G.toGOk n _ g h1).1 (T.ss Γ X aa ab _ G) (fR hp _)
   | Expr=>exact sI λhc=>Nx (S.e Γ X aa ab _ _ G.toGOk) (i7 hc _ _ _)
   | Assign ts=>rcases ts with _ | ⟨_,_ | _⟩<;>first | exact Pn G.toGOk | exact gf
   | AugAssign=>exact Po G.toGOk
   | _=>exact gf
  ·rcases Qq with _ | ⟨st,_ | _⟩
   ·exact Nr
   ·exact Nt (T.s Γ X aa ab st G)
   ·exact Jv (T.s Γ X aa ab st G) (T.ss Γ X aa ab _ G)
def GW:Nat:=120
abbrev CT:=Str->m7
noncomputable def noFn:CT:=λ_ _ _=>none
def Pp(P:Pg):List (Str×Nat):=P.cls.map λd=>(d.1,(params d.2).length)
def TV(P:Pg)(x:Str)(st:Stmt)(cls:List (Str×Nat))(make:CT)(Gy:Option ((PV->Gx PV)->Nat->m7))(Gz:Option (Nat×(PV->Gx PV)))(c:CT):Gm where
 sc:=(ay st).names
 N:=bW st
 own:=true
 fns:=P.defs.map λd=>(d.1,(params d.2).length)
 call:=c
 cons:=P.cons
 cw:=P.cw
 tabs:=P.tabs
 c8:=P.c8
 cls:=cls
 make:=make
 clss:=P.cls.map (·.1)
 flds:=P.flds
 QD:=(P.QD.lookup x).getD []
 Gy:=Gy
 Gz:=Gz
def Zs(P:Pg)(C:Str)(st:Stmt)(c:CT):Gx d6:=lu GW (TV P C st [] noFn none none c) (dh st)
def Ij(P:Pg)(c:CT):CT:=λC=>match P.cls.lookup C with | some st=>iy (Zs P C st c) (bW st).length | none=>λ_ _=>none
noncomputable def TX(P:Pg)(x:Str)(c:CT):Option ((PV->Gx PV)->Nat->m7):=none
def TY(P:Pg)(x:Str)(st:Stmt)(c:CT):Gx d6:=lu GW (TV P x st (Pp P) (Ij P c) (TX P x c) none c) (dh st)
def run(P:Pg):Nat->CT
 | 0=>noFn
 | k+1=>λx=>match P.defs.lookup x with | some st=>iy (TY P x st (run P k)) (bW st).length | none=>λ_ _=>none
def Pq{P:Pg}{k:Nat}{x:Str}{st:Stmt}(h:P.defs.lookup x=some st):run P (k+1) x=iy (TY P x st (run P k)) (bW st).length:=by
 show(match P.defs.lookup x with | some st=>iy (TY P x st (run P k)) (bW st).length | none=>λ_ _=>none)=_
 rw[h]
theorem i9{α β:Type}(g:α->β)(x:Str):∀l:List (Str×α),(l.map λd=>(d.1,g d.2)).lookup x=(l.lookup x).map g
 | []=>rfl
 | (n,a)::r=>by
  rw[aA,gq,gq];cases x==n with
  | true=>rfl
  | false=>exact i9 g x r
section
variable {prog:Program} {w:World} {K:W.Frag} {mg:Str->Option Value} {base:Heap}
structure Pr (P:Pg) (w:World) (K:W.Frag) (mg:Str->Option Value):Prop where
 fns:∀x st,P.defs.lookup x=some st->∃f fd,BN K x x st f fd/\fM K fd (params st) []/\mg x=some (.ref f)/\dg (bW st) (params st) (ay st)
 cons:∀x p,P.cons.lookup x=some p->∃u v,mg x=some u/\RelV v u/\∀F,aY K F p v
 cw:∀x,P.cw.contains x=true->mg x=none
 tabs:∀T rows,P.tabs.lookup T=some rows->A6 K mg w.params T rows
 c8:∀T rows,P.c8.lookup T=some rows->pC K mg w.params T rows
 ns:∀x a,W.nsIn K mainGlobals x=some (some (.ref a))->mg x=some (.ref a)
 Qp:F7 K (P.cls.map (·.1)) P.flds
 cls:∀C st,P.cls.lookup C=some st->∃Ca f fd,ClsAt K C (.ref Ca)/\BM K Ca/\Mk K Ca f/\mg C=some (.ref Ca)/\BN K "__init__" (C++".__init__") st f fd/\fM K fd (params st) []/\dg (bW st) (params st) (ay st)
def FR(P:Pg)(prog:Program)(w:World)(K:W.Frag)(mg:Str->Option Value)(base:Heap)(k:Nat):Prop:=∀(x:Str) (st:Stmt) (f:Addr) (fd:FuncData),P.defs.lookup x=some st->mg x=some (.ref f)->BN K x x st f fd->dg (bW st) (params st) (ay st) ->
 FnOk prog w K mg base (ku prog w) (3*k) f fd (params st) (CG K (params st).length (run P k x))
section
variable {P:Pg} (O:Pr P w K mg) {k:Nat} (ih:FR P prog w K mg base k)
include O ih
def TZ{X:Cx}(h1:X.prog=prog)(h2:X.w=w)(h3:X.K=K)(h4:X.mg=mg)(h5:X.base=base):Tn X (3*k) (P.defs.map λd=>(d.1,(params d.2).length)) (run P k):=λy n hy=>by
 subst h1 h2 h3 h4 h5;rw[i9 (λst=>(params st).length)]at hy
 obtain⟨bM,h1,h2⟩:=aL hy;subst h2;obtain⟨f',Qr,F1,B1,m1,S1⟩:=O.fns y bM h1;exact⟨3*k,f',Qr,params bM,ao _,ih y bM f' Qr h1 m1 F1 S1,m1,F1.kp,B1⟩
def L4{st:Stmt}{x q:Str}{f:Addr}{eA:Value}{A:Around}{aB:List Env}{s:Shared}{H aa:Hp}{ab:Fz}{E:XK}{cls:List (Str×Nat)}{make:CT}{Gy:Option ((PV->Gx PV)->Nat->m7)}{Gz:Option (Nat×(PV->Gx PV))}{j:Nat}(S:dg (bW st) (params st) (ay st))
  (hr:dU j (A.deeper (envOfC q (ay st) s.heap.objs.size f eA))) (hj:3*k<=j) (hcl:∀C n,cls.lookup C=some n->∃k' Ca f' fd ps,ClsAt K C (.ref Ca)/\BM K Ca/\Mk K Ca f'/\FnOk prog w K mg base (ku prog w) k' f' fd ps (CG K n (make C))/\dU (k'+1) (A.deeper (envOfC q (ay st) s.heap.objs.size f eA))/\mg C=some (.ref Ca)/\fM K fd ps [])
  (XM:∀rs,Gy=some rs->LX (TV P x st cls make Gy Gz (run P k)) (fN (ku prog w) prog w K mg base (bW st) q (ay st) f eA A aB s H E) rs)
  (XN:∀n ω,Gz=some (n,ω)->F8 (fN (ku prog w) prog w K mg base (bW st) q (ay st) f eA A aB s H E) aa ab n ω) :
  XH (TV P x st cls make Gy Gz (run P k)) (fN (ku prog w) prog w K mg base (bW st) q (ay st) f eA A aB s H E) aa ab:=by
 refine⟨⟨rfl,rfl,S.nd,S.kind,rfl,hr.hd,?_,λ_ _=>rfl,λy n hy=>?_,O.cons,O.cw,O.tabs,O.c8,O.ns,O.Qp,hcl,XM,XN⟩,PassesOwn.leaving⟩
 ·have:=hr.un;show(A.deeper _).units+1150<cLine
  lia
 ·obtain⟨i,f',Qr,ps,h1,h2,h3,h4,h5⟩:=TZ (X:=fN (ku prog w) prog w K mg base (bW st) q (ay st) f eA A aB s H E) O ih rfl rfl rfl rfl rfl y n hy;exact⟨i,f',Qr,ps,h2,hr.mono (aM h1 hj),h3,h4,h5⟩
def T3{C:Str}{st:Stmt}{f:Addr}{fd:FuncData}(h:P.cls.lookup C=some st)(F:BN K "__init__" (C++".__init__") st f fd)(S:dg (bW st) (params st) (ay st)):FnOk prog w K mg base (ku prog w) (3*k+1) f fd (params st) (CG K (params st).length (Ij P (run P k) C)):=by
 have e:Ij P (run P k) C=iy (Zs P C st (run P k)) (bW st).length:=by
  unfold Ij;rw[h]
 rw[e];exact FT F S λeA A aB s H E _ hr aa ab=>(XJ GW).ss _ _ aa ab _ (L4 O ih S hr (ao _) (λ_ _ z=>by cases z) (λ_ z=>by cases z) λ_ _ z=>by cases z)
end
theorem GX{P:Pg}(O:Pr P w K mg)(hB:P.qH≠[]->EZ mg base):∀(k:Nat),FR P prog w K mg base k
 | 0=>λx st f fd h DM F S=>by
  have no:∀vs H Q E,¬CG K (params st).length (run P 0 x) vs H Q E:=λvs H Q E ⟨_,_,_,_,_,_,_,_,_,_,z,_⟩=>by cases z
  exact⟨λvs H Q E h=>absurd h (no vs H Q E),λA aB s H args us vs Q E _ _ _ _ h=>absurd h (no vs H Q E)⟩
 | k+1=>λx st f fd h DM F S=>by
  have ih:=GX (P:=P) O hB k;rw[Pq h];refine FT (k:=3*k+2) F S λeA A aB s H E Y8 hr aa ab=>(XJ GW).ss _ _ aa ab _ (L4 O ih S hr (yk _ _) (λC n hy=>?_) (λrs e=>by cases e) λ_ _ z=>by cases z)
  unfold Pp at hy;rw[i9 (λst=>(params st).length)]at hy
  obtain⟨bM,h1,h2⟩:=aL hy;subst h2;obtain⟨Ca,f',Qr,a,c,M,m1,F1,B1,S1⟩:=O.cls C bM h1;exact⟨3*k+1,Ca,f',Qr,params bM,a,c,M,T3 O ih h1 F1 S1,hr,m1,B1⟩
def zE(ns:List Int):PV:=.lst (ns.map .int)
theorem wY{F:Fz}:∀ns:List Int,aq K F (ns.map .int) (ns.map V.int)
 | []=>.nil
 | n::r=>.cons (au.mpr rfl) (wY r)
end
theorem er{α β:Type} [BEq α] [LawfulBEq α] {k:α} {v:β}:∀{l:List (α×β)},l.lookup k=some v->(k,v)∈l
 | [],h=>by cases h
 | (a,b)::l,h=>by
  rw[gq]at h;cases z:k==a with
  | true =>
   rw[z]at h;cases h;rw[aH z];exact cz
  | false =>
   rw[z]at h;exact b9 _ (er h)
def BO.at{K:W.Frag}{h:Heap}{mg:Str->Option Value}{P:Params}{T:Str}{rows:List (Str×Str)}(x:BO K P T rows)(X:K.In h)(G:h.Ns mainGlobals mg):A6 K mg P T rows:=by
 obtain⟨a,es,n,h1,h2,h3,h4⟩:=x;refine⟨a,es,n,W.mg_of X G h1,h2,h3,λk fn e=>?_⟩
 obtain⟨f,h5,h6⟩:=h4 (k,fn) (er e);exact⟨f,h5,W.mg_of X G h6,h6⟩
def vE.at{K:W.Frag}{h:Heap}{mg:Str->Option Value}{P:Params}{T:Str}{rows:List (Str×PV)}(x:vE K P T rows)(X:K.In h)(G:h.Ns mainGlobals mg):pC K mg P T rows:=by
 obtain⟨a,es,n,h0,h1,h2,h3,h4⟩:=x;exact⟨a,es,n,h0,W.mg_of X G h1,h2,h3,λk p e=>h4 (k,p) (er e)⟩
def D6.at{K:W.Frag}{h base:Heap}{mg:Str->Option Value}(b:D6 K)(X:K.In h)(G:h.Ns mainGlobals mg)(Y:K.In base):EZ mg base :=
 let ⟨bm,o,h1,h2,h3,h4,h5⟩:=b;⟨bm,o,W.mg_of X G h1,h2,h3,Y _ _ h4,h5⟩
def wZ(K:W.Frag):List (Addr×Str):=cZ.filterMap λx=>(W.tabIn K x).map λcT=>(cT.2,IF x)
theorem sH{α β:Type} [BEq α] [LawfulBEq α] {b:α} {q:β}:∀{l:List (α×β)},(l.map (·.1)).Nodup->(b,q)∈l->l.lookup b=some q
 | [],_,h=>nomatch h
 | (a,v)::l,hn,h=>by
  rw[aA,dR]at hn;rw[gq];rcases aF.mp h with e | h'
  ·grind
  ·have:(b==a)=false:=by
    grind
   rw[this];exact sH hn.2 h'
def C5(K:W.Frag):(wZ K).map (·.1)=cZ.filterMap λx=>(W.tabIn K x).map (·.2):=by
 unfold wZ;rw[List.map_filterMap]
 congr 1
 funext x
 cases W.tabIn K x<;>rfl
def kD.tabs{K:W.Frag}{h:Heap}(t:kD K h)(X:K.In h):(∀b q,(wZ K).lookup b=some q->h.get? b=some {cls:=.none,data:=.fields #[]}/\isCodeTable h b/\K.lookup b=none)/\∀H:Hp,(∀b q,(wZ K).lookup b=some q->H b=some (.kn q))->oM K H:=by
 refine⟨λb q e=>?_,λH hH x hx c T e=>?_⟩
 ·have hm:=er e;unfold wZ at hm;obtain⟨x,hx,e2⟩:=oh.mp hm;obtain⟨cT,e3,e4⟩:=gj.mp e2;cases e4;obtain⟨h1,h2,h3⟩:=t.at_ x hx cT.1 cT.2 e3;obtain⟨o,vs,_,_,_,_,_,_,_,g1,g2,g3,g4,_⟩:=W.codeHd_of_K X h1;exact⟨h2,⟨_,o,vs,g1,g2,g3,g4⟩,h3⟩
 ·refine hH T (IF x) (sH (by rw[C5];exact t.nd) ?_)
  exact oh.mpr ⟨x,hx,by rw[e];rfl⟩
def T4(P:Pg):Bool:=P.qH.isEmpty || (match P.defs.lookup ("spread":Str)with | some st=>(params st).length==2 | none=>true)
def XO{P:Pg}{K:W.Frag}{h:Heap}{mg:Str->Option Value}(X:K.In h)(G:h.Ns mainGlobals mg)(hd:∀d∈P.defs,D5 K d.1 d.2)
  (hc:∀d∈P.cons,∃u v,W.nsIn K mainGlobals d.1=some (some u)/\RelV v u/\∀F,aY K F d.2 v) (hb:∀x∈P.cw,W.nsIn K mainGlobals x=some none) {w:World} (ht:∀d∈P.tabs,BO K w.params d.1 d.2) (hcl:∀d∈P.cls,Mi K d.1 d.2 P.flds) (hct:∀d∈P.c8,vE K w.params d.1 d.2) (LS:T4 P=true) (Yw:∀x∈P.qH,Mj K x):Pr P w K mg where
 fns:=λx st e=>by
  obtain⟨⟨f,fd,a,F,b⟩,s⟩:=hd (x,st) (d9 e);exact⟨f,fd,F,.all b,W.mg_of X G a,s⟩
 cons:=λx p e=>by
  obtain⟨u,v,a,r,b⟩:=hc (x,p) (d9 e);exact⟨u,v,W.mg_of X G a,r,b⟩
 cw:=λx e=>W.mg_none_of X G (hb x (by simpa using e))
 tabs:=λT rows e=>(ht (T,rows) (er e)).at X G
 c8:=λT rows e=>(hct (T,rows) (er e)).at X G
 ns:=λx a e=>W.mg_of X G e
 Qp:=λC e=>by
  have e:C∈P.cls.map (·.1):=by simpa using e
  obtain⟨d,hd,rfl⟩:=bQ.mp e;obtain⟨Ca,f,fd,a,M,c,na,F,b,s⟩:=hcl d hd;exact⟨Ca,a,c,λg hg=>na g (by simpa using hg)⟩
 cls:=λC st e=>by
  obtain⟨Ca,f,fd,a,M,c,na,F,b,s⟩:=hcl (C,st) (d9 e);exact⟨Ca,f,fd,a,c,M,W.mg_of X G a,F,.all b,s⟩
def Vg(o:Option (Rs PV×List aj)):Prop:=∃h,o=some (.ok (.bl true),h)
def Pt{K:W.Frag}{P:Pg}{k:Nat}{H:Hp}{a:Addr}{ns:List Int}(hr:Vg (run P k "law" [zE ns] []))(hS:gC K H a (ns.map V.int)):CG K 1 (run P k "law") [.ref a] H (λv _=>v=.bl true) λ_ _ _=>False :=
 let ⟨h,e⟩:=hr
 ⟨H,⟨H,[]⟩,[],[zE ns],_,h,⟨b7.refl H,b7.refl H,Gr.refl _,λ_ _ e=>.inl e,λn a e=>by simp at e,rfl,jM,λn c a e=>by simp at e⟩,λ_ _ e=>.inl e,.cons (cJ.mpr ⟨a,_,rfl,hS,wY ns⟩) .nil,rfl,e,λv F' H' _ b=>aQ.mp b⟩
def GY{P:Pg}{N:Nat}{x:Str}{st:Stmt}{l:W.OpenLaw}{q:Program}{loose:List Str}{XP:(Str->Option Value)->Heap->Prop}{YP:World->Heap->Prop}{d:DefRec}(kr:P.defs.lookup ("law":Str)=some st)(hx:params st=[x])
  (hn:l.most=some 63) (SX:d.name="law") (Wk:d.params.defaults=[]) (hr:dU (3*N) callerA) (LS:T4 P=true) (hY:∀(w:World) (h:Heap),YP w h->∃K:W.Frag,K.In h/\D7 P w K/\kD K h)
  (XQ:∀ns:List Int,ns.length<=63->Vg (run P N "law" [zE ns] [])):W.WalkO q loose XP YP l.row.toRowW d [] (λf vs=>PySem.call f vs):=by
 refine YG.vX hn Wk λw s₀ s₁ mg mb fa o pm cd doc a vs ns G Y ho hd DK DM EV EW dj hg=>?_
 obtain⟨K,KX,T,TH⟩:=hY w _ Y;obtain⟨t1,t2⟩:=TH.tabs KX;have O:=XO KX G.T.g T.hd T.hc T.hb T.ht T.hcl T.hct LS T.Yw;obtain⟨⟨f,fd,e0,F,b⟩,s⟩:=T.hd ("law",st) (d9 kr);rw[SX]at DM;have e:=DM.symm.trans (W.mg_of KX G.T.g e0);cases e;rw[hx]at b;refine Cg (CX:=ku l.prog w) KX G.T.g G.T.b G.T.builtins G.T.nolimit hg t1 t2 EV EW (aM dj (by decide)) hr (λbase kb _=>?_) (λs u=>.of_eq (b [u] rfl)) (λH hS=>Pt (XQ ns dj) hS) (by rintro _ _ _ ⟨_,_,_,_,_,_,_,_,_,_,_,h,_⟩;exact h)
 have k:=GX (prog:=l.prog) O (λz=>(T.hbm z).at KX G.T.g kb) N "law" st _ fd kr (W.mg_of KX G.T.g e0) F s
 rw[hx]at k;exact k
abbrev Ev{α:Type}(f:Gx α)(s:bU)(a:α)(s':bU):Prop:=f s=some (.ok a,s')
abbrev Ek {α : Type} (f : Gx α) (s : bU) (a : α) : Prop := Ev f s a s
section
variable {α β:Type} {s s1 s2 s3:bU}
def eB(h:Ev f s a s1)(h2:k a s1=r):bnd f k s=r:=by
 show(f s).bind (Nk k)=r;rw[h];exact h2
variable {fa fb fe:Gx PV} {ts:Gx (List PV)} {p q x y z:PV} {ps as:List PV}
variable {f g:Gx d6} {r:Option (Rs d6×bU)}
def XR(e:f ⟨hJ n as,h⟩=some (.ok (.rt p),⟨ρ',h'⟩)):iy f n as h=some (.ok p,h'):=by
 unfold iy;rw[e];rfl
def XS(e:f ⟨hJ n as,h⟩=some (.ok .nx,⟨ρ',h'⟩)):iy f n as h=some (.ok .aK,h'):=by
 unfold iy;rw[e];rfl
variable {t:Tg} {body:Gx d6}
def fC(ht:t p s=some s1)(hb:Ev body s1 .nx s2)(h:ef t body ps s2=r):ef t body (p::ps) s=r:=eB (show Ev (stp (t p)) s .nx s1 by show(t p s).map _=_;rw[ht];rfl) (eB hb h)
def e1(ht:t p ⟨ρ,h⟩=some ⟨WJ,h1⟩)(he:Ev fe ⟨WJ,h1⟩ q ⟨T5,h2⟩):pz t fe ρ p h=some (some q,h2):=by
 unfold pz;rw[ht,om,he];rfl
end
end L2.U
namespace L2.U
open PySem L2
def hW(hp:noRef p=true):hV h p=some p:=by
 unfold hV;split
 ·rfl
 ·unfold lH;rw[if_pos hp]
end L2.U
noncomputable section
namespace bZ
open PySem L2 L2.U
abbrev T6:Stmt:=top 108
abbrev kI (n : Int) : Gx PV := b6 (.int n)
abbrev kS (s : Str) : Gx PV := b6 (.str s)
abbrev Q0 := dH (cO 5) (dH (cO 6) pd)
abbrev Q1 := kR 2 (dH (cO 10) (dH (cO 11) pd))
abbrev Q2 := Ck (b6 (.bl false))
abbrev Q3 := fy (rd 1) (b6 [])
noncomputable def KL:List Str:=["Scene"]
abbrev Rn(x:Str)(F:CT->Gx d6)(n:Nat):Prop:=∀k,run aG (k+1) x=iy (F (run aG k)) n
open Lean Meta in
dsimproc_decl Zu (Str.mk _):=λe=>do
 let .app _ (.app _ l):=e | return .continue
 let some l <-getListLit? l | return .continue
 return .done (mkApp (mkConst ``Str.ofString) (toExpr (String.ofList (l.toList.map λx=>Char.ofNat (x.nat?.getD 0)))))
open Lean in
dsimproc_decl Zv (Int.ofNat _):=λe=>do
 let .app _ n:=e | return .continue
 let some n:=n.nat? | return .continue
 return .done (toExpr (n:Int))
def cV(x:Str)(i n k:Nat){f:CT->Gx d6}(h:∀k,run aG (k+1) x=iy (TY aG x (top i) (run aG k)) n:=by intro _;kernel_rfl)(e:∀c,TY aG x (top i) c=f c:=by intro c;conv=>(lhs;reduce;simp only[Zu,Zv])):run aG (k+1) x=iy (f (run aG k)) n:=by rw[h,e]
noncomputable def Zw(s:List Stmt):List Nat->List Stmt
 | []=>s
 | i::r=>Zw (match s[i]? with | some (.For _ _ b _ _) | some (.If _ b _ _)=>b | _=>[]) r
def Bn(x:Str)(i:Nat)(p:List Nat)(c:CT):Gx d6:=lu GW (TV aG x (top i) (Pp aG) (Ij aG c) (TX aG x c) none c) (Zw (dh (top i)) p)
noncomputable abbrev kx(a:Gx d6){f:Gx d6}(_:a=f:=by conv=>(lhs;reduce;simp only[Zu,Zv])):Gx d6:=f
section
seal wq qL zi op2 dI rd bnd fy b6 i8 i4 qO pz Ft cO E7 Kb Fl iV toB JD Ck Qh pe Np N7 yY uF bO yV chain YL YK jW TR JG cutE Fc Cr AQ kT kR dH pd v3 Oo NN l9 Om j1 gu j2 r6 FY Wr Qk FD JT Xb Nl Ov Wx U2 JF SQ Ij Ou Fy Cz RU YM uz NC yZ AL yW JP JR Nm Bb iy JK OJ CI NP O2 Km O1 Oj J3 OT Kp YR Ks Ko wL N9 fY
def Bo(c:CT):Gx d6 :=
 (qL (zi KL aG.flds "kinds" (Bb (op2 dI (rd 2) (kI 1)) (op2 dI (rd 2) (kI 3))) (rd 0))
  (qL (zi KL aG.flds "result" (op2 dI (rd 2) (kI 2)) (rd 0))
  (qL (zi KL aG.flds "size" (yY jW (fy (op2 dI (rd 2) (kI 4)) (b6 []))) (rd 0))
  (zi KL aG.flds "heads" (Km (i4 false [none,none] (qO (rd 1)) (pz (cO 1) (Qh .ag (fy (op2 dI (rd 1) (kI 0)) Q3))))) (rd 0)))))
theorem GZ(c:CT):Ij aG c "Scene"=iy (Bo c) 3:=by kernel_rfl
def uZ(k:Nat):=cV "is_shape" 9 1 k
def mn(k:Nat):=cV "count_leaves" 10 2 k
noncomputable def et(c:CT):Gx d6 :=
 (qL (iV (yV (v3 (bnd (fy (rd 0) (fy (kI 1) (fy (kI 6) (b6 [])))) (i8 0 3 (c "is_tuple_from")))))
  Q2
  (b6 .nx))
  (qL (iV (yV (v3 (yY wL (fy (i4 false [none,none] (qO (rd 0)) (pz (cO 1) (bnd Q3 (i8 0 1 (c "is_head"))))) (b6 [])))))
  Q2
  (b6 .nx))
  (qL (iV (iV (yV (v3 (bnd (fy (i4 false [none,none] (qO (rd 0)) (pz (cO 1) (op2 dI (rd 1) (kI 0)))) (b6 [])) (i8 0 1 (c "are_apart"))))) (b6 true) (yV (v3 (bnd (fy (op2 dI (rd 0) (kI 0)) (b6 [])) (i8 0 1 (c "may_be_run"))))))
  Q2
  (b6 .nx))
  (Ck (yY wL (fy (i4 false [none,none,some 0] (qO (rd 0)) (pz (cO 1) (bnd (fy (SQ "Scene" 3 (Ij aG c "Scene") (fy (rd 2) Q3)) (fy (op2 dI (rd 1) (kI 4)) (b6 []))) (i8 0 2 (c "are_rows"))))) (b6 [])))))))
theorem dX:Rn "is_right" et 1:=λ_=>by kernel_rfl
def gg(k:Nat):=cV "is_tuple_from" 28 3 k
def nh(k:Nat):=cV "is_tuple_of" 29 2 k
def mG(k:Nat):=cV "is_name" 30 1 k
def gz(k:Nat):=cV "are_apart" 31 1 k
def dF(k:Nat):=cV "is_holder_kind" 32 1 k
def mH(k:Nat):=cV "is_kind" 33 1 k
def u0(k:Nat):=cV "shape_of" 35 1 k
def u3(k:Nat):=cV "has_kind" 36 3 k
def mI(k:Nat):=cV "is_head" 37 1 k
def gA(k:Nat):=cV "are_named" 38 2 k
def eF(k:Nat):=cV "is_result" 39 2 k
def iu(k:Nat):=cV "are_sources" 40 3 k
def ja(k:Nat):=cV "may_be_run" 41 1 k
def w5(k:Nat):=cV "is_spot" 42 3 k
def qd(k:Nat):=cV "spot_shape" 44 2 k
def sJ(k:Nat):=cV "is_at" 45 3 k
def j8(k:Nat):=cV "is_number_spot" 46 2 k
def mq(k:Nat):=cV "is_part_spot" 47 2 k
def lx(k:Nat):=cV "is_owned_part" 48 2 k
def jy(k:Nat):=cV "is_written_part" 49 2 k
def j9(k:Nat):=cV "may_be_written" 50 2 k
def qe(k:Nat):=cV "is_operand" 51 2 k
def u4(k:Nat):=cV "are_rows" 52 2 k
def zF(k:Nat):=cV "is_row" 53 2 k
def zG(k:Nat):=cV "is_put" 54 2 k
def qV(k:Nat):=cV "is_target" 55 2 k
def zH(k:Nat):=cV "is_set" 56 2 k
def w6(k:Nat):=cV "is_fill" 57 2 k
def w9(k:Nat):=cV "is_copy" 58 2 k
def qW(k:Nat):=cV "are_alike" 59 3 k
def xa(k:Nat):=cV "is_move" 60 2 k
def xb(k:Nat):=cV "is_drop" 61 2 k
def xc(k:Nat):=cV "is_lend" 62 2 k
def xf(k:Nat):=cV "is_sole" 63 2 k
def xg(k:Nat):=cV "is_call" 64 3 k
def qf(k:Nat):=cV "takes_back" 65 3 k
def C6(k:Nat):=cV "is_if" 66 2 k
def xh(k:Nat):=cV "is_jump" 67 2 k
def C7(k:Nat):=cV "is_go" 68 2 k
def zI(k:Nat):=cV "is_say" 69 2 k
def xi(k:Nat):=cV "is_give" 70 2 k
def u5(k:Nat):=cV "_law_cell_at" 74 2 k
def zJ(k:Nat):=cV "_law_mixed" 75 1 k
noncomputable def qg(c:CT):=kx (Bn "_law_names" 76 [4,1] c)
noncomputable def kc(c:CT):=kx (Bn "_law_names" 76 [4] c)
def zK(k:Nat):=cV "_law_names" 76 9 k
noncomputable def kf(c:CT):=kx (Bn "_law_spots" 80 [1,1] c)
noncomputable def qh(c:CT):=kx (Bn "_law_spots" 80 [1] c)
def zL(k:Nat):=cV "_law_spots" 80 8 k
def C8(k:Nat):=cV "_law_menu" 81 8 k
noncomputable def mJ(c:CT):=kx (Bn "_law_picked" 82 [1] c)
def xj(k:Nat):=cV "_law_picked" 82 5 k
noncomputable def fE(c:CT):=kx (Bn "_law_numbers" 83 [2] c)
def u6(k:Nat):=cV "_law_numbers" 83 8 k
def u7(k:Nat):=cV "_law_operand" 84 3 k
noncomputable def mK(c:CT):=kx (Bn "_law_result" 85 [4] c)
def xk(k:Nat):=cV "_law_result" 85 7 k
def C9(k:Nat):=cV "_law_head" 87 9 k
def zM(k:Nat):=cV "_law_heads" 88 4 k
noncomputable def jj(c:CT):=kx (Bn "_law_call" 89 [4] c)
def Dc(k:Nat):=cV "_law_call" 89 13 k
noncomputable def ia(c:CT):=kx (Bn "_law_lends" 90 [1,0] c)
noncomputable def qi(c:CT):=kx (Bn "_law_lends" 90 [1] c)
def zN(k:Nat):=cV "_law_lends" 90 9 k
def xm(k:Nat):=cV "_law_things" 92 8 k
def qj(k:Nat):=cV "_law_plain_row" 93 8 k
def G0(k:Nat):=cV "_law_row" 94 9 k
def Dd(k:Nat):=cV "_law_give" 95 3 k
noncomputable def dt(c:CT):=kx (Bn "_law_function" 96 [3] c)
def qX(k:Nat):=cV "_law_function" 96 7 k
def qY(k:Nat):=cV "_law_bad_name" 97 1 k
def qZ(k:Nat):=cV "_law_bad_kind" 98 5 k
def zO(k:Nat):=cV "_law_fresh" 99 3 k
def G1(k:Nat):=cV "_law_let" 100 6 k
def De(k:Nat):=cV "_law_rows" 101 3 k
noncomputable def ib(c:CT):=kx (Bn "_law_renamed" 102 [2,1] c)
noncomputable def fF(c:CT):=kx (Bn "_law_renamed" 102 [2] c)
def u9(k:Nat):=cV "_law_renamed" 102 9 k
def qk(k:Nat):=cV "_law_many_lets" 103 6 k
def zP(k:Nat):=cV "_law_small" 104 10 k
def vc(k:Nat):=cV "_law_sources" 105 13 k
def Df(k:Nat):=cV "_law_last" 106 6 k
def vd(k:Nat):=cV "_law_changed" 107 9 k
noncomputable def Bp(c:CT):=kx (Bn "law" 108 [2] c)
def KN(k:Nat):=cV "law" 108 6 k
end
end bZ
namespace L2.U
section
open PySem
theorem Zz{α:Type}{o:Option α}{v:α}{st:bU}(h:o=some v):fB o st=some (.ok v,st):=by show o.map _=_;rw[h];rfl
theorem abD{α:Type}{g:List aj->Option α}{v:α}{st:bU}(h:g st.h=some v):hp g st=some (.ok v,st):=by show(g st.h).map _=_;rw[h];rfl
theorem ZA{g:bU->Option bU}{st bM:bU}(h:g st=some bM):stp g st=some (.ok .nx,bM):=by show(g st).map _=_;rw[h];rfl
theorem ZC{α β:Type}{f:Gx α}{k:α->Gx β}{st s1:bU}{a:α}{r:Option (Rs β×bU)}(h:f st=some (.ok a,s1))(h2:k a s1=r):bnd f k st=r:=eB h h2
theorem abE{α:Type}{b:Bool}{f g:Gx α}{st:bU}{r:Option (Rs α×bU)}(h:b=true)(h2:f st=r):(if b=true then f else g) st=r:=by rw[if_pos h];exact h2
theorem abF{α:Type}{b:Bool}{f g:Gx α}{st:bU}{r:Option (Rs α×bU)}(h:b=false)(h2:g st=r):(if b=true then f else g) st=r:=by rw[if_neg (by rw[h];exact dP)];exact h2
theorem XT{α:Type}{gc:Gx Bool}{f g:Gx α}{st s1:bU}{r:Option (Rs α×bU)}(h:gc st=some (.ok true,s1))(h2:f s1=r):iV gc f g st=r:=eB h h2
theorem XU{α:Type}{gc:Gx Bool}{f g:Gx α}{st s1:bU}{r:Option (Rs α×bU)}(h:gc st=some (.ok false,s1))(h2:g s1=r):iV gc f g st=r:=eB h h2
theorem XW{f:Gx d6}{n:Nat}{as:List PV}{h:List aj}{p:PV}{bM:bU}(e:f ⟨hJ n as,h⟩=some (.ok (.rt p),bM)):iy f n as h=some (.ok p,bM.h):=XR e
theorem XX{f:Gx d6}{n:Nat}{as:List PV}{h:List aj}{bM:bU}(e:f ⟨hJ n as,h⟩=some (.ok .nx,bM)):iy f n as h=some (.ok .aK,bM.h):=XS e
theorem KO{n:Nat}{g:m7}{as:List PV}{st:bU}{p q:PV}{h':List aj}(hn:(st.h.isEmpty || aD as)=true)(hl:as.length=n)(hc:g as []=some (.ok p,h'))(hf:hV h' p=some q):j3 n g as st=some (.ok q,st):=by
 unfold j3;rw[if_pos ⟨hl,hn⟩,hc];show(hV h' p).map _=_;rw[hf];rfl
theorem XY{n:Nat}{g:m7}{as:List PV}{st:bU}{p q:PV}{h':List aj}(hn:(st.h.isEmpty || aD as)=true)(hl:as.length=n)(hc:g as []=some (.ok p,h'))(hf:hV h' p=some q):i8 0 n g as st=some (.ok q,st):=by
 unfold i8;rw[hn,if_pos (show((0==0)&&true)=true from rfl)]
 exact KO hn hl hc hf
theorem Dg{α:Type}{f:α->PV}{q:α->PV}{h:List aj}{bd:PV->List aj->Option (Option PV×List aj)}:∀{L:List α},(∀x∈L,bd (f x) h=some (some (q x),h))->gJ bd (L.map f) h=some (L.map q,h)
 | [],_=>rfl
 | x::L,H=>by
  show(bd (f x) h).bind _=_;rw[H x cz];show(gJ bd (L.map f) h).map _=_;rw[Dg λy hy=>H y (b9 _ hy)]
  rfl
theorem Dh{α:Type}{f:α->PV}{q:α->PV}{b:α->Bool}{h:List aj}{bd:PV->List aj->Option (Option PV×List aj)}:∀{L:List α},(∀x∈L,bd (f x) h=some (if b x=true then some (q x)else none,h))->gJ bd (L.map f) h=some ((L.filter b).map q,h)
 | [],_=>rfl
 | x::L,H=>by
  show(bd (f x) h).bind _=_;rw[H x cz];show(gJ bd (L.map f) h).map _=_;rw[Dh λy hy=>H y (b9 _ hy)]
  cases e:b x with
  | true=>rw[nO e];rfl
  | false=>rw[nR (by rw[e];exact dP)];rfl
theorem XZ{link:List (Option Nat)}{fi:Gx A2}{bd:Bd}{st s1:bU}{ps qs:List PV}{h':List aj}(hi:fi st=some (.ok (.sq ps),s1))(hl:ps.length<=4000000)(hc:gJ (bd (dq link s1.ρ)) ps s1.h=some (qs,h')):i4 false link fi bd st=some (.ok (.lst qs),⟨s1.ρ,h'⟩):=eB hi (by
 show(if ps.length<=gY then gJ _ ps s1.h else none).bind _=_
 rw[if_pos (show ps.length<=gY from hl),hc]
 rfl)
theorem X0{t:Tg}{fe:Gx PV}{ρ:List (Option PV)}{p q:PV}{h:List aj}{st1:bU}{T5:List (Option PV)}{h2:List aj}(ht:t p ⟨ρ,h⟩=some st1)(he:fe st1=some (.ok q,⟨T5,h2⟩)):pz t fe ρ p h=some (some q,h2):=by
 unfold pz;rw[ht,om,he];rfl
theorem X1{t:Tg}{ft:Gx Bool}{fe:Gx PV}{ρ:List (Option PV)}{p q:PV}{b:Bool}{h:List aj}{st1:bU}{T5 ρ3:List (Option PV)}(ht:t p ⟨ρ,h⟩=some st1)(hw:ft st1=some (.ok b,⟨T5,h⟩))(he:b=true->fe ⟨T5,h⟩=some (.ok q,⟨ρ3,h⟩)):Ft t ft fe ρ p h=some (if b=true then some q else none,h):=by
 unfold Ft;rw[ht,om,hw];cases b with
 | false=>rfl
 | true =>
  show(fe _).bind _=_;rw[he rfl];rfl
theorem ZD{gc f:Gx Bool}{st s1:bU}{b b2:Bool}(h:gc st=some (.ok b,s1))(h2:b=true->f s1=some (.ok b2,s1)):iV gc f (b6 false) st=some (.ok (b&&b2),s1):=eB h (by
 cases b with
 | false=>rfl
 | true=>exact h2 rfl)
theorem Qs{bd:PV->List aj->Option (Option PV×List aj)}{h:List aj}:gJ bd [] h=some ([],h):=rfl
theorem Pu{bd:PV->List aj->Option (Option PV×List aj)}{p:PV}{ps qs:List PV}{o:Option PV}{h h1 h2:List aj}(e1:bd p h=some (o,h1))(e2:gJ bd ps h1=some (qs,h2)):gJ bd (p::ps) h=some (o.toList++qs,h2):=by
 show(bd p h).bind _=_;rw[e1];show(gJ bd ps h1).map _=_;rw[e2];rfl
theorem abH{C:Str}{n:Nat}{g:m7}{ts:Gx (List PV)}{st s1:bU}{as:List PV}{h':List aj}{q:PV}(X2:ts st=some (.ok as,s1))(hl:as.length+1=n)(hn:(s1.h.isEmpty || aD as)=true)(hg:g (.ref 0::as) [⟨.ins C [],[]⟩]=some (.ok .aK,h'))(hd:lH h' 4 (.ref 0)=some q):SQ C n g ts st=some (.ok q,s1):=eB X2 (by
 show(if as.length+1=n/\(s1.h.isEmpty || aD as)=true then(g (.ref 0::as) [⟨.ins C [],[]⟩]).bind (SO s1)else none)=_
 rw[if_pos ⟨hl,hn⟩,hg];show(lH h' 4 (.ref 0)).map _=_;rw[hd];rfl)
noncomputable def gx{α:Type}(f:Gx α)(st:bU):Option (Rs α×bU):=f st
theorem ZE{α:Type}{f:Gx α}{st:bU}{r:Option (Rs α×bU)}(h:f st=r):gx f st=r:=h
theorem du{α:Type}{f:Gx α}{st:bU}{r:Option (Rs α×bU)}(h:gx f st=r):f st=r:=h
end
end L2.U
namespace bZ
open PySem L2 L2.U
inductive Sx where
 | nu | ow | st (n:Fin 8) | tw | no | sn (n:Fin 8) | tn | dp (n:Fin 8) | di | fo
 deriving DecidableEq
abbrev pN:PV:=.ag [.str "num"]
abbrev pO:PV:=.ag [.str "own"]
abbrev pT:PV:=.ag [.str "rec",.ag [pN,pN]]
abbrev pD:PV:=.ag [.str "rec",.ag [pT,pO]]
def pS(n:Fin 8):PV:=.ag [.str "strip",.int (1+(n.val:Int))]
def fT:Sx->PV
 | .nu=>pN
 | .ow=>pO
 | .st n=>pS n
 | .tw=>pT
 | .no=>.ag [.str "rec",.ag [pN,pO]]
 | .sn n=>.ag [.str "rec",.ag [pS n,pN]]
 | .tn=>.ag [.str "rec",.ag [pT,pN]]
 | .dp n=>.ag [.str "rec",.ag [pD,pS n]]
 | .di=>pD
 | .fo=>.ag [.str "rec",.ag [pT,pT,pT,pT]]
inductive Kn where
 | ow (s:Sx) | ho (w:Bool) (s:Sx)
 deriving DecidableEq
noncomputable def lI(w:Bool):Str:=if w then "sole" else "lent"
def cA:Kn->PV
 | .ow s=>fT s
 | .ho w s=>.ag [.str (lI w),fT s]
noncomputable def Di:Kn->Sx
 | .ow s=>s
 | .ho _ s=>s
noncomputable def kz:Kn->Bool
 | .ow _=>false
 | .ho _ _=>true
abbrev Ky:=Str×Kn
noncomputable def bY(q:Ky):PV:=.ag [.str q.1,cA q.2]
theorem gh(k:Nat)(d:Kn):run aG (k+1) "is_holder" [cA d] []=some (.ok (.bl (kz d)),[]):=by
 cases d with
 | ow s=>cases s<;>kernel_rfl
 | ho w s=>cases w<;>cases s<;>kernel_rfl
end bZ
namespace L2.U
section
open Lean Meta
abbrev zq9wh (e : Lean.Expr) : MetaM Lean.Expr := withDefault (whnf e)
abbrev zq9sm (e : Lean.Expr) : SimpM Simp.Result := withReducible (Simp.simp e)
def zq9rflT (e d : Lean.Expr) : MetaM Lean.Expr := do mkExpectedTypeHint (← mkEqRefl d) (← mkEq e d)

def zq9nList (w : Bool) : Nat → Lean.Expr → MetaM Lean.Expr
 | 0, e => return e
 | n + 1, e => do
  let d ← zq9wh e
  if d.isAppOfArity ``List.cons 3 then
   let a := d.appFn!.appArg!.headBeta
   let a ← if w then (do let b ← zq9wh a; return if b.isAppOf ``Option.some || b.isAppOf ``Option.none then b else a) else pure a
   return mkApp2 d.appFn!.appFn! a (← zq9nList w n d.appArg!)
  else if d.isAppOf ``List.nil then return d
  else return e
def zq9natOf : Nat → Lean.Expr → MetaM (Option Nat)
 | 0, _ => return none
 | n + 1, e => do
  let d ← zq9wh e
  match d with
  | .lit (.natVal k) => return some k
  | _ => if d.isAppOfArity ``Nat.succ 1 then return (← zq9natOf n d.appArg!).map (· + 1) else if d.isConstOf ``Nat.zero then return some 0 else return none
def zq9isLit (e : Lean.Expr) : Nat → Bool
 | 0 => false
 | n + 1 => e.isAppOf ``List.nil || (e.isAppOfArity ``List.cons 3 && zq9isLit e.appArg! n)
def zq9nVal (v : Lean.Expr) : MetaM Lean.Expr := do
 let v ← withReducible (whnf v.headBeta)
 if v.isAppOfArity ``PV.ref 1 then
  if v.appArg!.isLit then return v
  match ← zq9natOf 60 v.appArg! with
  | some k => return mkApp (mkConst ``PV.ref) (mkNatLit k)
  | none => return v
 if v.isAppOfArity ``PV.nd 2 && !(v.appArg!.isAppOf ``List.map || zq9isLit v.appArg! 200) then
  let ps ← zq9nList false 200 v.appArg!
  return if zq9isLit ps 200 then mkApp v.appFn! ps else v
 if (← isConstructorApp? v).isSome || v.isFVar then return v
 if v.isProj || (← isMatcherApp v) || v.getAppFn.isProj then zq9wh v else match v.getAppFn with
 | .const c _ => if (← isProjectionFn c) || c == ``Option.get || c == ``ite || c == ``Option.getD then zq9wh v else return v
 | _ => return v
def zq9nCell (c : Lean.Expr) : MetaM Lean.Expr := do
 let d ← zq9wh c
 unless d.isAppOfArity ``aj.mk 2 do return c
 let k ← zq9wh d.appFn!.appArg!
 let k ← if k.isAppOfArity ``Kd.ins 2 then pure (mkApp k.appFn! (← zq9nList false 200 k.appArg!)) else pure k
 let ps ← zq9nList false 200 d.appArg!
 return mkApp2 d.appFn!.appFn! k ps
def zq9nHeap : Nat → Lean.Expr → MetaM Lean.Expr
 | 0, e => return e
 | n + 1, e => do
  let d ← zq9wh e
  if d.isAppOfArity ``List.cons 3 then return mkApp2 d.appFn!.appFn! (← zq9nCell d.appFn!.appArg!.headBeta) (← zq9nHeap n d.appArg!)
  else if d.isAppOf ``List.nil then return d
  else return e
def zq9nSta (e : Lean.Expr) : MetaM Lean.Expr := do
 let d ← zq9wh e
 if d.isAppOfArity ``bU.mk 2 then return mkApp2 d.appFn!.appFn! (← zq9nList true 200 d.appFn!.appArg!) (← zq9nHeap 200 d.appArg!) else return e
def zq9someArg? (e : Lean.Expr) : Option Lean.Expr := if e.isAppOfArity ``Option.some 2 then some e.appArg! else none
def zq9evB (b : Lean.Expr) : SimpM (Lean.Expr × Lean.Expr) := do
 let b := b.headBeta
 let d ← zq9wh b
 if d.isConstOf ``Bool.true || d.isConstOf ``Bool.false then return (d, ← mkExpectedTypeHint (← mkEqRefl d) (← mkEq b d))
 let r ← zq9sm b
 let r' ← if r.expr.isConstOf ``Bool.true || r.expr.isConstOf ``Bool.false then pure r.expr else do
  let d ← zq9wh r.expr
  pure (if d.isConstOf ``Bool.true || d.isConstOf ``Bool.false then d else r.expr)
 return (r', ← mkExpectedTypeHint (← r.getProof) (← mkEq b r'))
def zq9atRoot (o : Lean.Expr) : SimpM (Option Simp.Result) := withReducible do
 match ← Simp.rewritePost false o with
 | .visit r => return some r
 | .done r => return some r
 | .continue (some r) => return some r
 | .continue none => return none
def zq9evO (o : Lean.Expr) : SimpM (Option (Lean.Expr × Lean.Expr)) := do
 let o := o.headBeta
 if let some r ← zq9atRoot o then
  if let some v := zq9someArg? r.expr then
   let v' ← if (← inferType v).isConstOf ``PV then zq9nVal v else pure v
   let b? := if v'.isAppOfArity ``PV.bl 1 then some v'.appArg! else none
   match b? with
   | none => return some (v', ← mkExpectedTypeHint (← r.getProof) (← mkEq o (mkApp r.expr.appFn! v')))
   | some b =>
    let (b', p) ← zq9evB b
    let f := mkLambda `x .default (mkConst ``Bool) (mkApp r.expr.appFn! (mkApp (mkConst ``PV.bl) (Lean.Expr.bvar 0)))
    return some (mkApp (mkConst ``PV.bl) b', ← mkEqTrans (← r.getProof) (← mkExpectedTypeHint (← mkCongrArg f p) (← mkEq r.expr (mkApp r.expr.appFn! (mkApp (mkConst ``PV.bl) b')))))
 let d ← zq9wh o
 let bySimp : SimpM (Option (Lean.Expr × Lean.Expr)) := do
  let r ← zq9sm o
  let d ← if (zq9someArg? r.expr).isSome then pure r.expr else zq9wh r.expr
  match zq9someArg? d with
  | some v => return some (v, ← mkExpectedTypeHint (← r.getProof) (← mkEq o d))
  | none => return none
 match zq9someArg? d with
 | some v =>
  let ty ← inferType v
  if ty.isConstOf ``bU then
   let v ← zq9nSta v
   let d := mkApp d.appFn! v
   return some (v, ← zq9rflT o d)
  let v := v.headBeta
  let v ← if ty.isConstOf ``PV then zq9nVal v else pure v
  let b? := if v.isAppOfArity ``PV.bl 1 then some v.appArg! else if ty.isConstOf ``Bool then some v else none
  match b? with
  | none => let d' := mkApp d.appFn! v; return some (v, ← zq9rflT o d')
  | some b =>
   let b' ← zq9wh b
   let f := if ty.isConstOf ``Bool then id else mkApp (mkConst ``PV.bl)
   if b'.isConstOf ``Bool.true || b'.isConstOf ``Bool.false then let d' := mkApp d.appFn! (f b'); return some (f b', ← zq9rflT o d')
   let fallback : SimpM (Option (Lean.Expr × Lean.Expr)) := do
    let (b', p) ← zq9evB b
    return some (f b', ← mkExpectedTypeHint (← mkCongrArg (mkLambda `x .default (mkConst ``Bool) (mkApp d.appFn! (f (Lean.Expr.bvar 0)))) p) (← mkEq o (mkApp d.appFn! (f b'))))
   match ← bySimp with
   | some (v', p) =>
    let c := if v'.isAppOfArity ``PV.bl 1 then v'.appArg! else v'
    if c.isConstOf ``Bool.true || c.isConstOf ``Bool.false || (zq9someArg? (← zq9sm o).expr).isSome then return some (v', p)
    fallback
   | none => fallback
 | none => bySimp
def zq9okE (α a st : Lean.Expr) : Lean.Expr :=
 let rs := mkApp (mkConst ``Rs) α
 let pr := mkApp2 (mkConst ``Prod [0, 0]) rs (mkConst ``bU)
 mkApp2 (mkConst ``Option.some [0]) pr (mkApp4 (mkConst ``Prod.mk [0, 0]) rs (mkConst ``bU) (mkApp2 (mkConst ``Rs.ok) α a) st)
def zq9okH (a h : Lean.Expr) : Lean.Expr :=
 let rs := mkApp (mkConst ``Rs) (mkConst ``PV)
 let lc := mkApp (mkConst ``List [0]) (mkConst ``aj)
 let pr := mkApp2 (mkConst ``Prod [0, 0]) rs lc
 mkApp2 (mkConst ``Option.some [0]) pr (mkApp4 (mkConst ``Prod.mk [0, 0]) rs lc (mkApp2 (mkConst ``Rs.ok) (mkConst ``PV) a) h)
def zq9okArgs? (r : Lean.Expr) : Option (Lean.Expr × Lean.Expr) := do
 let x ← zq9someArg? r
 guard (x.isAppOfArity ``Prod.mk 4)
 let y := x.appFn!.appArg!
 guard (y.isAppOfArity ``Rs.ok 2)
 return (y.appArg!, x.appArg!)
def zq9nRes (e : Lean.Expr) : MetaM (Option Lean.Expr) := do
 let d ← zq9wh e
 let some x := zq9someArg? d | return none
 let x ← zq9wh x
 unless x.isAppOfArity ``Prod.mk 4 do return none
 let y ← zq9wh (x.appFn!.appArg!)
 let st ← zq9nSta x.appArg!
 let y ← if y.isAppOfArity ``Rs.ok 2 then (do let v ← (do let v := y.appArg!.headBeta; if (← inferType v).isConstOf ``PV then zq9nVal v else zq9wh v); pure (mkApp y.appFn! v)) else pure y
 return some (mkApp d.appFn! (mkApp2 x.appFn!.appFn! y st))
def zq9evUnfold : List Lean.Name := [``op2, ``fy, ``Qh, ``yY, ``toB, ``v3, ``yV, ``iV, ``qL, ``YJ, ``v9, ``pe, ``Ck, ``E7, ``chain, ``Nl, ``Wr, ``Nm, ``NN, ``Fc, ``cutE, ``NP, ``FY, ``CI, ``Wx, ``Ou, ``O2, ``Kb, ``tyG, ``qO, ``Qk, ``Fy, ``FD, ``O1, ``OT, ``N7, ``WS, ``zi, ``r6, ``FV, ``Xb, ``Np, ``Oj, ``Bb, ``Km]
def zq9mkLe (a b : Lean.Expr) : MetaM (Option Lean.Expr) := do
 let p ← mkAppM ``LE.le #[a, b]
 let d ← mkAppM ``Decidable.decide #[p]
 let r ← zq9wh d
 if r.isConstOf ``Bool.true then return some (← mkAppM ``of_decide_eq_true #[← mkExpectedTypeHint (← mkEqRefl (mkConst ``Bool.true)) (← mkEq d (mkConst ``Bool.true))]) else return none
def zq9byS (p : Lean.Expr) : SimpM (Option Lean.Expr) := do
 let r ← zq9sm p
 if r.expr.isTrue then return some (← mkOfEqTrue (← r.getProof)) else return none
def zq9evE (go : Lean.Expr → SimpM (Lean.Expr × Lean.Expr)) (bd p h : Lean.Expr) : SimpM (Lean.Expr × Lean.Expr) := do
 let as := bd.getAppArgs
 let ρ := as.back!
 let st := mkApp2 (mkConst ``bU.mk) ρ h
 let some (st1, pt) ← zq9evO (mkApp2 as[0]! p st) | throwError "zq9ev: target {p}"
 if bd.isAppOf ``pz then
  let (r1, p1) ← go (mkApp as[1]! st1)
  let some (v, s2) := zq9okArgs? r1 | throwError "zq9ev: elt1 {r1}"
  let q := mkAppN (mkConst ``X0) #[as[0]!, as[1]!, ρ, p, v, h, st1, s2.appFn!.appArg!, s2.appArg!, pt, p1]
  let some (_, _, r) := (← inferType q).eq? | throwError "zq9ev: elt1"
  return (r, q)
 else
  let (r1, p1) ← go (mkApp as[1]! st1)
  let some (b, st2) := zq9okArgs? r1 | throwError "zq9ev: elt2 {r1}"
  if b.isConstOf ``Bool.false then
   let q ← mkAppM `e2F #[pt, p1]
   let some (_, _, r) := (← inferType q).eq? | throwError "zq9ev: elt2"
   return (r, q)
  else if b.isConstOf ``Bool.true then
   let (_, p2) ← go (mkApp as[2]! st2)
   let q ← mkAppM `e2T #[pt, p1, p2]
   let some (_, _, r) := (← inferType q).eq? | throwError "zq9ev: elt2"
   return (r, q)
  else
   withLocalDeclD `hb (← mkEq b (mkConst ``Bool.true)) fun hb => do
    let thms ← (← Simp.getContext).simpTheorems.addTheorem (.fvar hb.fvarId!) hb
    Simp.withSimpTheorems thms do
     let (r2, p2) ← go (mkApp as[2]! st2)
     let some (v, s3) := zq9okArgs? r2 | throwError "zq9ev: elt2 {r2}"
     let q := mkAppN (mkConst ``X1) #[as[0]!, as[1]!, as[2]!, ρ, p, v, b, h, st1, st2.appFn!.appArg!, s3.appFn!.appArg!, pt, p1, ← mkLambdaFVars #[hb] p2]
     let some (_, _, r) := (← inferType q).eq? | throwError "zq9ev: elt2"
     return (r, q)
def zq9evL (go : Lean.Expr → SimpM (Lean.Expr × Lean.Expr)) (bd h : Lean.Expr) : Nat → Lean.Expr → SimpM Lean.Expr
 | 0, _ => throwError "zq9ev: long list"
 | m + 1, ps => do
  let d ← zq9wh ps
  if d.isAppOf ``List.nil then mkAppOptM ``Qs #[some bd, some h]
  else if d.isAppOfArity ``List.cons 3 then
   let (_, p) ← zq9evE go bd d.appFn!.appArg!.headBeta h
   let p2 ← zq9evL go bd h m d.appArg!
   mkAppM ``Pu #[p, p2]
  else throwError "zq9ev: list {ps}"
def zq9evC (go : Lean.Expr → SimpM (Lean.Expr × Lean.Expr)) (bd ps h : Lean.Expr) : SimpM Lean.Expr := do
 let d ← zq9wh ps
 if d.isAppOf ``List.nil || d.isAppOf ``List.cons then zq9evL go bd h 300 d
 else
  let d := if ps.isAppOfArity ``List.map 4 then ps else d
  unless d.isAppOfArity ``List.map 4 do throwError "zq9ev: list {ps}"
  let fn := d.getAppArgs[2]!
  let L := d.appArg!
  let α := d.getAppArgs[0]!
  withLocalDeclD `x α fun x => do
   let mem ← mkAppM ``Membership.mem #[L, x]
   withLocalDeclD `hx mem fun hx => do
    let thms ← (← Simp.getContext).simpTheorems.addTheorem (.fvar hx.fvarId!) hx
    Simp.withSimpTheorems thms do
     let (r, p) ← zq9evE go bd (mkApp fn x).headBeta h
     let some v := zq9someArg? r | throwError "zq9ev: item {r}"
     let o := v.appFn!.appArg!
     match zq9someArg? o with
     | some q =>
      let q ← mkLambdaFVars #[x] q
      mkAppOptM ``Dg #[some α, some fn, some q, some h, some bd, some L, some (← mkLambdaFVars #[x, hx] p)]
     | none =>
      unless o.isAppOfArity ``ite 5 do throwError "zq9ev: item {o}"
      let some (_, b, _) := o.getAppArgs[1]!.eq? | throwError "zq9ev: item {o}"
      let some q := zq9someArg? o.getAppArgs[3]! | throwError "zq9ev: item {o}"
      mkAppOptM ``Dh #[some α, some fn, some (← mkLambdaFVars #[x] q), some (← mkLambdaFVars #[x] b), some h, some bd, some L, some (← mkLambdaFVars #[x, hx] p)]
def zq9ev : Nat → Lean.Expr → SimpM (Lean.Expr × Lean.Expr)
 | 0, e => throwError "zq9ev: no fuel {e}"
 | n + 1, e => do
  let e := e.headBeta
  let f := e.getAppFn
  let as := e.getAppArgs
  let leaf : SimpM (Lean.Expr × Lean.Expr) := do
   let r ← zq9sm e
   let some x ← zq9nRes r.expr | throwError "zq9ev: stuck at{indentExpr e}\n which is{indentExpr r.expr}"
   return (x, ← mkExpectedTypeHint (← r.getProof) (← mkEq e x))
  let red : SimpM (Lean.Expr × Lean.Expr) := do
   match ← zq9nRes e with
   | some x => return (x, ← mkExpectedTypeHint (← mkEqRefl x) (← mkEq e x))
   | none => leaf
  match f with
  | .const c _ =>
   if c == ``bnd && as.size == 5 then
    let (r, p) ← zq9ev n (mkApp as[2]! as[4]!)
    let some (a, st) := zq9okArgs? r | throwError "zq9ev: no answer {r} of{indentExpr as[2]!}"
    let (r2, p2) ← zq9ev n (mkApp2 as[3]! a st).headBeta
    return (r2, mkAppN (mkConst ``ZC) #[as[0]!, as[1]!, as[2]!, as[3]!, as[4]!, st, a, r2, p, p2])
   else if c == ``b6 && as.size == 3 then
    if as[0]!.isConstOf ``Bool && !(as[1]!.isConstOf ``Bool.true || as[1]!.isConstOf ``Bool.false) then
     let (b, p) ← zq9evB as[1]!
     let f := mkLambda `x .default (mkConst ``Bool) (zq9okE as[0]! (Lean.Expr.bvar 0) as[2]!)
     return (zq9okE as[0]! b as[2]!, ← mkExpectedTypeHint (← mkCongrArg f p) (← mkEq e (zq9okE as[0]! b as[2]!)))
    let x := zq9okE as[0]! as[1]! as[2]!
    return (x, ← zq9rflT e x)
   else if c == ``fB && as.size == 3 then
    let some (v, p) ← zq9evO as[1]! | throwError "zq9ev: stuck at lif{indentExpr as[1]!}"
    return (zq9okE as[0]! v as[2]!, mkAppN (mkConst ``Zz) #[as[0]!, as[1]!, v, as[2]!, p])
   else if c == ``hp && as.size == 3 then
    let st ← zq9wh as[2]!
    let h := if st.isAppOfArity ``bU.mk 2 then st.appArg! else mkApp (mkConst ``bU.h) as[2]!
    let some (v, p) ← zq9evO (mkApp as[1]! h).headBeta | throwError "zq9ev: stuck at hp{indentExpr (mkApp as[1]! h).headBeta}"
    return (zq9okE as[0]! v as[2]!, mkAppN (mkConst ``abD) #[as[0]!, as[1]!, v, as[2]!, p])
   else if c == ``stp && as.size == 2 then
    let some (v, p) ← zq9evO (mkApp as[0]! as[1]!).headBeta | throwError "zq9ev: stuck at stp{indentExpr (mkApp as[0]! as[1]!).headBeta}"
    return (zq9okE (mkConst ``d6) (mkConst ``d6.nx) v, mkAppN (mkConst ``ZA) #[as[0]!, as[1]!, v, p])
   else if c == ``ite && as.size == 6 then
    let some (_, b, _) := as[1]!.eq? | throwError "zq9ev: ite {as[1]!}"
    let (b', p) ← zq9evB b
    if b'.isConstOf ``Bool.true then
     let (r, p2) ← zq9ev n (mkApp as[3]! as[5]!)
     let α := (← zq9wh as[0]!).bindingBody!.appArg!.appFn!.appArg!.appArg!
     return (r, mkAppN (mkConst ``abE) #[α, b, as[3]!, as[4]!, as[5]!, r, p, p2])
    else if b'.isConstOf ``Bool.false then
     let (r, p2) ← zq9ev n (mkApp as[4]! as[5]!)
     let α := (← zq9wh as[0]!).bindingBody!.appArg!.appFn!.appArg!.appArg!
     return (r, mkAppN (mkConst ``abF) #[α, b, as[3]!, as[4]!, as[5]!, r, p, p2])
    else throwError "zq9ev: open test{indentExpr b'}"
   else if c == ``iy && as.size == 4 then
    let st := mkApp2 (mkConst ``bU.mk) (← zq9nList true 200 (mkApp2 (mkConst ``hJ) as[1]! as[2]!)) as[3]!
    let (r, p) ← zq9ev n (mkApp as[0]! st)
    let some (a, s1) := zq9okArgs? r | throwError "zq9ev: run's end {r}"
    let h1 := if s1.isAppOfArity ``bU.mk 2 then s1.appArg! else mkApp (mkConst ``bU.h) s1
    if a.isAppOf ``d6.rt then return (zq9okH a.appArg! h1, mkAppN (mkConst ``XW) #[as[0]!, as[1]!, as[2]!, as[3]!, a.appArg!, s1, p])
    else if a.isConstOf ``d6.nx then return (zq9okH (mkConst ``PV.aK) h1, mkAppN (mkConst ``XX) #[as[0]!, as[1]!, as[2]!, as[3]!, s1, p])
    else throwError "zq9ev: run's end {r}"
   else if (c == ``i8 && as.size == 5) || (c == ``j3 && as.size == 4) then
    let k := if c == ``i8 then 1 else 0
    let st ← zq9wh as[3 + k]!
    let h := if st.isAppOfArity ``bU.mk 2 then st.appArg! else mkApp (mkConst ``bU.h) st
    let as' ← zq9nList false 50 as[2 + k]!
    let q ← mkAppM ``Bool.or #[← mkAppM ``List.isEmpty #[h], ← mkAppM ``aD #[as']]
    let q ← if k == 1 then mkAppM ``and #[← mkAppM ``BEq.beq #[as[0]!, mkNatLit 0], q] else pure q
    let (b, pb) ← zq9evB q
    let hl ← mkExpectedTypeHint (← mkEqRefl as[k]!) (← mkEq (← mkAppM ``List.length #[as']) as[k]!)
    if b.isConstOf ``Bool.true then
     let q0 ← mkAppM ``Bool.or #[← mkAppM ``List.isEmpty #[h], ← mkAppM ``aD #[as']]
     let (_, pb0) ← zq9evB q0
     let cl := mkApp2 as[1 + k]! as' (← mkAppOptM ``List.nil #[some (mkConst ``aj)])
     let (r, p) ← zq9ev n cl
     let some (v, h') := zq9okArgs? r | throwError "zq9ev: call's end{indentExpr cl}\n is {r}"
     let fz := mkApp2 (mkConst ``hV) h' v
     let some (qv, pf) ← zq9evO fz | throwError "zq9ev: stuck at {fz}"
     return (zq9okE (mkConst ``PV) qv as[3 + k]!, mkAppN (mkConst (if k == 1 then ``XY else ``KO)) #[as[k]!, as[1 + k]!, as', as[3 + k]!, v, qv, h', pb0, hl, p, pf])
    else if b.isConstOf ``Bool.false && k == 1 then
     let (r, p) ← zq9ev n (mkApp2 as[2]! as' h)
     let some (v, h') := zq9okArgs? r | throwError "zq9ev: call's end {r}"
     let ρ := if st.isAppOfArity ``bU.mk 2 then st.appFn!.appArg! else mkApp (mkConst ``bU.ρ) st
     return (zq9okE (mkConst ``PV) v (mkApp2 (mkConst ``bU.mk) ρ h'), mkAppN (mkConst `evCallM) #[as[0]!, as[1]!, as[2]!, as', as[4]!, v, h', pb, hl, p])
    else throwError "zq9ev: call with refs? {b} of{indentExpr e}"
   else if c == ``ef && as.size == 4 then
    unless zq9isLit as[2]! 300 || as[2]!.isAppOf ``List.cons do
     let r ← zq9sm e
     if (zq9someArg? r.expr).isSome then
      let some x ← zq9nRes r.expr | throwError "zq9ev: loop{indentExpr r.expr}"
      return (x, ← mkExpectedTypeHint (← r.getProof) (← mkEq e x))
    let ps ← zq9wh as[2]!
    if ps.isAppOf ``List.cons || ps.isAppOf ``List.nil then
     let some d ← withDefault (unfoldDefinition? (mkAppN f #[as[0]!, as[1]!, ps, as[3]!])) | throwError "zq9ev: forF"
     let (r, p) ← zq9ev n (← whnfCore d)
     return (r, ← mkExpectedTypeHint p (← mkEq e r))
    else leaf
   else if c == ``i4 && as.size == 5 && as[0]!.isConstOf ``Bool.false then
    let (r, p) ← zq9ev n (mkApp as[2]! as[4]!)
    let some (src, st) := zq9okArgs? r | throwError "zq9ev: source {r}"
    unless src.isAppOf ``A2.sq do throwError "zq9ev: source {src}"
    let ps0 := src.appArg!
    let (ps, p) ← if ps0.isAppOf ``List.map || zq9isLit ps0 300 then pure (ps0, p) else (do
     let r ← zq9sm ps0
     let lt := mkApp (mkConst ``List [0]) (mkConst ``PV)
     let lam := mkLambda `l .default lt (zq9okE (mkConst ``A2) (mkApp (mkConst ``A2.sq) (Lean.Expr.bvar 0)) st)
     return (r.expr, ← mkEqTrans p (← mkCongrArg lam (← r.getProof))))
    let ρ ← zq9nList true 100 (mkApp2 (mkConst ``dq) as[1]! st.appFn!.appArg!)
    let bd := mkApp as[3]! ρ
    let h := st.appArg!
    let le ← mkAppM ``LE.le #[← mkAppM ``List.length #[ps], mkNatLit 4000000]
    let hl ← match ← zq9mkLe (← mkAppM ``List.length #[ps]) (mkNatLit 4000000) with
     | some p => pure p
     | none => match ← zq9byS le with | some p => pure p | none => throwError "zq9ev: length of {ps}"
    let hc ← zq9evC (zq9ev n) bd ps h
    let some (_, _, rc) := (← inferType hc).eq? | throwError "zq9ev: comp"
    let x := rc.appArg!
    let qs := x.appFn!.appArg!
    return (zq9okE (mkConst ``PV) (mkApp (mkConst ``PV.lst) qs) (mkApp2 (mkConst ``bU.mk) st.appFn!.appArg! x.appArg!), mkAppN (mkConst ``XZ) #[as[1]!, as[2]!, as[3]!, as[4]!, st, ps, qs, x.appArg!, p, hl, hc])
   else if c == ``run || c == ``Ij then leaf
   else if c == ``iV && as.size == 5 && as[0]!.isConstOf ``Bool && (as[2]!.isAppOf ``b6 || as[3]!.isAppOf ``b6) then
    let (r, p) ← zq9ev n (mkApp as[1]! as[4]!)
    let some (b, s1) := zq9okArgs? r | throwError "zq9ev: test {r}"
    if b.isConstOf ``Bool.true || b.isConstOf ``Bool.false then
     let t := b.isConstOf ``Bool.true
     let (r2, p2) ← zq9ev n (mkApp (if t then as[2]! else as[3]!) s1)
     return (r2, mkAppN (mkConst (if t then ``XT else ``XU)) #[as[0]!, as[1]!, as[2]!, as[3]!, as[4]!, s1, r2, p, p2])
    else
     let isA := as[3]!.isAppOf ``b6 && as[3]!.appArg!.isConstOf ``Bool.false
     let f := if isA then as[2]! else as[3]!
     withLocalDeclD `hb (← mkEq b (mkConst (if isA then ``Bool.true else ``Bool.false))) fun hb => do
      let thms ← (← Simp.getContext).simpTheorems.addTheorem (.fvar hb.fvarId!) hb
      Simp.withSimpTheorems thms do
       let (r2, p2) ← zq9ev n (mkApp f s1)
       let some (b2, _) := zq9okArgs? r2 | throwError "zq9ev: test {r2}"
       let lam ← mkLambdaFVars #[hb] p2
       return (zq9okE (mkConst ``Bool) (mkApp2 (mkConst (if isA then ``Bool.and else ``Bool.or)) b b2) s1, mkAppN (mkConst (if isA then ``ZD else `evOr)) #[as[1]!, f, as[4]!, s1, b, b2, p, lam])
   else if c == ``SQ && as.size == 5 then
    let (r, p) ← zq9ev n (mkApp as[3]! as[4]!)
    let some (l, st) := zq9okArgs? r | throwError "zq9ev: made {r}"
    let l ← zq9nList false 50 l
    let h := st.appArg!
    let q ← mkAppM ``Bool.or #[← mkAppM ``List.isEmpty #[h], ← mkAppM ``aD #[l]]
    let (b, pb) ← zq9evB q
    unless b.isConstOf ``Bool.true do throwError "zq9ev: made with refs {b}"
    let lc := mkApp (mkConst ``List [0]) (mkConst ``aj)
    let nn := mkApp (mkConst ``List.nil [0]) (mkConst ``PV)
    let nS := mkApp (mkConst ``List.nil [0]) (mkConst ``PySem.Str)
    let cell := mkApp2 (mkConst ``aj.mk) (mkApp2 (mkConst ``Kd.ins) as[0]! nS) nn
    let cells := mkApp3 (mkConst ``List.cons [0]) (mkConst ``aj) cell (mkApp (mkConst ``List.nil [0]) (mkConst ``aj))
    let ar := mkApp3 (mkConst ``List.cons [0]) (mkConst ``PV) (mkApp (mkConst ``PV.ref) (mkNatLit 0)) l
    let (r2, p2) ← zq9ev n (mkApp2 as[2]! ar cells)
    let some (_, h') := zq9okArgs? r2 | throwError "zq9ev: made, end {r2}"
    let dr := mkApp3 (mkConst ``lH) h' (mkNatLit 4) (mkApp (mkConst ``PV.ref) (mkNatLit 0))
    let some (qv, pd) ← zq9evO dr | throwError "zq9ev: stuck at {dr}"
    let hl ← mkExpectedTypeHint (← mkEqRefl as[1]!) (← mkEq (← mkAppM ``HAdd.hAdd #[← mkAppM ``List.length #[l], mkNatLit 1]) as[1]!)
    return (zq9okE (mkConst ``PV) qv st, mkAppN (mkConst ``abH) #[as[0]!, as[1]!, as[2]!, as[3]!, as[4]!, st, l, h', qv, p, hl, pb, p2, pd])
   else if zq9evUnfold.contains c then
    let some d ← withDefault (unfoldDefinition? e) | red
    zq9ev n (← whnfCore d)
   else
    let some d ← withDefault (unfoldDefinition? e) | red
    let d ← withReducible (whnf d)
    match d.getAppFn with
    | .const c' _ =>
     if c' == ``bnd || c' == ``b6 || zq9evUnfold.contains c' then
      let (r, p) ← zq9ev n d
      return (r, ← mkExpectedTypeHint p (← mkEq e r))
     else red
    | _ => red
  | .fvar _ => leaf
  | _ => red
simproc_decl kB (gx _ _) := fun e => do
 let as := e.getAppArgs
 let (r, p) ← zq9ev 400 (mkApp as[1]! as[2]!)
 return .done { expr := r, proof? := mkAppN (mkConst ``ZE) #[as[0]!, as[1]!, as[2]!, r, p] }
simproc_decl aR (iy _ _ _ _) := fun e => do
 let (r, p) ← zq9ev 400 e
 return .done { expr := r, proof? := p }
end
end L2.U
namespace bZ
open PySem L2 L2.U
theorem ql(k:Nat)(d:Kn):run aG (k+2) "shape_of" [cA d] []=some (.ok (fT (Di d)),[]):=by
 rw[u0];have h:=gh k d;cases d<;>simp only[↓aR,h,kz]<;>rfl
inductive q0 where
 | aK | own (s:Sx) | m5 (w:Bool) (s:Sx) (src:List Str)
def fG:q0->PV
 | .aK=>.aK
 | .own s=>fT s
 | .m5 w s l=>.ag [.str (lI w),fT s,.ag (l.map .str)]
structure Sc where
 K:List Ky
 res:q0
 size:Nat
 hk:List (List cC)
 hv:List PV
noncomputable def zQ(K:List Ky):List (List cC):=K.map λq=>[.inr q.1]
def Dj(K:List Ky):List PV:=K.map λq=>cA q.2
abbrev T7(K:List Ky):PV:=.nd (.eR false (zQ K)) (Dj K)
def gQ(S:Sc):PV:=.nd (.ins "Scene" ["kinds","result","size","heads"]) [T7 S.K,fG S.res,.int S.size,.nd (.eR false S.hk) S.hv]
noncomputable def cx:List Ky->Str->Option Kn
 | [],_=>none
 | r::l,x=>if r.1=x then some r.2 else cx l x
theorem zR:∀{K:List Ky} {x:Str},da [.inr x] (zQ K) (Dj K)=(cx K x).map cA
 | [],_=>rfl
 | r::l,x=>by
  show(if [(Sum.inr r.1:cC)]=[Sum.inr x]then some (cA r.2)else da [.inr x] (zQ l) (Dj l))=_
  unfold cx;by_cases h:r.1=x
  ·rw[if_pos h,if_pos (by rw[h])];rfl
  ·rw[if_neg h,if_neg (by simpa using h),zR]
theorem G3:∀{K:List Ky} {x:Str},gv [.inr x] (zQ K)=(cx K x).isSome
 | [],_=>rfl
 | r::l,x=>by
  show(decide ([(Sum.inr r.1:cC)]=[Sum.inr x]) || gv [.inr x] (zQ l))=_;unfold cx;rw[G3];by_cases h:r.1=x
  ·rw[if_pos h,aP (by rw[h])];rfl
  ·rw[if_neg h,aV (by simpa using h)];rfl
theorem Pw{K:List Ky}{x:Str}{d:Kn}{h:List aj}(hd:cx K x=some d):dI h (T7 K) (.str x)=some (cA d):=by
 show da [.inr x] (zQ K) (Dj K)=_;rw[zR,hd];rfl
theorem X3{K:List Ky}{x:Str}{d:Kn}{h:List aj}(hd:cx K x=some d):Cr true h (.str x) (T7 K)=some (.bl false):=by
 show some (PV.bl (!gv [.inr x] (zQ K)))=_;rw[G3,hd];rfl
theorem T8{K:List Ky}{x:Str}{d:Kn}{h:List aj}(hd:cx K x=some d):Oi h (T7 K) [.str x]=some (cA d):=by
 show(if gv [.inr x] (zQ K)=true then da [.inr x] (zQ K) (Dj K)else some .aK)=_
 rw[G3,zR,hd];rfl
noncomputable def kA:Kn->Bool
 | .ho false _=>false
 | _=>true
theorem mr(k:Nat)(S:Sc)(x:Str)(p a:PV){d:Kn}(hd:cx S.K x=some d):run aG (k+1) "may_be_written" [gQ S,.ag [.str x,.bl (kz d),p,a]] []=some (.ok (.bl (kA d)),[]):=by
 rw[j9];rcases d with s | ⟨_ | _,s⟩<;>simp only[↓aR,Pw hd]<;>rfl
theorem Px{P:Fin 8->Prop}(h0:P 0)(h1:P 1)(h2:P 2)(h3:P 3)(h4:P 4)(h5:P 5)(h6:P 6)(h7:P 7):∀n,P n
 | 0=>h0 | 1=>h1 | 2=>h2 | 3=>h3 | 4=>h4 | 5=>h5 | 6=>h6 | 7=>h7
noncomputable def tS(n:Fin 8):Tr:=.ag [.str "strip",.int (1+(n.val:Int))]
noncomputable def L5:Tr:=.ag [.str "num"]
noncomputable def X4:Tr:=.ag [.str "own"]
def Py:Tr:=.ag [.str "rec",.ag [L5,L5]]
def Vh:Tr:=.ag [.str "rec",.ag [Py,X4]]
def G4:Sx->Tr
 | .nu=>L5
 | .ow=>X4
 | .st n=>tS n
 | .tw=>Py
 | .no=>.ag [.str "rec",.ag [L5,X4]]
 | .sn n=>.ag [.str "rec",.ag [tS n,L5]]
 | .tn=>.ag [.str "rec",.ag [Py,L5]]
 | .dp n=>.ag [.str "rec",.ag [Vh,tS n]]
 | .di=>Vh
 | .fo=>.ag [.str "rec",.ag [Py,Py,Py,Py]]
def T9:Kn->Tr
 | .ow s=>G4 s
 | .ho w s=>.ag [.str (lI w),G4 s]
theorem toT_S(h:List aj)(s:Sx):toT h fq (fT s)=some (G4 s):=by cases s<;>kernel_rfl
theorem toT_K(h:List aj)(d:Kn):toT h fq (cA d)=some (T9 d):=by
 cases d with
 | ow s=>exact toT_S h s
 | ho w s=>cases s<;>kernel_rfl
theorem X5(n m:Fin 8):((1+(n.val:Int))==(1+(m.val:Int)))=decide (n=m):=by
 rw[lT,oI,decide_eq_true_iff,Fin.ext_iff]
 lia
theorem zS(n m:Fin 8):eqT (tS n) (tS m)=decide (n=m):=by
 show((Str.ofString "strip"==Str.ofString "strip")&&(((1+(n.val:Int))==(1+(m.val:Int)))&&true))=_;rw[X5,Bool.and_true,iN,jQ]
theorem G5(a b:Sx):eqT (G4 a) (G4 b)=decide (a=b):=by
 cases a<;>cases b
 case st.st n m=>rw[show decide (Sx.st n=Sx.st m)=decide (n=m) by simp];exact zS n m
 case sn.sn n m=>simp[G4,eqT,kU,zS,show eqT L5 L5=true by kernel_rfl]
 case dp.dp n m=>simp[G4,eqT,kU,zS,show eqT Vh Vh=true by kernel_rfl]
 all_goals kernel_rfl
theorem Ua(a b:Kn):eqT (T9 a) (T9 b)=decide (a=b):=by
 rcases a with a | ⟨v,a⟩<;>rcases b with b | ⟨w,b⟩
 ·rw[show decide (Kn.ow a=Kn.ow b)=decide (a=b) by simp];exact G5 a b
 ·cases w<;>cases a<;>kernel_rfl
 ·cases v<;>cases b<;>kernel_rfl
 ·show(_==_&&(eqT (G4 a) (G4 b)&&true))=_;rw[G5];cases v<;>cases w
  ·simp
  ·kernel_rfl
  ·kernel_rfl
  ·simp
theorem Pz{h:List aj}{a b:Sx}:AQ h (fT a) (fT b)=some (.bl (decide (a=b))):=by
 show((toT h fq (fT a)).bind λx=>(toT h fq (fT b)).map λy=>eqT x y).map _=_
 rw[toT_S,toT_S];show some (PV.bl (eqT (G4 a) (G4 b)))=_;rw[G5]
theorem q8{h:List aj}{a b:Kn}:AQ h (cA a) (cA b)=some (.bl (decide (a=b))):=by
 show((toT h fq (cA a)).bind λx=>(toT h fq (cA b)).map λy=>eqT x y).map _=_
 rw[toT_K,toT_K];show some (PV.bl (eqT (T9 a) (T9 b)))=_;rw[Ua]
theorem kh(k:Nat)(s:Sx):run aG (k+9) "is_shape" [fT s] []=some (.ok (.bl true),[]):=by
 cases s
 case st n=>revert n;refine Px ?_ ?_ ?_ ?_ ?_ ?_ ?_ ?_<;>kernel_rfl
 case sn n=>revert n;refine Px ?_ ?_ ?_ ?_ ?_ ?_ ?_ ?_<;>kernel_rfl
 case dp n=>revert n;refine Px ?_ ?_ ?_ ?_ ?_ ?_ ?_ ?_<;>kernel_rfl
 all_goals kernel_rfl
abbrev Te:=List Nat×Nat×Sx
noncomputable def kn:Sx->List Te
 | .nu=>[([],0,.nu)]
 | .ow=>[([],0,.ow)]
 | .st n=>[([],0,.st n)]
 | .tw=>[([],0,.tw),([0],0,.nu),([1],1,.nu)]
 | .no=>[([],0,.no),([0],0,.nu),([1],1,.ow)]
 | .sn n=>[([],0,.sn n),([0],0,.st n),([1],1,.nu)]
 | .tn=>[([],0,.tn),([0],0,.tw),([0,0],0,.nu),([0,1],1,.nu),([1],2,.nu)]
 | .di=>[([],0,.di),([0],0,.tw),([0,0],0,.nu),([0,1],1,.nu),([1],2,.ow)]
 | .dp n=>[([],0,.dp n),([0],0,.di),([0,0],0,.tw),([0,0,0],0,.nu),([0,0,1],1,.nu),([0,1],2,.ow),([1],3,.st n)]
 | .fo=>[([],0,.fo),([0],0,.tw),([0,0],0,.nu),([0,1],1,.nu),([1],2,.tw),([1,0],2,.nu),([1,1],3,.nu),([2],4,.tw),([2,0],4,.nu),([2,1],5,.nu),([3],6,.tw),([3,0],6,.nu),([3,1],7,.nu)]
def G6(p:List Nat):PV:=.ag (p.map fun(i:Nat)=>.int (i:Int))
def All{α:Type}(P:α->Prop):List α->Prop
 | []=>True
 | a::l=>P a/\All P l
theorem All.mem{α:Type}{P:α->Prop}:∀{l:List α},All P l->∀e∈l,P e
 | a::l,h,e,he=>by
  rcases aF.mp he with rfl | he
  ·exact h.1
  ·exact All.mem h.2 e he
theorem Bq{P:Sx->Te->Prop}(h:∀s,All (P s) (kn s))(s:Sx)(e:Te)(he:e∈kn s):P s e:=(h s).mem e he
theorem Dk(k:Nat)(s:Sx)(e:Te)(he:e∈kn s):run aG (k+9) "is_path" [fT s,G6 e.1] []=some (.ok (.bl true),[]):=by
 revert s e
 refine Bq λs=>?_
 cases s<;>(repeat' apply And.intro)<;>first | exact True.intro | kernel_rfl
theorem PC(k:Nat)(s:Sx)(e:Te)(he:e∈kn s):run aG (k+9) "part" [fT s,G6 e.1] []=some (.ok (fT e.2.2),[]):=by
 revert s e
 refine Bq λs=>?_
 cases s<;>(repeat' apply And.intro)<;>first | exact True.intro | kernel_rfl
inductive At where
 | aK | num (i:Int) | Ub (x:Str)
structure Sp where
 x:Str
 t:Bool
 p:List Nat
 a:At
noncomputable def PD:At->PV
 | .aK=>.aK
 | .num i=>.int i
 | .Ub x=>.str x
def fH(s:Sp):PV:=.ag [.str s.x,.bl s.t,G6 s.p,PD s.a]
def KQ(S:Sc)(i:Sx):At->Prop
 | .aK=>True
 | .num j=>∃n,i=.st n/\0<=j/\j<1+(n.val:Int)
 | .Ub y=>∃n,i=.st n/\cx S.K y=some (.ow .nu)
structure eu (S:Sc) (s:Sp) (d:Kn) (i:Sx):Prop where
 k:cx S.K s.x=some d
 t:s.t=kz d
 p:∃f,(s.p,f,i)∈kn (Di d)
 a:KQ S i s.a
theorem ic(k:Nat)(i:Int):run aG (k+1) "is_whole" [.int i] []=some (.ok (.bl true),[]):=by kernel_rfl
theorem ve(k:Nat)(x:List PV):run aG (k+1) "is_whole" [.ag x] []=some (.ok (.bl false),[]):=by kernel_rfl
theorem ie(k:Nat)(S:Sc)(x:Str){d e:Kn}(hd:cx S.K x=some d):run aG (k+1) "has_kind" [gQ S,.str x,cA e] []=some (.ok (.bl (decide (d=e))),[]):=by
 rw[u3];simp only[↓aR,T8 hd,q8]
theorem Dl(k:Nat)(S:Sc)(x:Str)(hd:cx S.K x=some (.ow .nu)):run aG (k+1) "has_kind" [gQ S,.str x,pN] []=some (.ok (.bl true),[]):=ie k S x (e:=.ow .nu) hd
theorem vf(k:Nat)(S:Sc)(i:Int)(p:PV):run aG (k+1) "has_kind" [gQ S,.int i,p] []=some (.ok (.bl false),[]):=by kernel_rfl
theorem cm(k:Nat){S:Sc}{s:Sp}{d:Kn}{i:Sx}(h:eu S s d i):run aG (k+10) "spot_shape" [gQ S,fH s] []=some (.ok (fT i),[]):=by
 rw[qd];obtain⟨hd,_,⟨f,hp⟩,_⟩:=h;have h:=λk=>PC k _ _ hp
 simp only at h;simp only[↓aR,Pw hd,ql,h]
theorem KR(k:Nat){S:Sc}{i:Sx}{a:At}(h:KQ S i a):run aG (k+2) "is_at" [gQ S,fT i,PD a] []=some (.ok (.bl true),[]):=by
 cases a with
 | aK=>kernel_rfl
 | num j =>
  obtain⟨n,rfl,h1,h2⟩:=h;rw[sJ];simp only[↓aR,vf,ic,aP h1,aP h2]
 | Ub y =>
  obtain⟨n,rfl,h1⟩:=h;have e:=λk=>Dl k S y h1
  show run aG (k+2) "is_at" [gQ S,fT (.st n),.str y] []=_;rw[sJ];simp only[↓aR,e]
theorem sL(k:Nat){S:Sc}{s:Sp}{d:Kn}{i:Sx}(h:eu S s d i):run aG (k+11) "is_spot" [gQ S,fH s] []=some (.ok (.bl true),[]):=by
 have e1:=λk=>cm k h
 obtain⟨hk,ht,⟨f,hp⟩,ha⟩:=h;have e2:=λk=>KR k ha
 have e3:=λk=>Dk k _ _ hp
 simp only at e3;rw[w5];have e4:JD [] (.bl s.t) (.bl (kz d))=some (.bl false):=by rw[ht];cases d<;>kernel_rfl
 simp only[↓aR,Pw hk,X3 hk,gh,ql,e1,e2,e3,e4]
noncomputable def ly:Sp->Sx->Bool
 | ⟨_,_,_,.aK⟩,.nu=>true
 | ⟨_,_,_,.aK⟩,.ow=>true
 | ⟨_,_,_,.aK⟩,_=>false
 | _,_=>true
theorem gN(k:Nat){S:Sc}{s:Sp}{d:Kn}{i:Sx}(h:eu S s d i):run aG (k+12) "is_number_spot" [gQ S,fH s] []=some (.ok (.bl (ly s i)),[]):=by
 have e1:=λk=>cm k h
 have e2:=λk=>sL k h
 rw[j8];obtain⟨x,t,p,a⟩:=s;cases a
 case aK=>cases i<;>simp only[↓aR,e1,e2,ly]
 all_goals simp only[↓aR,e1,e2,ly]
theorem dY(k:Nat){S:Sc}{s:Sp}{d:Kn}{i:Sx}(h:eu S s d i)(hn:s.a=.aK):run aG (k+12) "is_part_spot" [gQ S,fH s] []=some (.ok (.bl true),[]):=by
 have e2:=λk=>sL k h
 rw[mq];obtain⟨x,t,p,a⟩:=s;cases hn;simp only[↓aR,e2]
theorem iw(k:Nat){S:Sc}{s:Sp}{d:Kn}{i:Sx}(h:eu S s d i)(hn:s.a=.aK)(hh:kz d=false):run aG (k+13) "is_owned_part" [gQ S,fH s] []=some (.ok (.bl true),[]):=by
 have e2:=λk=>dY k h hn
 rw[lx];simp only[↓aR,e2,h.t,hh,Bool.not_false]
theorem L6(k:Nat){S:Sc}{s:Sp}{d:Kn}{i:Sx}(h:eu S s d i):run aG (k+1) "may_be_written" [gQ S,fH s] []=some (.ok (.bl (kA d)),[]):=by
 have:=mr k S s.x (G6 s.p) (PD s.a) h.k;rw[<-h.t]at this;exact this
theorem cU(k:Nat){S:Sc}{s:Sp}{d:Kn}{i:Sx}(h:eu S s d i)(hn:s.a=.aK)(hh:kA d=true):run aG (k+13) "is_written_part" [gQ S,fH s] []=some (.ok (.bl true),[]):=by
 have e2:=λk=>dY k h hn
 have e3:=λk=>L6 k h
 rw[jy];simp only[↓aR,e2,e3,hh]
theorem mL(k:Nat){S:Sc}{s:Sp}{d:Kn}{i:Sx}(h:eu S s d i)(hn:ly s i=true)(hh:kA d=true):run aG (k+13) "is_target" [gQ S,fH s] []=some (.ok (.bl true),[]):=by
 have e2:=λk=>gN k h
 have e3:=λk=>L6 k h
 rw[qV];simp only[↓aR,e2,e3,hh,hn]
inductive Op where
 | n (i:Int) | s (s:Sp)
def qF:Op->PV
 | .n i=>.int i
 | .s s=>fH s
def jz(S:Sc):Op->Prop
 | .n i=>0<=i/\i<10^30
 | .s s=>∃d i,eu S s d i/\ly s i=true
theorem cL(k:Nat){S:Sc}{o:Op}(h:jz S o):run aG (k+13) "is_operand" [gQ S,qF o] []=some (.ok (.bl true),[]):=by
 rw[qe];cases o with
 | n i =>
  obtain⟨h1,h2⟩:=h;have h3:yW [] (.int 10) (.int 30)=some (.int (10^30)):=by kernel_rfl
  simp only[↓aR,qF,ic,h3,aP h1,aP h2]
 | s s =>
  obtain⟨d,i,h,hn⟩:=h;have e2:=λk=>gN k h
  have e3:∀k,run aG (k+1) "is_whole" [fH s] []=some (.ok (.bl false),[]):=λk=>ve k _
  simp only[↓aR,qF,e2,e3,hn]
inductive Rw where
 | put (s:Sp) (o:Op)
 | set (s:Sp) (g:Str) (a b:Op)
 | fill (s:Sp) (o:Op)
 | qm (t s:Sp)
 | qo (t s:Sp)
 | drop (s:Sp)
 | ig (w:Bool) (x:Str) (s:Sp)
 | call (x f:Str) (as:List Str)
 | G7 (a b:Op) (to:Int)
 | go (to:Int)
 | G8 (o:Op)
 | eM (x:Str)
noncomputable def Vi(w:Bool):Str:=if w then "sole" else "lend"
def bJ:Rw->PV
 | .put s o=>.ag [.str "put",fH s,qF o]
 | .set s g a b=>.ag [.str "set",fH s,.str g,qF a,qF b]
 | .fill s o=>.ag [.str "fill",fH s,qF o]
 | .qm t s=>.ag [.str "copy",fH t,fH s]
 | .qo t s=>.ag [.str "move",fH t,fH s]
 | .drop s=>.ag [.str "drop",fH s]
 | .ig w x s=>.ag [.str (Vi w),.str x,fH s]
 | .call x f as=>.ag [.str "call",.str x,.str f,.ag (as.map .str)]
 | .G7 a b to=>.ag [.str "if",qF a,qF b,.int to]
 | .go to=>.ag [.str "go",.int to]
 | .G8 o=>.ag [.str "say",qF o]
 | .eM x=>.ag [.str "give",.str x]
def q9(S:Sc)(x:Str):q0->Prop
 | .aK=>x=""
 | .own s=>cx S.K x=some (.ow s)
 | .m5 w s _=>cx S.K x=some (.ho w s)
noncomputable def Vj:Sx->Bool
 | .ow=>false
 | .no=>false
 | .dp _=>false
 | .di=>false
 | _=>true
def Uc(S:Sc)(to:Int):Prop:=0<=to/\to<(S.size:Int)
def cB(S:Sc):Rw->Prop
 | .put s o=>(∃d i,eu S s d i/\ly s i=true/\kA d=true)/\jz S o
 | .set s g a b=>(∃d i,eu S s d i/\ly s i=true/\kA d=true)/\(g="+"\/g="-"\/g="*")/\jz S a/\jz S b
 | .fill s o=>(∃d n,eu S s d (.st n)/\s.a=.aK/\kA d=true)/\jz S o
 | .qm t s=>∃d e i,eu S t d i/\t.a=.aK/\kA d=true/\eu S s e i/\s.a=.aK/\Vj i=true
 | .qo t s=>∃d e i,eu S t d i/\t.a=.aK/\kA d=true/\eu S s e i/\s.a=.aK/\kz e=false
 | .drop s=>∃d i,eu S s d i/\s.a=.aK/\kz d=false
 | .ig w x s=>∃d i,eu S s d i/\s.a=.aK/\(w=true->kA d=true)/\cx S.K x=some (.ho w i)
 | .call x f as=>∃(ps:List Ky) (res:q0) (q l r:PV),gv [.inr f] S.hk=true/\da [.inr f] S.hk S.hv=some (.ag [q,.ag (ps.map bY),fG res,l,r])/\as.length=ps.length/\ps.length<=1000/\(∀z∈as.zip ps,cx S.K z.1=some z.2.2)/\q9 S x res
 | .G7 a b to=>jz S a/\jz S b/\Uc S to
 | .go to=>Uc S to
 | .G8 o=>jz S o
 | .eM x=>q9 S x S.res
theorem G9(k:Nat){S:Sc}{s:Sp}{o:Op}(h:cB S (.put s o)):run aG (k+14) "is_put" [gQ S,bJ (.put s o)] []=some (.ok (.bl true),[]):=by
 obtain⟨⟨d,i,h1,h2,h3⟩,h4⟩:=h;have e1:=λk=>mL k h1 h2 h3
 have e2:=λk=>cL k h4
 rw[zG];simp only[↓aR,e1,e2]
theorem Ha(k:Nat){S:Sc}{s:Sp}{g:Str}{a b:Op}(h:cB S (.set s g a b)):run aG (k+14) "is_set" [gQ S,bJ (.set s g a b)] []=some (.ok (.bl true),[]):=by
 obtain⟨⟨d,i,h1,h2,h3⟩,h4,h5,h6⟩:=h;have e1:=λk=>mL k h1 h2 h3
 have e2:=λk=>cL k h5
 have e3:=λk=>cL k h6
 rw[zH];rcases h4 with rfl | rfl | rfl<;>simp only[↓aR,e1,e2,e3]
theorem Dn(k:Nat){S:Sc}{s:Sp}{o:Op}(h:cB S (.fill s o)):run aG (k+14) "is_fill" [gQ S,bJ (.fill s o)] []=some (.ok (.bl true),[]):=by
 obtain⟨⟨d,n,h1,h2,h3⟩,h4⟩:=h;have e1:=λk=>cU k h1 h2 h3
 have e2:=λk=>cL k h4
 have e3:=λk=>cm k h1
 rw[w6];simp only[↓aR,e1,e2,e3]
theorem mM(k:Nat){S:Sc}{t s:Sp}{d e:Kn}{i:Sx}(h1:eu S t d i)(h2:eu S s e i):run aG (k+11) "are_alike" [gQ S,fH t,fH s] []=some (.ok (.bl true),[]):=by
 have e1:=λk=>cm k h1
 have e2:=λk=>cm k h2
 rw[qW];simp only[↓aR,e1,e2,Pz,decide_true]
theorem xn(k:Nat)(i:Sx):run aG (k+9) "is_copied" [fT i] []=some (.ok (.bl (Vj i)),[]):=by cases i<;>kernel_rfl
theorem Dp(k:Nat){S:Sc}{t s:Sp}(h:cB S (.qm t s)):run aG (k+14) "is_copy" [gQ S,bJ (.qm t s)] []=some (.ok (.bl true),[]):=by
 obtain⟨d,e,i,h1,h2,h3,h4,h5,h6⟩:=h;have e1:=λk=>cU k h1 h2 h3
 have e2:=λk=>dY k h4 h5
 have e3:=λk=>mM k h1 h4
 have e4:=λk=>cm k h4
 rw[w9];simp only[↓aR,e1,e2,e3,e4,xn,h6]
theorem Dq(k:Nat){S:Sc}{t s:Sp}(h:cB S (.qo t s)):run aG (k+14) "is_move" [gQ S,bJ (.qo t s)] []=some (.ok (.bl true),[]):=by
 obtain⟨d,e,i,h1,h2,h3,h4,h5,h6⟩:=h;have e1:=λk=>cU k h1 h2 h3
 have e2:=λk=>iw k h4 h5 h6
 have e3:=λk=>mM k h1 h4
 rw[xa];simp only[↓aR,e1,e2,e3]
theorem Dr(k:Nat){S:Sc}{s:Sp}(h:cB S (.drop s)):run aG (k+14) "is_drop" [gQ S,bJ (.drop s)] []=some (.ok (.bl true),[]):=by
 obtain⟨d,i,h1,h2,h3⟩:=h;have e1:=λk=>iw k h1 h2 h3
 rw[xb];simp only[↓aR,e1]
theorem qp(k:Nat){S:Sc}{x:Str}{w:Bool}{s:Sx}(hd:cx S.K x=some (.ho w s)):run aG (k+1) "has_kind" [gQ S,.str x,.ag [.str (lI w),fT s]] []=some (.ok (.bl true),[]):=by
 have:=ie k S x (e:=.ho w s) hd;rw[aP rfl]at this;exact this
theorem sM(k:Nat){S:Sc}{x:Str}{s:Sp}(h:cB S (.ig false x s)):run aG (k+14) "is_lend" [gQ S,bJ (.ig false x s)] []=some (.ok (.bl true),[]):=by
 obtain⟨d,i,h1,h2,h3,h4⟩:=h;have e1:=λk=>dY k h1 h2
 have e2:=λk=>cm k h1
 have e3:=λk=>qp k h4
 rw[show lI false="lent" from rfl]at e3
 rw[xc];simp only[↓aR,e1,e2,e3]
theorem sN(k:Nat){S:Sc}{x:Str}{s:Sp}(h:cB S (.ig true x s)):run aG (k+14) "is_sole" [gQ S,bJ (.ig true x s)] []=some (.ok (.bl true),[]):=by
 obtain⟨d,i,h1,h2,h3,h4⟩:=h;have e1:=λk=>cU k h1 h2 (h3 rfl)
 have e2:=λk=>cm k h1
 have e3:=λk=>qp k h4
 rw[show lI true="sole" from rfl]at e3
 rw[xf];simp only[↓aR,e1,e2,e3]
noncomputable def PF:q0->Bool
 | .m5 _ _ _=>true
 | _=>false
theorem rf(k:Nat)(r:q0)(h:r≠.aK):run aG (k+1) "is_holder" [fG r] []=some (.ok (.bl (PF r)),[]):=by
 cases r with
 | aK=>exact absurd rfl h
 | own s=>cases s<;>kernel_rfl
 | m5 w s l=>cases w<;>kernel_rfl
theorem lA(k:Nat){S:Sc}{x:Str}{r:q0}(h:q9 S x r):run aG (k+2) "takes_back" [gQ S,.str x,fG r] []=some (.ok (.bl true),[]):=by
 have e1:=λk=>rf k r
 rw[qf];cases r with
 | aK =>
  subst h;simp only[↓aR]
 | own s =>
  have e2:∀k,run aG (k+1) "has_kind" [gQ S,.str x,fG (.own s)] []=some (.ok (.bl true),[]):=λk=>by
   have:=ie k S x (e:=.ow s) h;rw[aP rfl]at this;exact this
  have e1:=λk=>e1 k (by simp)
  simp only[↓aR,e1,PF,e2,show kY (fG (.own s))=false by cases s<;>rfl]
 | m5 w s l =>
  have e2:=λk=>qp k h
  have e1:=λk=>e1 k (by simp)
  simp only[↓aR,e1,PF,e2]
theorem Ds(k:Nat){S:Sc}{x:Str}(h:cB S (.eM x)):run aG (k+14) "is_give" [gQ S,bJ (.eM x)] []=some (.ok (.bl true),[]):=by
 have e1:=λk=>lA k h
 rw[xi];simp only[↓aR,e1]
theorem sO(k:Nat){S:Sc}{to:Int}(h:Uc S to):run aG (k+2) "is_jump" [gQ S,.int to] []=some (.ok (.bl true),[]):=by
 rw[xh];simp only[↓aR,ic,aP h.1,aP h.2]
theorem KS(k:Nat){S:Sc}{a b:Op}{to:Int}(h:cB S (.G7 a b to)):run aG (k+14) "is_if" [gQ S,bJ (.G7 a b to)] []=some (.ok (.bl true),[]):=by
 obtain⟨h1,h2,h3⟩:=h;have e1:=λk=>cL k h1
 have e2:=λk=>cL k h2
 have e3:=λk=>sO k h3
 rw[C6];simp only[↓aR,e1,e2,e3]
theorem KU(k:Nat){S:Sc}{to:Int}(h:cB S (.go to)):run aG (k+14) "is_go" [gQ S,bJ (.go to)] []=some (.ok (.bl true),[]):=by
 have e3:=λk=>sO k h
 rw[C7];simp only[↓aR,e3]
theorem Hb(k:Nat){S:Sc}{o:Op}(h:cB S (.G8 o)):run aG (k+14) "is_say" [gQ S,bJ (.G8 o)] []=some (.ok (.bl true),[]):=by
 have e3:=λk=>cL k h
 rw[zI];simp only[↓aR,e3]
theorem vg{α β:Type}(f:α->PV)(g:β->PV):∀(as:List α) (bs:List β),List.zipWith eJ (as.map f) (bs.map g)=(as.zip bs).map λz=>.ag [f z.1,g z.2]
 | [],_=>by simp
 | _::_,[]=>by simp
 | a::as,b::bs=>by
  have:=vg f g as bs;simp only[aA,List.zipWith_cons_cons,List.zip_cons_cons,this];rfl
theorem sP{α:Type}(g:α->Bool):∀L:List α,j5 (L.map λx=>.bl (g x))=some (L.map g)
 | []=>rfl
 | x::L=>by
  have:=sP g L;unfold j5 at this ⊢;simp_all [aT,vZ]
theorem all_map{α:Type}{g:α->Bool}{L:List α}{h:List aj}:wL h [.lst (L.map λx=>.bl (g x))]=some (.bl (L.all g)):=by
 show(j5 (L.map λx=>.bl (g x))).map _=_
 rw[sP];simp[List.all_map,eW]
theorem fU{α:Type}{L:List α}{h:List aj}:wL h [.lst (L.map λ_=>.bl true)]=some (.bl true):=by
 rw[all_map];simp
theorem X6{hk:List (List cC)}{hv:List PV}{f:Str}{v:PV}{h:List aj}(e:da [.inr f] hk hv=some v):dI h (.nd (.eR false hk) hv) (.str f)=some v:=e
theorem X7{hk:List (List cC)}{hv:List PV}{f:Str}{h:List aj}(e:gv [.inr f] hk=true):Cr true h (.str f) (.nd (.eR false hk) hv)=some (.bl false):=by
 show some (PV.bl (!gv [.inr f] hk))=_;rw[e];rfl
theorem dA(k:Nat)(ps:List PV)(a b:Int)(ha:a<=ps.length)(hb:(ps.length:Int)<=b):run aG (k+1) "is_tuple_from" [.ag ps,.int a,.int b] []=some (.ok (.bl true),[]):=by
 rw[gg];simp only[↓aR,aP ha,aP hb]
theorem bt(k:Nat)(ps:List PV)(a:Int)(ha:(ps.length:Int)=a):run aG (k+2) "is_tuple_of" [.ag ps,.int a] []=some (.ok (.bl true),[]):=by
 have e:=λk=>dA k ps a a (by lia) (by lia)
 rw[nh];simp only[↓aR,e]
theorem Dt(k:Nat){S:Sc}{x f:Str}{as:List Str}(h:cB S (.call x f as)):run aG (k+14) "is_call" [gQ S,bJ (.call x f as)] []=some (.ok (.bl true),[]):=by
 obtain⟨ps,res,q,l,r,h1,h2,h3,h4,h5,h6⟩:=h;have e1:=λk=>lA k h6
 have e2:=λk=>bt k (as.map .str) (ps.map bY).length (by rw[ah,ah,h3])
 have e3:∀k,∀z∈as.zip ps,run aG (k+1) "has_kind" [gQ S,.str z.1,cA z.2.2] []=some (.ok (.bl true),[]):=λk z hz=>by
  have:=ie k S z.1 (e:=z.2.2) (h5 z hz);rw[aP rfl]at this;exact this
 have e4:((as.zip ps).map λz=>PV.ag [PV.str z.1,bY z.2]).length<=4000000:=by
  rw[ah,oE]
  lia
 rw[xg];simp only[↓aR,X6 h2,X7 h1,e1,e2,e3,e4,vg,fU]
noncomputable def ZF:Rw->Str
 | .put _ _=>"is_put"
 | .set _ _ _ _=>"is_set"
 | .fill _ _=>"is_fill"
 | .qm _ _=>"is_copy"
 | .qo _ _=>"is_move"
 | .drop _=>"is_drop"
 | .ig w _ _=>if w then "is_sole" else "is_lend"
 | .call _ _ _=>"is_call"
 | .G7 _ _ _=>"is_if"
 | .go _=>"is_go"
 | .G8 _=>"is_say"
 | .eM _=>"is_give"
theorem Ud(k:Nat){S:Sc}{r:Rw}(h:cB S r):run aG (k+14) (ZF r) [gQ S,bJ r] []=some (.ok (.bl true),[]):=by
 cases r with
 | put s o=>exact G9 k h
 | set s g a b=>exact Ha k h
 | fill s o=>exact Dn k h
 | qm t s=>exact Dp k h
 | qo t s=>exact Dq k h
 | drop s=>exact Dr k h
 | ig w x s=>cases w;exact sM k h;exact sN k h
 | call x f as=>exact Dt k h
 | G7 a b to=>exact KS k h
 | go to=>exact KU k h
 | G8 o=>exact Hb k h
 | eM x=>exact Ds k h
theorem Hc(k:Nat){S:Sc}{r:Rw}(h:cB S r):run aG (k+15) "is_row" [gQ S,bJ r] []=some (.ok (.bl true),[]):=by
 have e:=λk=>Ud k h
 rw[zF];cases r
 case ig w x s =>
  cases w
  ·have e:=λk=>sM k h
   simp only[↓aR,e]
  ·have e:=λk=>sN k h
   simp only[↓aR,e]
 all_goals (simp only[ZF]at e;simp only[↓aR,e])
noncomputable def ki:Rw->Bool
 | .go _=>true
 | .eM _=>true
 | _=>false
theorem He{α:Type}{xs:List α}{v:α}(h:xs.getLast?=some v):L2.oZ xs (-1)=some v:=by
 have hp:0<xs.length:=by cases xs with | nil=>cases h | cons=>simp
 unfold L2.oZ L2.Ie;rw[if_neg (by lia),if_pos (by lia),om,show((-1:Int)+xs.length).toNat=xs.length-1 by lia,<-List.getLast?_eq_getElem?]
 exact h
structure cE (x:Str):Prop where
 l:1<=x.length
 m:x.length<=8
 c:∀c∈x.cps.toList,97<=c/\c<=122
theorem len_str{h:List aj}{x:Str}(hx:x.length<=1000):jW h [.str x]=some (.int x.length):=by
 show(if x.length<=gY then _ else none)=_
 rw[if_pos (show x.length<=gY from aM hx (by decide))]
theorem KW{h:List aj}{x:Str}(hx:∀c∈x.cps.toList,c<=122):N6 h (.str x)=some (.sq (x.cps.toList.map λc=>.str ⟨#[c]⟩)):=by
 show(if x.cps.all (· < 128)=true then some (A2.sq (FF x))else none)=_
 rw[if_pos]
 ·rfl
 ·rw[Array.all_eq_true'];intro c hc;have:=hx c (by simpa using hc)
  simp
  lia
theorem X8{h:List aj}{c:Nat}(hc:97<=c):wq h (.str "a") (.str ⟨#[c]⟩)=some (.bl true):=by
 show some (PV.bl (!(decide ([c]<[97]))))=_;rw[aV]
 ·rfl
 ·intro h;cases h with
  | rel h=>lia
  | cons h=>cases h
theorem X9{h:List aj}{c:Nat}(hc:c<=122):wq h (.str ⟨#[c]⟩) (.str "z")=some (.bl true):=by
 show some (PV.bl (!(decide ([122]<[c]))))=_;rw[aV]
 ·rfl
 ·intro h;cases h with
  | rel h=>lia
  | cons h=>cases h
theorem jk(k:Nat){x:Str}(h:cE x):run aG (k+1) "is_name" [.str x] []=some (.ok (.bl true),[]):=by
 have h1:(1:Int)<=x.length:=by have:=h.l;lia
 have h2:(x.length:Int)<=8:=by have:=h.m;lia
 have e1:=λh'=>KW (h:=h') λc hc=>(h.c c hc).2
 have e2:∀h',∀c∈x.cps.toList,wq h' (.str "a") (.str ⟨#[c]⟩)=some (.bl true):=λh' c hc=>X8 (h.c c hc).1
 have e3:∀h',∀c∈x.cps.toList,wq h' (.str ⟨#[c]⟩) (.str "z")=some (.bl true):=λh' c hc=>X9 (h.c c hc).2
 have e4:=λh'=>len_str (h:=h') (aM h.m (by decide))
 have e5:(x.cps.toList.map λc=>PV.str ⟨#[c]⟩).length<=4000000:=by
  have:=h.m;rw[ah];show x.cps.toList.length<=_;have:x.cps.toList.length=x.length:=by simp[Str.length]
  lia
 rw[mG];simp only[↓aR,e1,e2,e3,e4,e5,aP h1,aP h2,fU]
theorem qr:∀(l m:List Str),(m++l).Nodup->l.foldl gy m=m++l
 | [],m,_=>by simp
 | x::l,m,h=>by
  have hx:m.any (· == x)=false:=by
   rw[tO];intro y hy;have:=lN.mp h;simp only[oI];exact λz=>this.2.2 y hy x (by simp) z
  rw[jK,show gy m x=m++[x] by unfold gy;rw[hx];rfl,qr l (m++[x]) (by simpa using h)]
  simp
theorem qt:∀l:List Str,aT uM (l.map .str)=some l
 | []=>rfl
 | x::l=>by
  show(some x).bind (λy=>(aT uM (l.map .str)).map λys=>y::ys)=_
  rw[qt l];rfl
theorem zU{l:List Str}(h:l.Nodup)(hl:l.length<=1000):Bi (.lst (l.map .str))=some (.int l.length):=by
 show(if(l.map PV.str).length<=1000 then(aT uM (l.map .str)).map λks=>PV.int ((zt ks).length:Nat)else none)=_
 rw[if_pos (by rw[ah];exact hl),qt]
 show some (PV.int ((l.foldl gy []).length:Nat))=_;rw[qr l [] (by simpa using h)]
 rfl
theorem cF{h:List aj}{a b:Int}:AQ h (.int a) (.int b)=some (.bl (a==b)):=rfl
theorem gi(k:Nat){l:List Str}(h:∀x∈l,cE x)(hd:l.Nodup)(hl:l.length<=100):run aG (k+2) "are_apart" [.lst (l.map .str)] []=some (.ok (.bl true),[]):=by
 have e1:∀k,∀x∈l,run aG (k+1) "is_name" [.str x] []=some (.ok (.bl true),[]):=λk x hx=>jk k (h x hx)
 have e2:l.length<=4000000:=by lia
 rw[gz];simp only[↓aR,e1,e2,fU,zU hd (by lia),ah,cF,iN]
theorem vh(k:Nat)(w:Bool)(p:PV):run aG (k+9) "is_shape" [.ag [.str (lI w),p]] []=some (.ok (.bl false),[]):=by cases w<;>kernel_rfl
theorem ez(k:Nat)(w:Bool)(s:Sx):run aG (k+10) "is_holder_kind" [.ag [.str (lI w),fT s]] []=some (.ok (.bl true),[]):=by
 have e:=λk l=>bt k l 2
 rw[dF];cases w<;>simp only[↓aR,e,kh]
theorem sQ(k:Nat)(d:Kn):run aG (k+11) "is_kind" [cA d] []=some (.ok (.bl true),[]):=by
 rw[mH];cases d with
 | ow s =>
  have e1:∀k,run aG (k+9) "is_shape" [cA (.ow s)] []=some (.ok (.bl true),[]):=λk=>kh k s
  simp only[↓aR,e1]
 | ho w s =>
  have e1:∀k,run aG (k+9) "is_shape" [cA (.ho w s)] []=some (.ok (.bl false),[]):=λk=>vh k w _
  have e2:∀k,run aG (k+10) "is_holder_kind" [cA (.ho w s)] []=some (.ok (.bl true),[]):=λk=>ez k w _
  simp only[↓aR,e1,e2]
theorem mN(k:Nat)(l:List Ky)(n:Int)(hl:(l.length:Int)<=n)(hn:n<=100):run aG (k+12) "are_named" [.ag (l.map bY),.int n] []=some (.ok (.bl true),[]):=by
 have e1:=λk=>dA k (l.map bY) 0 n (by lia) (by rw[ah];exact hl)
 have e2:∀k (q:Ky),run aG (k+2) "is_tuple_of" [bY q,.int 2] []=some (.ok (.bl true),[]):=λk q=>bt k _ _ rfl
 have e3:(l.map bY).length<=4000000:=by rw[ah];lia
 rw[gA];simp only[↓aR,e1,e2,e3,sQ,fU]
theorem Hf{α:Type}{f:α->PV}{a b:List α}{h:List aj}(hl:a.length+b.length<=1000):kT h (.ag (a.map f)) (.ag (b.map f))=some (.ag ((a++b).map f)):=by
 show U.sizeOk _ _=_;unfold U.sizeOk;rw[if_pos (show _<=gY from(by rw[ah,ah];exact aM hl (by decide))),bz]
theorem toT_strs{h:List aj}:∀{n:Nat} (l:List Str),aT (toT h (n+1)) (l.map .str)=some (l.map .str)
 | _,[]=>rfl
 | n,x::l=>by
  show(some (Tr.str x)).bind (λy=>(aT (toT h (n+1)) (l.map .str)).map λys=>y::ys)=_
  rw[toT_strs l];rfl
theorem sR:∀a b:List Str,kU (a.map .str) (b.map .str)=decide (a=b)
 | [],[]=>rfl
 | [],_::_=>rfl
 | _::_,[]=>rfl
 | x::a,y::b=>by
  show((x==y)&&kU (a.map .str) (b.map .str))=_;rw[sR a b,lT];simp
theorem Br{h:List aj}{a b:List Str}:AQ h (.ag (a.map .str)) (.ag (b.map .str))=some (.bl (decide (a=b))):=by
 show(((aT (toT h 999) (a.map .str)).bind (qD .ag)).bind λx=>((aT (toT h 999) (b.map .str)).bind (qD .ag)).map λy=>eqT x y).map PV.bl=_
 rw[toT_strs,toT_strs];show some (PV.bl (kU (a.map .str) (b.map .str)))=_;rw[sR]
theorem Bs{h:List aj}{x:Str}{l:List Str}:Cr false h (.str x) (.ag (l.map .str))=some (.bl (decide (x∈l))):=by
 show((aT (toT h fq) (l.map .str)).map λys=>ys.any λy=>eqT y (.str x)).map (λb=>PV.bl b)=_
 rw[show fq=999+1 from rfl,toT_strs]
 show some (PV.bl ((l.map Tr.str).any λy=>eqT y (.str x)))=_
 congr 2
 rw[List.any_map,lT,tW];simp only[Function.comp,eqT,oI,iK];exact⟨λ⟨y,h1,h2⟩=>h2▸h1,λh=>⟨x,h,rfl⟩⟩
def Hg(ps:List Ky):List Str:=(ps.filter λq=>kz q.2).map (·.1)
def xo(ps:List Ky)(l:List Str):Prop:=l=(Hg ps).filter λx=>decide (x∈l)
theorem rg(k:Nat){ps:List Ky}{l:List Str}(h:xo ps l)(hp:ps.length<=1000):run aG (k+2) "are_sources" [.ag (l.map .str),.ag (ps.map bY)] []=some (.ok (.bl true),[]):=by
 have e1:(ps.map bY).length<=4000000:=by rw[ah];lia
 have e2:((ps.filter λq=>kz q.2).map λq=>PV.str q.1).length<=4000000:=by
  have:=nV (λq:Ky=>kz q.2) ps
  rw[ah]
  lia
 have e3:List.map (λx=>PV.str x.fst) (List.filter (λx=>decide (x.fst∈l)) (List.filter (λx=>kz x.snd) ps))=l.map PV.str:=by
  conv=>rhs;rw[h]
  unfold Hg;rw[List.filter_map,bS];rfl
 rw[iu];simp only[↓aR,e1,e2,e3,gh,Bs,Br,decide_true]
structure Fd where
 nm:Str
 ps:List Ky
 res:q0
 ls:List Ky
 rw:List Rw
def fdP(F:Fd):PV:=.ag [.str F.nm,.ag (F.ps.map bY),fG F.res,.ag (F.ls.map bY),.ag (F.rw.map bJ)]
def sS(ps:List Ky):q0->Prop
 | .m5 _ _ l=>xo ps l
 | _=>True
theorem mO(k:Nat){ps:List Ky}{r:q0}(h:sS ps r)(hp:ps.length<=1000):run aG (k+11) "is_result" [fG r,.ag (ps.map bY)] []=some (.ok (.bl true),[]):=by
 rw[eF];cases r with
 | aK=>simp only[↓aR]
 | own s =>
  have e1:∀k,run aG (k+9) "is_shape" [fG (.own s)] []=some (.ok (.bl true),[]):=λk=>kh k s
  simp only[↓aR,e1,show kY (fG (.own s))=false by cases s<;>rfl]
 | m5 w s l =>
  have e1:∀k,run aG (k+9) "is_shape" [fG (.m5 w s l)] []=some (.ok (.bl false),[]):=λk=>by cases w<;>kernel_rfl
  have e2:∀k,run aG (k+2) "is_tuple_of" [fG (.m5 w s l),.int 3] []=some (.ok (.bl true),[]):=λk=>bt k _ _ rfl
  have e3:=λk=>rg k h hp
  simp only[↓aR,e1,e2,e3,ez]
structure gB (F:Fd):Prop where
 p:F.ps.length<=4
 l:F.ls.length<=8
 n:∀q∈F.ps++F.ls,cE q.1
 d:((F.ps++F.ls).map (·.1)).Nodup
 r:sS F.ps F.res
 w:1<=F.rw.length
 x:F.rw.length<=32
theorem jn(k:Nat){F:Fd}(h:gB F):run aG (k+13) "is_head" [fdP F] []=some (.ok (.bl true),[]):=by
 have e1:∀k,run aG (k+2) "is_tuple_of" [fdP F,.int 5] []=some (.ok (.bl true),[]):=λk=>bt k _ _ rfl
 have e2:=λk=>mN k F.ps 4 (by have:=h.p;lia) (by decide)
 have e3:=λk=>mN k F.ls 8 (by have:=h.l;lia) (by decide)
 have e4:((F.ps++F.ls).map bY).length<=4000000:=by
  have:=h.p;have:=h.l;rw[ah,bC]
  lia
 have e5:=λk=>gi k (l:=(F.ps++F.ls).map (·.1)) (λx hx=>by obtain⟨q,h1,rfl⟩:=bQ.mp hx;exact h.n q h1) h.d (by have:=h.p;have:=h.l;rw[ah,bC];lia)
 rw[bS]at e5;simp only[eW]at e5;have e6:=λk=>mO k h.r (by have:=h.p;lia)
 have e7:=λk=>dA k (F.rw.map bJ) 1 32 (by have:=h.w;rw[ah];lia) (by have:=h.x;rw[ah];lia)
 have e8:=λh'=>Hf (f:=bY) (a:=F.ps) (b:=F.ls) (h:=h') (by have:=h.p;have:=h.l;lia)
 rw[mI];simp only[↓aR,e1,e2,e3,e4,e5,e6,e7,e8]
theorem vi(k:Nat){F:Fd}(h:F.res=.aK)(hp:∀q∈F.ps,q.2=.ow .nu)(hl:F.ps.length<=4):run aG (k+1) "may_be_run" [fdP F] []=some (.ok (.bl true),[]):=by
 have e1:(F.ps.map bY).length<=4000000:=by rw[ah];lia
 have e2:∀h',∀q∈F.ps,AQ h' (cA q.2) pN=some (.bl true):=λh' q hq=>by rw[hp q hq];exact(q8 (a:=.ow .nu) (b:=.ow .nu)).trans (by rw[aP rfl])
 rw[ja];simp only[↓aR,h,e1,e2,fU]
theorem Hh{α:Type}(key:α->Str)(val:α->PV):∀(L M:List α),((M++L).map key).Nodup->pV (L.map λx=>((.inr (key x):cC),val x)) ⟨.eR false (M.map λx=>[.inr (key x)]),M.map val⟩=⟨.eR false ((M++L).map λx=>[.inr (key x)]),(M++L).map val⟩
 | [],M,_=>by simp[pV]
 | x::L,M,h=>by
  have hx:gv [.inr (key x)] (M.map λx=>[(.inr (key x):cC)])=false:=by
   unfold gv;rw[tO];intro y hy;obtain⟨z,hz,rfl⟩:=bQ.mp hy;rw[bz]at h;have:=(lN.mp h).2.2 (key z) (iI hz) (key x) (by simp)
   simpa using this
  show pV (L.map _) (uG false [.inr (key x)] (val x) (M.map λx=>[.inr (key x)]) (M.map val))=_
  unfold uG;rw[hx,if_neg dP];have:=Hh key val L (M++[x]) (by simpa using h)
  simpa using this
theorem sT{α:Type}(key:α->Str)(val:α->PV):∀L:List α,aT wI (L.map λx=>.ag [.str (key x),val x])=some (L.map λx=>((.inr (key x):cC),val x))
 | []=>rfl
 | x::L=>by
  show(some ((.inr (key x):cC),val x)).bind (λy=>(aT wI (L.map λx=>.ag [.str (key x),val x])).map λys=>y::ys)=_
  rw[sT key val L];rfl
theorem Bt{α:Type}(key:α->Str)(val:α->PV){L:List α}(h:(L.map key).Nodup)(hl:L.length<=1000):wJ (L.map λx=>.ag [.str (key x),val x])=some ⟨.eR false (L.map λx=>[.inr (key x)]),L.map val⟩:=by
 unfold wJ;rw[if_pos (by rw[ah];exact hl),sT]
 have:=Hh key val L [] (by simpa using h)
 exact fj some this
def Yb(P:List Fd)(F:Fd):Sc:=⟨F.ps++F.ls,F.res,F.rw.length,P.map λG=>[.inr G.nm],P.map fdP⟩
theorem KY(c:CT){P:List Fd}{F:Fd}(h:gB F)(ho:F.ls=[]->F.ps=[])(hd:(P.map (·.nm)).Nodup)(hl:P.length<=6):Ij aG c "Scene" [.ref 0,.ag (P.map fdP),fdP F] [⟨.ins "Scene" [],[]⟩]=some (.ok .aK,[⟨.ins "Scene" ["kinds","result","size","heads"],[.ref 1,fG F.res,.int F.rw.length,.ref 2]⟩,⟨.eR false (zQ (F.ps++F.ls)),Dj (F.ps++F.ls)⟩,⟨.eR false (P.map λG=>[.inr G.nm]),P.map fdP⟩]):=by
 rw[GZ];unfold Bo;have e1:∀st,S3 (.ag (F.ps.map bY)) (.ag (F.ls.map bY)) st=some (.ok (.ref st.h.length),⟨st.ρ,st.h++[⟨.eR false (zQ (F.ps++F.ls)),Dj (F.ps++F.ls)⟩]⟩):=λst=>by
  show(if(!(F.ps.map bY).isEmpty&&(F.ls.map bY).isEmpty)=true then none else(wJ (F.ps.map bY++F.ls.map bY)).bind λc=>ix c st)=_
  have:=ho;rw[if_neg (by simp;exact λa b=>a (this b)),<-bz,show wJ ((F.ps++F.ls).map bY)=_ from Bt (λq:Ky=>q.1) (λq=>cA q.2) h.d (by have:=h.p;have:=h.l;rw[bC];lia)]
  rfl
 have e2:wJ (P.map λG=>.ag [.str G.nm,fdP G])=_:=Bt (λG:Fd=>G.nm) fdP hd (by lia)
 have e3:P.length<=4000000:=by lia
 simp only[↓aR,e1,e2,e3,om,ah]
theorem Du(s:Sx):noRef (fT s)=true:=by cases s<;>rfl
theorem KZ(d:Kn):noRef (cA d)=true:=by
 cases d with
 | ow s=>exact Du s
 | ho w s=>simp[cA,noRef,aD,Du]
theorem cS{α:Type}{f:α->PV}(h:∀x,noRef (f x)=true):∀l:List α,aD (l.map f)=true
 | []=>rfl
 | x::l=>by rw[aA,aD,cS h l,h];rfl
theorem jq(l:List Str):aD (l.map .str)=true:=cS (λ_=>rfl) l
theorem K1(l:List Nat):aD (l.map fun(i:Nat)=>.int (i:Int))=true:=cS (λ_=>rfl) l
theorem Hj(q:Ky):noRef (bY q)=true:=by simp[bY,noRef,aD,KZ]
theorem sU(r:q0):noRef (fG r)=true:=by
 cases r with
 | aK=>rfl
 | own s=>exact Du s
 | m5 w s l=>simp[fG,noRef,aD,Du,jq]
theorem Bu(s:Sp):noRef (fH s)=true:=by
 obtain⟨x,t,p,a⟩:=s;cases a<;>simp[fH,G6,PD,noRef,aD,K1]
theorem Ue:∀o,noRef (qF o)=true
 | .n _=>rfl
 | .s s=>Bu s
theorem Bv(r:Rw):noRef (bJ r)=true:=by
 cases r<;>simp[bJ,noRef,aD,Bu,Ue,jq]
theorem sV(F:Fd):noRef (fdP F)=true:=by simp[fdP,noRef,aD,cS,Hj,sU,Bv]
theorem nE{h:List aj}{n:Nat}:∀{l:List PV},aD l=true->aT (lH h n) l=some l
 | [],_=>rfl
 | p::l,hn=>by
  simp only[aD,aC]at hn;show(lH h n p).bind (λy=>(aT (lH h n) l).map λys=>y::ys)=_
  rw[nE hn.2,show lH h n p=some p by cases n<;>(unfold lH;rw[if_pos hn.1])]
  rfl
theorem Dv{P:List Fd}{F:Fd}:lH [⟨.ins "Scene" ["kinds","result","size","heads"],[.ref 1,fG F.res,.int F.rw.length,.ref 2]⟩,⟨.eR false (zQ (F.ps++F.ls)),Dj (F.ps++F.ls)⟩,⟨.eR false (P.map λG=>[.inr G.nm]),P.map fdP⟩] 4 (.ref 0)=some (gQ (Yb P F)):=by
 have d1:∀n,lH [⟨.ins "Scene" ["kinds","result","size","heads"],[.ref 1,fG F.res,.int F.rw.length,.ref 2]⟩,⟨.eR false (zQ (F.ps++F.ls)),Dj (F.ps++F.ls)⟩,⟨.eR false (P.map λG=>[.inr G.nm]),P.map fdP⟩] (n+1) (.ref 1)=some (T7 (F.ps++F.ls)):=λn=>by
  show(aT (lH _ n) (Dj (F.ps++F.ls))).map _=_;rw[nE (l:=Dj (F.ps++F.ls)) (cS (λq:Ky=>KZ q.2) _)]
  rfl
 have d2:∀n,lH [⟨.ins "Scene" ["kinds","result","size","heads"],[.ref 1,fG F.res,.int F.rw.length,.ref 2]⟩,⟨.eR false (zQ (F.ps++F.ls)),Dj (F.ps++F.ls)⟩,⟨.eR false (P.map λG=>[.inr G.nm]),P.map fdP⟩] (n+1) (.ref 2)=some (.nd (.eR false (P.map λG=>[.inr G.nm])) (P.map fdP)):=λn=>by
  show(aT (lH _ n) (P.map fdP)).map _=_;rw[nE (cS sV _)];rfl
 generalize hh:[(⟨.ins "Scene" ["kinds","result","size","heads"],[.ref 1,fG F.res,.int F.rw.length,.ref 2]⟩:aj),⟨.eR false (zQ (F.ps++F.ls)),Dj (F.ps++F.ls)⟩,⟨.eR false (P.map λG=>[.inr G.nm]),P.map fdP⟩]=H at d1 d2 ⊢
 have d3:lH H 4 (.ref 0)=(aT (lH H 3) [.ref 1,fG F.res,.int F.rw.length,.ref 2]).map (.nd (.ins "Scene" ["kinds","result","size","heads"])):=by subst hh;rfl
 have d4:lH H 3 (fG F.res)=some (fG F.res):=by unfold lH;rw[if_pos (sU _)]
 rw[d3];simp only[aT,d1,d2,d4];rfl
end bZ
set_option maxHeartbeats 0
namespace bZ
open PySem L2 L2.U
theorem cM(k:Nat)(ps:List PV)(a b:Int):run aG (k+1) "is_tuple_from" [.ag ps,.int a,.int b] []=some (.ok (.bl (decide (a<=ps.length)&&decide ((ps.length:Int)<=b))),[]):=by
 rw[gg];by_cases h1:a<=(ps.length:Int)
 ·by_cases h2:(ps.length:Int)<=b<;>simp only[↓aR,h1,h2,decide_true,decide_false,Bool.and_true,Bool.and_false]
 ·simp only[↓aR,h1,decide_false,Bool.false_and]
def jb(x:Str):Prop:=∀k,run aG (k+1) "is_name" [.str x] []=some (.ok (.bl false),[])
theorem zV{x:Str}(h:cE x):¬jb x:=λz=>by
 have:=(jk 0 h).symm.trans (z 0);simp at this
theorem vj:∀(l m:List Str),(l.foldl gy m).length<=m.length+l.length/\((l.foldl gy m).length=m.length+l.length->m.Nodup->(m++l).Nodup)
 | [],m=>⟨by simp,λ_ h=>by simpa using h⟩
 | x::l,m=>by
  rw[jK];by_cases hx:m.any (· == x)=true
  ·have e:gy m x=m:=by unfold gy;rw[hx];rfl
   have:=vj l m;rw[e,br];exact⟨by lia,λh=>by lia⟩
  ·have hx:m.any (· == x)=false:=by cases h:m.any (· == x)with | false=>rfl | true=>exact absurd h hx
   have e:gy m x=m++[x]:=by unfold gy;rw[hx];rfl
   have:=vj l (m++[x]);rw[e,br];rw[bC,nT]at this;refine⟨by lia,λh hm=>?_⟩
   have:=this.2 (by lia) (by
    rw[lN];refine⟨hm,by simp,λa ha b hb=>?_⟩
    rw[bc.mp hb]
    rintro rfl
    rw[tO]at hx;simpa using hx a ha)
   simpa using this
theorem Hk{l:List Str}(hl:l.length<=1000):Bi (.lst (l.map .str))=some (.int ((l.foldl gy []).length:Nat)):=by
 show(if(l.map PV.str).length<=1000 then(aT uM (l.map .str)).map λks=>PV.int ((zt ks).length:Nat)else none)=_
 rw[if_pos (by rw[ah];exact hl),qt]
 rfl
theorem Bw(k:Nat){l:List Str}(h:∀x∈l,cE x\/jb x)(hl:l.length<=100):∃b,(∀k,run aG (k+2) "are_apart" [.lst (l.map .str)] []=some (.ok (.bl b),[]))/\(b=true->(∀x∈l,cE x)/\l.Nodup):=by
 classical
 by_cases hb:(∀x∈l,cE x)/\l.Nodup
 ·exact⟨true,λk=>gi k hb.1 hb.2 hl,λ_=>hb⟩
 ·refine⟨false,λk=>?_,λz=>by cases z⟩
  have e1:∀k,∀x∈l,run aG (k+1) "is_name" [.str x] []=some (.ok (.bl (decide (cE x))),[]):=λk x hx=>by
   by_cases n:cE x
   ·rw[aP n];exact jk k n
   ·rw[aV n];exact((h x hx).resolve_left n) k
  have e2:l.length<=4000000:=by lia
  cases hA:l.all λx=>decide (cE x)with
  | false =>
   rw[gz];simp only[↓aR,e1,e2,all_map,hA,ah]
  | true =>
   have hA:=dn.mp hA;have nn:¬l.Nodup:=λz=>hb ⟨λx hx=>cX (hA x hx),z⟩
   have e3:((((l.foldl gy []).length:Nat):Int)==((l.length:Nat):Int))=false:=by
    rw[fK];intro z;exact nn (by simpa using (vj l []).2 (by simp;lia) (by simp))
   have e1:∀k,∀x∈l,run aG (k+1) "is_name" [.str x] []=some (.ok (.bl true),[]):=λk x hx=>jk k (cX (hA x hx))
   rw[gz];simp only[↓aR,e1,e2,fU,Hk (aM hl (by decide)),ah,cF,e3]
def lB(p:PV):Prop:=∀k,run aG (k+11) "is_kind" [p] []=some (.ok (.bl false),[])
def Qt(p:PV):Prop:=(∃d,p=cA d)\/lB p
abbrev Kq:=Str×PV
def de(q:Kq):PV:=.ag [.str q.1,q.2]
theorem Ug(l:List Ky):l.map bY=(l.map λq=>(q.1,cA q.2)).map de:=by rw[bS];rfl
theorem Bx(l:List Kq)(h:∀q∈l,Qt q.2)(hl:l.length<=1000)(n:Int):∃b,(∀k,run aG (k+12) "are_named" [.ag (l.map de),.int n] []=some (.ok (.bl b),[]))/\(b=true->(l.length:Int)<=n/\∀q∈l,¬lB q.2):=by
 classical
 have e1:∀k,run aG (k+1) "is_tuple_from" [.ag (l.map de),.int 0,.int n] []=some (.ok (.bl (decide ((l.length:Int)<=n))),[]):=λk=>by
  have:=cM k (l.map de) 0 n;rw[ah,aP (show(0:Int)<=(l.length:Int) by lia),jQ]at this
  exact this
 have e2:∀k (q:Kq),run aG (k+2) "is_tuple_of" [de q,.int 2] []=some (.ok (.bl true),[]):=λk q=>bt k _ _ rfl
 have e3:(l.map de).length<=4000000:=by rw[ah];lia
 have e4:∀k,∀q∈l,run aG (k+11) "is_kind" [q.2] []=some (.ok (.bl (decide (¬lB q.2))),[]):=λk q hq=>by
  by_cases n:lB q.2
  ·rw[aV (λz=>z n)];exact n k
  ·rw[aP n];obtain⟨d,e⟩:=(h q hq).resolve_right n;rw[e];exact sQ k d
 by_cases c:(l.length:Int)<=n
 ·refine⟨l.all λq=>decide (¬lB q.2),λk=>?_,λz=>⟨c,λq hq=>cX (dn.mp z q hq)⟩⟩
  rw[aP c]at e1;rw[gA];simp only[↓aR,e1,e2,e3,e4,all_map]
 ·refine⟨false,λk=>?_,λz=>by cases z⟩
  rw[aV c]at e1;rw[gA];simp only[↓aR,e1]
structure Gh where
 nm:PV
 ps:List Kq
 res:PV
 ls:List Kq
 rw:List PV
def DP(G:Gh):PV:=.ag [G.nm,.ag (G.ps.map de),G.res,.ag (G.ls.map de),.ag G.rw]
theorem addQ{a b:List Kq}{h:List aj}(hl:a.length+b.length<=1000):kT h (.ag (a.map de)) (.ag (b.map de))=some (.ag ((a++b).map de)):=Hf hl
def mP(p:PV):Prop:=∀k,run aG (k+13) "is_head" [p] []=some (.ok (.bl false),[])
theorem PH(G:Gh)(hk:∀q∈G.ps++G.ls,Qt q.2)(hn:∀q∈G.ps++G.ls,cE q.1\/jb q.1)(hl:(G.ps++G.ls).length<=100)(hw:G.rw.length<=1000){d:Bool}(hr:∀k,run aG (k+11) "is_result" [G.res,.ag (G.ps.map de)] []=some (.ok (.bl d),[]))
  (no:(G.ps.length<=4/\G.ls.length<=8/\(∀q∈G.ps++G.ls,¬lB q.2)/\(∀q∈G.ps++G.ls,cE q.1)/\((G.ps++G.ls).map (·.1)).Nodup/\d=true/\1<=G.rw.length/\G.rw.length<=32)->False):mP (DP G):=by
 intro k;have hl':G.ps.length+G.ls.length<=100:=by simpa using hl
 obtain⟨a,a1,a2⟩:=Bx G.ps (λq h=>hk q (bK.mpr (.inl h))) (by lia) 4
 obtain⟨b,b1,b2⟩:=Bx G.ls (λq h=>hk q (bK.mpr (.inr h))) (by lia) 8
 obtain⟨c,c1,c2⟩:=Bw 0 (l:=(G.ps++G.ls).map (·.1)) (λx hx=>by obtain⟨q,h1,rfl⟩:=bQ.mp hx;exact hn q h1) (by rw[ah];exact hl)
 have e0:∀k,run aG (k+2) "is_tuple_of" [DP G,.int 5] []=some (.ok (.bl true),[]):=λk=>bt k _ _ rfl
 have e4:((G.ps++G.ls).map de).length<=4000000:=by rw[ah];lia
 rw[bS]at c1;simp only[eW]at c1;have e7:=λk=>cM k G.rw 1 32
 have e8:=λh'=>addQ (a:=G.ps) (b:=G.ls) (h:=h') (by lia)
 rw[mI];cases a with
 | false=>simp only[↓aR,e0,a1]
 | true =>
  cases b with
  | false=>simp only[↓aR,e0,a1,b1]
  | true =>
   cases c with
   | false=>simp only[↓aR,e0,a1,b1,e4,c1,e8]
   | true =>
    cases d with
    | false=>simp only[↓aR,e0,a1,b1,e4,c1,e8,hr]
    | true =>
     have e9:(decide ((1:Int)<=(G.rw.length:Int))&&decide ((G.rw.length:Int)<=32))=false:=by
      rw[Bool.and_eq_false_iff,nQ,nQ,<-Classical.not_and_iff_not_or_not]
      rintro⟨h1,h2⟩
      have a2:=a2 rfl;have b2:=b2 rfl;have c2:=c2 rfl;exact no ⟨by lia,by lia,λq hq=>by rcases bK.mp hq with h | h;exact a2.2 q h;exact b2.2 q h,λq hq=>c2.1 _ (iI (f:=(·.1)) hq),c2.2,rfl,by lia,by lia⟩
     rw[e9]at e7;simp only[↓aR,e0,a1,b1,e4,c1,e8,hr,e7]
theorem gO{h:List aj}{i j:Int}(hj:0<j):uz h (.int i) (.int j)=some (.int (i%j)):=if_pos (aP hj)
theorem Yc{h:List aj}{i j:Int}(hj:0<j/\j<1073741824):AL h (.int i) (.int j)=some (.int (i/j)):=if_pos (aP hj)
theorem DQ{h:List aj}{i j:Int}(hj:(-qM<i/\i<qM)\/(-qM<j/\j<qM)):fY h (.int i) (.int j)=some (.int (i*j)):=if_pos hj
theorem Dw{n:Nat}(hn:n<=4000000):Cz [.int n]=some ((List.range n).map λm:Nat=>.int (m:Int)):=by
 show(if J2 0 n=true then some (Cy 0 ((n:Int)).toNat)else none)=_
 rw[if_pos (by unfold J2;exact aP (by lia))]
 unfold Cy;simp
theorem dv{ps:List PV}(h:aD ps=true):hV [⟨.lst,ps⟩] (.ref 0)=some (.lst ps):=by
 show(aT (lH _ 3) ps).map _=_;rw[nE h];rfl
theorem vk{ρ:List (Option PV)}{F:List PV}{v:PV}(h:F.length<=4000):j1 (gu j2) (.ref 0) [v] ⟨ρ,[⟨.lst,F⟩]⟩=some (.ok .aK,⟨ρ,[⟨.lst,F++[v]⟩]⟩):=by
 have:j2 F [v]=some (F++[v]):=if_pos (show F.length<gY from jG h (by decide))
 show(((j2 F [v]).map λqs=>((⟨.lst,qs⟩:aj),PV.aK)).map λr=>_)=_
 rw[this];rfl
noncomputable def cp(n:Int):Nat:=97+(n%26).toNat
def lt(n:Int):Str:=⟨#[cp n]⟩
noncomputable def strOf(l:List Nat):Str:=⟨l.toArray⟩
theorem Dx{a b:List Nat}(h:strOf a=strOf b):a=b:=by
 have:a.toArray=b.toArray:=fj Str.cps h;simpa using this
theorem zW(a b:List Nat):strOf a++strOf b=strOf (a++b):=by
 show Str.append _ _=_;unfold Str.append strOf;simp
theorem K2:(Str.ofString "")=strOf []:=by decide +kernel
theorem nF(l:List Nat):(strOf l).length=l.length:=by
 unfold strOf Str.length;simp
theorem zX:∀m:Fin 26,L2.oZ (Str.ofString "abcdefghijklmnopqrstuvwxyz").cps.toList ((m:Nat):Int)=some (97+(m:Nat)):=by decide +kernel
theorem sW{h:List aj}{n:Int}:dI h (.str "abcdefghijklmnopqrstuvwxyz") (.int (n%26))=some (.str (lt n)):=by
 have h0:=dQ n (show(26:Int)≠0 by decide)
 have h1:=gk n (show(0:Int)<26 by decide)
 obtain⟨m,hm⟩:=Int.eq_ofNat_of_zero_le h0;have:=zX ⟨m,by lia⟩
 show(if(Str.ofString "abcdefghijklmnopqrstuvwxyz").length<=gY then(L2.oZ (Str.ofString "abcdefghijklmnopqrstuvwxyz").cps.toList (n%26)).map λc=>PV.str ⟨#[c]⟩else none)=_
 rw[if_pos (by decide +kernel),hm,this]
 show some (PV.str ⟨#[97+m]⟩)=some (PV.str ⟨#[cp n]⟩);unfold cp;rw[hm,iM]
theorem PJ{a b:Int}(h:cp a=cp b):a%26=b%26:=by
 unfold cp at h;have h0:=dQ a (show(26:Int)≠0 by decide)
 have h1:=dQ b (show(26:Int)≠0 by decide)
 lia
theorem L7(n:Int):97<=cp n/\cp n<=122:=by
 unfold cp;have h0:=dQ n (show(26:Int)≠0 by decide)
 have h1:=gk n (show(0:Int)<26 by decide)
 lia
theorem Hl{l:List Nat}{n:Int}{h:List aj}(hl:l.length<=100):kT h (.str (strOf l)) (.str (lt n))=some (.str (strOf (l++[cp n]))):=by
 have e:kT h (.str (strOf l)) (.str (lt n))=U.sizeOk ((strOf l).length+(lt n).length) (.str (strOf l++lt n)):=rfl;rw[e,show lt n=strOf [cp n]from rfl,zW,nF,nF]
 exact if_pos (show l.length+1<=gY by have:gY=4000000:=rfl;lia)
noncomputable abbrev PK:PV:=.str "abcdefghijklmnopqrstuvwxyz"
def PL(B:List Int)(a q i:Nat):Nat:=cp (B.getD i 0+(q:Int)*(if i=a then 1 else 0))
theorem mQ(c:CT){x0 x1 x6:Option PV}{h0:List aj}(B:List Int)(a q:Nat)(hB:B.length<=50):∀(Vk pre:List Nat) (x8:Option PV),List.range B.length=pre++Vk->∃vm,ef (cO 8) (qg c) (Vk.map λn:Nat=>.int (n:Int)) ⟨[x0,x1,some PK,some (.int q),some (.lst (B.map .int)),some (.int a),x6,some (.str (strOf (pre.map (PL B a q)))),x8],h0⟩=some (.ok .nx,⟨[x0,x1,some PK,some (.int q),some (.lst (B.map .int)),some (.int a),x6,some (.str (strOf ((List.range B.length).map (PL B a q)))),vm],h0⟩)
 | [],pre,x8,e=>⟨x8,by rw[e,eZ];rfl⟩
 | i::Vk,pre,x8,e=>by
  have hi:i<B.length:=dB.mp (by rw[e];simp)
  have hp:pre.length<=B.length:=by
   have:=fj List.length e;rw[gm,bC]at this
   lia
  obtain⟨vm,h⟩:=mQ c (x0:=x0) (x1:=x1) (x6:=x6) (h0:=h0) B a q hB Vk (pre++[i]) (some (.int i)) (by rw[e];simp)
  simp only[bz,aA,bL,PL]at h;refine⟨vm,?_⟩;have hb:∀h,dI h (.lst (B.map PV.int)) (.int (i:Int))=some (.int (B.getD i 0)):=λ_=>atI_nat (by rw[aX,D0,bB hi];rfl)
  have he:∀h,yZ h [.bl ((i:Int)==(a:Int))]=some (.int (if i=a then 1 else 0)):=λh=>by
   by_cases hh:i=a
   ·rw[if_pos hh,hh,iN];rfl
   ·rw[if_neg hh,show((i:Int)==(a:Int))=false by rw[fK];lia];rfl
  have hm:∀h,fY h (.int (q:Int)) (.int (if i=a then 1 else 0))=some (.int ((q:Int)*(if i=a then 1 else 0))):=λh=>DQ (.inr (by split<;>decide))
  have hl:(pre.map (PL B a q)).length<=100:=by rw[ah];lia
  rw[aA];refine du ?_;simp only[↓kB,hb,he,hm,cF,sW,Hl hl,h]
def sX(C:Int)(B:List Int)(a q:Nat):List Nat:=(List.range B.length).map (PL B a q)++(if C/49%2==1&&(q:Int)%2==1 then [cp (C/98)]else [])
theorem Dy(c:CT){x1:Option PV}{C:Int}(B:List Int)(a q:Nat)(hB:B.length<=50){F:List PV}(hF:F.length<=100)(x7 x8:Option PV):∃vm,kc c ⟨[some (.int C),x1,some PK,some (.int q),some (.lst (B.map .int)),some (.int a),some (.ref 0),x7,x8],[⟨.lst,F⟩]⟩=some (.ok .nx,⟨[some (.int C),x1,some PK,some (.int q),some (.lst (B.map .int)),some (.int a),some (.ref 0),some (.str (strOf (sX C B a q))),vm],[⟨.lst,F++[.str (strOf (sX C B a q))]⟩]⟩):=by
 obtain⟨vm,h⟩:=mQ c (x0:=some (.int C)) (x1:=x1) (x6:=some (.ref 0)) (h0:=[⟨.lst,F⟩]) B a q hB (List.range B.length) [] x8 rfl;obtain⟨l,hl⟩:∃l,l=(List.range B.length).map (PL B a q):=⟨_,rfl⟩
 have ll:l.length<=100:=by rw[hl];simp;lia
 rw[<-hl]at h
 delta qg kx at h
 refine⟨vm,?_⟩;have e1:jW [⟨.lst,F⟩] [.lst (B.map .int)]=some (.int (B.length:Nat)):=by show some (PV.int (((B.map PV.int).length:Nat):Int))=_;rw[ah]
 have e2:=Dw (n:=B.length) (by lia)
 have hF:=λρ v=>@vk ρ F v (aM hF (by decide))
 simp only[bL,<-K2]at h;refine du ?_;unfold sX;rw[<-hl];cases h1:C/49%2==1
 ·simp only[↓kB,h,e1,e2,cF,h1,hF,Bool.false_and,cW,cu,eZ]
 ·cases h2:(q:Int)%2==1
  ·simp only[↓kB,h,e1,e2,cF,h1,h2,hF,jQ,cW,cu,eZ]
  ·simp only[↓kB,h,e1,e2,cF,h1,h2,hF,jQ,dE,sW,Hl ll]
theorem qu(c:CT){x1:Option PV}{C:Int}(B:List Int)(a:Nat)(hB:B.length<=50):∀(qs:List Nat) (F:List PV) (x3 x7 x8:Option PV),F.length+qs.length<=100->∃Uh vn vm,ef (cO 3) (kc c) (qs.map λn:Nat=>.int (n:Int)) ⟨[some (.int C),x1,some PK,x3,some (.lst (B.map .int)),some (.int a),some (.ref 0),x7,x8],[⟨.lst,F⟩]⟩=some (.ok .nx,⟨[some (.int C),x1,some PK,Uh,some (.lst (B.map .int)),some (.int a),some (.ref 0),vn,vm],[⟨.lst,F++qs.map λq=>.str (strOf (sX C B a q))⟩]⟩)
 | [],F,x3,x7,x8,_=>⟨x3,x7,x8,by simp;rfl⟩
 | q::qs,F,x3,x7,x8,hz=>by
  rw[br]at hz;obtain⟨y8,h⟩:=Dy c (x1:=x1) (C:=C) B a q hB (F:=F) (by lia) x7 x8
  obtain⟨z3,z7,z8,h2⟩:=qu c (x1:=x1) (C:=C) B a hB qs (F++[.str (strOf (sX C B a q))]) (some (.int q)) (some (.str (strOf (sX C B a q)))) y8 (by simp;lia)
  refine⟨z3,z7,z8,?_⟩;rw[aA,aA,show F++PV.str (strOf (sX C B a q))::qs.map (λq=>PV.str (strOf (sX C B a q)))=F++[PV.str (strOf (sX C B a q))]++qs.map (λq=>PV.str (strOf (sX C B a q))) by simp]
  exact fC (s1:=⟨[some (.int C),x1,some PK,some (.int q),some (.lst (B.map .int)),some (.int a),some (.ref 0),x7,x8],[⟨.lst,F⟩]⟩) rfl h h2
theorem K3{C:Int}{B:List Int}{a q q':Nat}(hp:a<B.length)(h1:q<26)(h2:q'<26)(h:strOf (sX C B a q)=strOf (sX C B a q')):q=q':=by
 have h:=Dx h;have at_:∀q:Nat,(sX C B a q)[a]?=some (cp (B.getD a 0+(q:Int))):=λq=>by
  unfold sX;rw[nL (by simp;lia),aX,xY hp]
  simp[PL]
 have e:=fj (λl=>l[a]?) h
 simp only[at_]at e;have:=PJ (bI e)
 lia
theorem PM{C:Int}{B:List Int}{a q:Nat}(h1:1<=B.length)(h2:B.length<=7):cE (strOf (sX C B a q)):=by
 have hl:(sX C B a q).length=B.length+(if C/49%2==1&&(q:Int)%2==1 then 1 else 0):=by
  unfold sX;rw[bC,ah,gm];split<;>rfl
 refine⟨by rw[nF,hl];lia,by rw[nF,hl];split<;>lia,λc hc=>?_⟩
 have hc:c∈sX C B a q:=by simpa[strOf]using hc
 unfold sX at hc;rcases bK.mp hc with hc | hc
 ·obtain⟨i,_,rfl⟩:=bQ.mp hc;exact L7 _
 ·split at hc
  ·rw[bc.mp hc];exact L7 _
  ·cases hc
noncomputable def zY(N:Nat->Str):List Str:=(List.range 16).map N
theorem By(k:Nat)(C:Int):∃N:Nat->Str,(∀i j,i<16->j<16->N i=N j->i=j)/\(∀i,cE (N i))/\run aG (k+1) "_law_names" [.int C,.int 16] []=some (.ok (.ref 0),[⟨.lst,(zY N).map .str⟩]):=by
 obtain⟨ln,Qm⟩:∃ln:Nat,1+C%7=(ln:Int):=⟨(1+C%7).toNat,by lia⟩
 have ln1:1<=ln/\ln<=7:=by lia
 obtain⟨B,hB⟩:∃B:List Int,B=(List.range ln).map λi:Nat=>(C/7/((i:Int)*i+1)+5*(i:Int))%26:=⟨_,rfl⟩
 have Bl:B.length=ln:=by rw[hB];simp
 obtain⟨a,ha⟩:∃a:Nat,C/7%(ln:Int)=(a:Int):=⟨(C/7%(ln:Int)).toNat,(Int.toNat_of_nonneg (dQ _ (by lia))).symm⟩
 have hal:a<B.length:=by
  have:=gk (C/7) (show(0:Int)<(ln:Int) by lia)
  lia
 obtain⟨x3,x7,x8,h⟩:=qu (run aG k) (x1:=some (.int 16)) (C:=C) B a (by lia) (List.range 16) [] none none none (by simp)
 refine⟨λq=>strOf (sX C B a q),λi j hi hj e=>K3 hal (by lia) (by lia) e,λi=>PM (by lia) (by lia),?_⟩
 have e1:=Dw (n:=ln) (by lia)
 have e2:∀i∈List.range ln,∀h,fY h (.int (i:Int)) (.int (i:Int))=some (.int ((i:Int)*i)):=λi hi h=>DQ (.inl (by have:=dB.mp hi;have:(qM:Int)=18446744073709551616:=rfl;lia))
 have e3:∀i∈List.range ln,∀h (a:Int),AL h (.int a) (.int ((i:Int)*i+1))=some (.int (a/((i:Int)*i+1))):=λi hi h a=>by
  have hi:=dB.mp hi;have i0:(0:Int)<=(i:Int)*i:=Int.mul_nonneg (by lia) (by lia)
  have i49:(i:Int)*i<=49:=by
   rcases i with _ | _ | _ | _ | _ | _ | _ | _<;>first | lia | decide
  exact Yc (by lia)
 have e4:∀i∈List.range ln,∀h,fY h (.int 5) (.int (i:Int))=some (.int (5*(i:Int))):=λi hi h=>DQ (.inl (by decide))
 have e5:(List.range ln).length<=4000000:=by rw[gm];lia
 have e6:(List.range ln).map (λi:Nat=>PV.int ((C/7/((i:Int)*i+1)+5*(i:Int))%26))=B.map .int:=by rw[hB,bS];rfl
 have e7:∀h,uz h (.int (C/7)) (.int (ln:Int))=some (.int (a:Int)):=λh'=>by rw[gO (by lia),ha]
 have e8:∀(f:Nat->PV) h,jW h [.lst ((List.range ln).map f)]=some (.int (ln:Int)):=λf h'=>by show some (PV.int ((((List.range ln).map f).length:Nat):Int))=_;rw[ah,gm]
 have e9:Cz [.int 16]=some ((List.range 16).map λm:Nat=>.int (m:Int)):=Dw (n:=16) (by decide)
 delta kc kx at h
 rw[dS,<-e6]at h;rw[zK];simp only[↓aR,Qm,e1,e2,e3,e4,e5,e7,e8,e9,h,ah];rfl
theorem mv(ps:List PV)(q:Nat):ej ps none (some (q:Int))=ps.take q:=by
 unfold ej;rw[HT.nq,HT.oX,List.drop_zero,Nat.sub_zero];by_cases h:q<=ps.length
 ·rw[ou h]
 ·rw[yq (by lia),iF (by lia),iF (by lia)]
theorem xp(ps:List PV)(q:Nat):ej ps (some (q:Int)) none=ps.drop q:=by
 unfold ej;rw[HT.nq,HT.oX];by_cases h:q<=ps.length
 ·rw[ou h,iF (by simp)]
 ·rw[yq (by lia),tJ (by lia),tJ (by lia),List.take_nil]
theorem pick{α:Type}(f:α->PV)(L:List α)(m:Int)(h:0<L.length):∃p∈L,∀H:List aj,dI H (.lst (L.map f)) (.int (m%(L.length:Int)))=some (f p):=by
 have Xq:=dQ m (show(L.length:Int)≠0 by lia)
 have hj1:=gk m (show(0:Int)<(L.length:Int) by lia)
 obtain⟨j,hj⟩:=Int.eq_ofNat_of_zero_le Xq;have Yd:j<L.length:=by lia
 refine⟨L[j],yh _,λH=>?_⟩
 rw[hj];exact atI_nat (by rw[aX,bB Yd];rfl)
noncomputable def Ik(b s:Sx):List Kn:=[.ow .nu,.ow b,.ow s,.ho true b,.ho false b,.ho true s,.ho false s,.ho false .nu]
theorem Hm(k:Nat)(C:Int):∃b s,run aG (k+1) "_law_menu" [.int C] []=some (.ok (.lst ((Ik b s).map cA)),[]):=by
 obtain⟨n,hn⟩:∃n:Fin 8,C/8%8=(n.val:Int):=⟨⟨(C/8%8).toNat,by lia⟩,by simp;lia⟩
 obtain⟨b,s,e⟩:∃b s,∀h,dI h (.lst [.ag [pT,pN],.ag [.ag [.str "rec",.ag [pN,pO]],pO],.ag [.ag [.str "rec",.ag [.ag [.str "strip",.int (1+(n.val:Int))],pN]],.ag [.str "strip",.int (1+(n.val:Int))]],.ag [.ag [.str "rec",.ag [pT,pN]],pT],.ag [.ag [.str "rec",.ag [pD,.ag [.str "strip",.int (1+(n.val:Int))]]],.ag [.str "strip",.int (1+(n.val:Int))]],.ag [.ag [.str "strip",.int (1+(n.val:Int))],pT],.ag [.ag [.str "rec",.ag [pT,pT,pT,pT]],pT],.ag [.ag [.str "rec",.ag [pD,.ag [.str "strip",.int (1+(n.val:Int))]]],pO]]) (.int (C%8))=some (.ag [fT b,fT s]):=by
  have hr:C%8=0\/C%8=1\/C%8=2\/C%8=3\/C%8=4\/C%8=5\/C%8=6\/C%8=7:=by lia
  rcases hr with hr | hr | hr | hr | hr | hr | hr | hr<;>rw[hr]
  ·exact⟨.tw,.nu,λ_=>rfl⟩
  ·exact⟨.no,.ow,λ_=>rfl⟩
  ·exact⟨.sn n,.st n,λ_=>rfl⟩
  ·exact⟨.tn,.tw,λ_=>rfl⟩
  ·exact⟨.dp n,.st n,λ_=>rfl⟩
  ·exact⟨.st n,.tw,λ_=>rfl⟩
  ·exact⟨.fo,.tw,λ_=>rfl⟩
  ·exact⟨.dp n,.ow,λ_=>rfl⟩
 refine⟨b,s,?_⟩;rw[C8];simp only[↓aR,hn,e];rfl
theorem bX(k:Nat)(C:Int):run aG (k+1) "_law_mixed" [.int C] []=some (.ok (.lst [.int (C*48271%2147483647),.int (C*69621%2147483629),.int (C*16807%2147483587),.int (C*39373%2147483579)]),[]):=by
 have e1:∀h,fY h (.int C) (.int 48271)=some (.int (C*48271)):=λh=>DQ (.inr (by decide))
 have e2:∀h,fY h (.int C) (.int 69621)=some (.int (C*69621)):=λh=>DQ (.inr (by decide))
 have e3:∀h,fY h (.int C) (.int 16807)=some (.int (C*16807)):=λh=>DQ (.inr (by decide))
 have e4:∀h,fY h (.int C) (.int 39373)=some (.int (C*39373)):=λh=>DQ (.inr (by decide))
 rw[zJ];simp only[↓aR,e1,e2,e3,e4]
theorem mR(c:CT){M:List Kn}(hM:M.length=8){x2:Option PV}:∀(m:Nat) (ns:List Nat) (C:Int) (ks:List Kn) (x4:Option PV),ns.length=m->ks.length+m<=1000->∃(C':Int) (Ho:Option PV) (ls:List Kn),ls.length=ks.length+m/\ef (cO 4) (mJ c) (ns.map λn:Nat=>.int (n:Int)) ⟨[some (.lst (M.map cA)),some (.int C),x2,some (.ref 0),x4],[⟨.lst,ks.map cA⟩]⟩=some (.ok .nx,⟨[some (.lst (M.map cA)),some (.int C'),x2,some (.ref 0),Ho],[⟨.lst,ls.map cA⟩]⟩)
 | 0,ns,C,ks,x4,hn,_=>by
  rw[iC hn];exact⟨C,x4,ks,rfl,rfl⟩
 | m+1,n::ns,C,ks,x4,hn,hk=>by
  obtain⟨d,_,hd⟩:=pick cA M C (by lia)
  rw[hM]at hd;have hd:∀H,dI H (.lst (M.map cA)) (.int (C%8))=some (cA d):=hd
  obtain⟨C',Ho,ls,h1,h2⟩:=mR c hM (x2:=x2) m ns (C/8) (ks++[d]) (some (.int n)) (by simpa using hn) (by simp;lia)
  refine⟨C',Ho,ls,by simp at h1;lia,?_⟩
  have e1:∀h,jW h [.lst (M.map cA)]=some (.int 8):=λh=>by show some (PV.int (((M.map cA).length:Nat):Int))=_;rw[ah,hM];rfl
  have e2:=λρ v=>@vk ρ (ks.map cA) v (by rw[ah];lia)
  simp only[bz,aA,bL]at h2;rw[aA];refine du ?_;simp only[↓kB,e1,e2,hd,h2]
theorem Ui(l:List Kn):aD (l.map cA)=true:=cS KZ l
theorem xq(k:Nat){M:List Kn}(hM:M.length=8)(C:Int)(m:Nat)(hm:m<=100):∃ks:List Kn,ks.length=m/\run aG (k+1) "_law_picked" [.lst (M.map cA),.int C,.int (m:Int)] []=some (.ok (.ref 0),[⟨.lst,ks.map cA⟩]):=by
 obtain⟨C',x4,ks,h1,h2⟩:=mR (run aG k) hM (x2:=some (.int m)) m (List.range m) C [] none (by simp) (by simp;lia)
 refine⟨ks,by simpa using h1,?_⟩
 have e1:=Dw (n:=m) (by lia)
 delta mJ kx at h2
 rw[bL]at h2;rw[xj];simp only[↓aR,e1,h2]
noncomputable def K4:q0->Option Kn
 | .aK=>none
 | .own s=>some (.ow s)
 | .m5 w s _=>some (.ho w s)
theorem zZ(k:Nat)(r:q0){d:Kn}(h:K4 r=some d):run aG (k+1) "_law_back" [fG r] []=some (.ok (cA d),[]):=by
 cases r with
 | aK=>cases h
 | own s=>cases h;cases s<;>kernel_rfl
 | m5 w s l=>cases h;kernel_rfl
def w0:Kn->Str
 | .ho w _=>lI w
 | .ow .nu=>"num"
 | .ow .ow=>"own"
 | .ow (.st _)=>"strip"
 | .ow _=>"rec"
theorem Dz{h:List aj}{d:Kn}:dI h (cA d) (.int 0)=some (.str (w0 d)):=by
 cases d with
 | ow s=>cases s<;>rfl
 | ho w s=>rfl
theorem Bz{h:List aj}{d:Kn}:Cr false h (.str (w0 d)) (.ag [.str "lent",.str "sole"])=some (.bl (kz d)):=by
 cases d with
 | ow s=>cases s<;>kernel_rfl
 | ho w s=>cases w<;>kernel_rfl
def K5:List Ky->Int->List Str
 | [],_=>[]
 | q::ps,n=>(if kz q.2&&n%2==0 then [q.1]else [])++K5 ps (n/2)
theorem jc(c:CT){x0 x1 x2:Option PV}:∀(ps:List Ky) (l:List Str) (n:Int) (x5 x6:Option PV),l.length+ps.length<=1000->∃(n':Int) (DA qG:Option PV),ef (kR 2 Q0) (mK c) (ps.map bY) ⟨[x0,x1,x2,some (.ref 0),some (.int n),x5,x6],[⟨.lst,l.map .str⟩]⟩=some (.ok .nx,⟨[x0,x1,x2,some (.ref 0),some (.int n'),DA,qG],[⟨.lst,(l++K5 ps n).map .str⟩]⟩)
 | [],l,n,x5,x6,_=>⟨n,x5,x6,by simp[K5];rfl⟩
 | q::ps,l,n,x5,x6,hl=>by
  simp only[br]at hl;have e2:=λρ v=>@vk ρ (l.map .str) v (by rw[ah];lia)
  unfold K5;cases h1:kz q.2&&n%2==0
  ·obtain⟨n',y5,y6,h⟩:=jc c (x0:=x0) (x1:=x1) (x2:=x2) ps l (n/2) (some (.str q.1)) (some (cA q.2)) (by lia)
   refine⟨n',y5,y6,?_⟩;rw[aA];refine du ?_;cases h2:kz q.2
   ·simp only[↓kB,Dz,Bz,h2,h,cW,cu,dS]
   ·have h3:(n%2==0)=false:=by rw[h2]at h1;simpa using h1
    simp only[↓kB,Dz,Bz,h2,h3,cF,h,cW,cu,dS]
  ·obtain⟨n',y5,y6,h⟩:=jc c (x0:=x0) (x1:=x1) (x2:=x2) ps (l++[q.1]) (n/2) (some (.str q.1)) (some (cA q.2)) (by simp;lia)
   refine⟨n',y5,y6,?_⟩;rw[aC]at h1;rw[aA];simp only[bz,aA,bL]at h;refine du ?_;simp only[↓kB,Dz,Bz,h1.1,h1.2,cF,e2,h,dE,bz,aA,bL,gR]
theorem nG:∀(ps:List Ky) (n:Int),(K5 ps n).Sublist (Hg ps)
 | [],_=>.slnil
 | q::ps,n=>by
  unfold K5 Hg;cases hq:kz q.2 with
  | false =>
   rw[nR (by simp[hq])]
   simp only[Bool.false_and,cW,cu,dS];exact nG ps (n/2)
  | true =>
   rw[nO (by simp[hq]),aA]
   by_cases h2:n%2==0
   ·simp only[h2,jQ,dE,List.singleton_append];exact(nG ps (n/2)).cons_cons _
   ·simp only[h2,jQ,cW,cu,dS];exact(nG ps (n/2)).cons _
theorem Aa{l m:List Str}(h:l.Sublist m)(hd:m.Nodup):l=m.filter λx=>decide (x∈l):=by
 induction h with
 | slnil=>rfl
 | @cons l m a h ih =>
  have rz:=dR.mp hd;rw[nR (by simpa using λz=>rz.1 (h.subset z))]
  exact ih rz.2
 | @cons_cons l m a h ih =>
  have rz:=dR.mp hd;rw[nO (by simp)]
  congr 1
  refine(ih rz.2).trans (List.filter_congr λx hx=>?_)
  have:x≠a:=λz=>rz.1 (z▸hx)
  simp[this]
theorem K6(ps:List Ky):(Hg ps).Sublist (ps.map (·.1)):=List.Sublist.map _ x9
theorem K7{ps:List Ky}(hd:(ps.map (·.1)).Nodup)(n:Int):xo ps (K5 ps n):=Aa (nG ps n) (hd.sublist (K6 ps))
theorem Hq(k:Nat){b s:Sx}{ps:List Ky}(hp:ps.length<=4)(hd:(ps.map (·.1)).Nodup)(C:Int):∃(r:q0) (h':List aj),sS ps r/\run aG (k+1) "_law_result" [.lst ((Ik b s).map cA),.lst (ps.map bY),.int C] []=some (.ok (fG r),h'):=by
 rw[xk];have h4:C%4=0\/C%4=1\/(C%4==0)=false/\(C%4==1)=false:=by simp only[fK];lia
 rcases h4 with h4 | h4 | ⟨h4,h5⟩
 ·refine⟨.aK,[],trivial,?_⟩;simp only[↓aR,cF,h4];rfl
 ·obtain⟨s',hs⟩:∃s',dI [] (.lst ((Ik b s).map cA)) (.int (C/4%3))=some (fT s'):=by
   have:C/4%3=0\/C/4%3=1\/C/4%3=2:=by lia
   rcases this with h | h | h<;>rw[h]
   ·exact⟨.nu,rfl⟩
   ·exact⟨b,rfl⟩
   ·exact⟨s,rfl⟩
  refine⟨.own s',[],trivial,?_⟩;simp only[↓aR,cF,h4,hs];rfl
 ·obtain⟨w,s',hs⟩:∃w s',∀H,dI H (.lst ((Ik b s).map cA)) (.int (3+C/4%5))=some (.ag [.str (lI w),fT s']):=by
   have:C/4%5=0\/C/4%5=1\/C/4%5=2\/C/4%5=3\/C/4%5=4:=by lia
   rcases this with h | h | h | h | h<;>rw[h]
   ·exact⟨true,b,λ_=>rfl⟩
   ·exact⟨false,b,λ_=>rfl⟩
   ·exact⟨true,s,λ_=>rfl⟩
   ·exact⟨false,s,λ_=>rfl⟩
   ·exact⟨false,.nu,λ_=>rfl⟩
  obtain⟨n',x5,x6,h⟩:=jc (run aG k) (x0:=some (.lst ((Ik b s).map cA))) (x1:=some (.lst (ps.map bY))) (x2:=some (.int C)) ps [] (C/32) none none (by simp;lia)
  delta mK kx at h
  rw[bL,dS]at h;refine⟨.m5 w s' (K5 ps (C/32)),[⟨.lst,(K5 ps (C/32)).map .str⟩],K7 hd _,?_⟩;simp only[↓aR,cF,h4,h5,hs,h];rfl
end bZ
set_option maxHeartbeats 0
namespace bZ
open PySem L2 L2.U
theorem lz{xs:List Str}{ks:List Kn}(h:ks.length<=1000):Xn (.lst (xs.map .str)) (.lst (ks.map cA))=some ((xs.zip ks).map bY):=by
 show(if(List.zipWith eJ (xs.map .str) (ks.map cA)).length<=gY then some (List.zipWith eJ (xs.map .str) (ks.map cA))else none)=_
 rw[vg,if_pos]
 ·rfl
 ·rw[ah,oE];exact aM (aM (Nat.min_le_right _ _) h) (by decide)
theorem Ye{a b:List Kn}{h:List aj}(hl:a.length+b.length<=1000):kT h (.lst (a.map cA)) (.lst (b.map cA))=some (.lst ((a++b).map cA)):=by
 show U.sizeOk _ _=_;unfold U.sizeOk;rw[if_pos (show _<=gY from(by rw[ah,ah];exact aM hl (by decide))),bz]
theorem L8{a:List Kn}{d:Kn}{h:List aj}(hl:a.length<=900):kT h (.lst (a.map cA)) (.lst [cA d])=some (.lst ((a++[d]).map cA)):=Ye (b:=[d]) (by simp;lia)
theorem PN{α:Type}{f:α->PV}{L:List α}{n:Nat}{h:List aj}:rP h (some (n:Int)) none (.lst (L.map f))=some (.lst ((L.drop n).map f)):=by
 show some (PV.lst (ej (L.map f) (some (n:Int)) none))=_;rw[xp,oF]
theorem Uj{h:List aj}{m:Nat}(hm:m<=100):fY h (.lst [pN]) (.int m)=some (.lst ((List.replicate m (Kn.ow .nu)).map cA)):=by
 show((if(-1000<=(m:Int)/\(m:Int)<=1000/\1<=100)then some (List.replicate ((m:Int)).toNat [pN]).flatten else none)).map PV.lst=_
 rw[if_pos (by lia),iM]
 have:(List.replicate m [pN]).flatten=(List.replicate m (Kn.ow .nu)).map cA:=by
  induction m with
  | zero=>rfl
  | succ m ih=>rw[dO,gS,dO,aA,ih (by lia)];rfl
 rw[this];rfl
structure Hd where
 nm:Str
 ps:List Ky
 res:q0
 ls:List Ky
def fV(H:Hd):PV:=.ag [.str H.nm,.lst (H.ps.map bY),fG H.res,.lst (H.ls.map bY)]
structure dZ (xs:List Str) (i:Nat) (H:Hd):Prop where
 nm:xs[15-i]?=some H.nm
 p:H.ps.length<=4
 l:H.ls.length<=8
 nn:∃m,(H.ps++H.ls).map (·.1)=xs.take m
 nu:∃q∈H.ls,q.2=.ow .nu
 r:sS H.ps H.res
 bk:∀d,K4 H.res=some d->∃q∈H.ls,q.2=d
 z:i=0->H.res=.aK/\∀q∈H.ps,q.2=.ow .nu
theorem nH{α β:Type}:∀(a:List α) (b:List β),(a.zip b).map (·.1)=a.take b.length
 | [],_=>by simp
 | _::_,[]=>by simp
 | x::a,y::b=>by simp[nH a b]
theorem BA{α β:Type}:∀(a:List α) (b:List β),b.length<=a.length->(a.zip b).map (·.2)=b
 | _,[],_=>by simp
 | [],_::_,h=>by simp at h
 | x::a,y::b,h=>by simp[BA a b (by simpa using h)]
theorem vo{xs:List Str}(hx:xs.length=16){i:Nat}{nm:Str}(hn:xs[15-i]?=some nm){ks ds:List Kn}(hk:ks.length<=4)(hd:ds.length<=8){r:q0}(hr:sS (xs.zip ks) r)(h1:.ow .nu∈ds)(h2:∀d,K4 r=some d->d∈ds)(h3:i=0->r=.aK/\∀d∈ks,d=.ow .nu):dZ xs i ⟨nm,xs.zip ks,r,(xs.drop (xs.zip ks).length).zip ds⟩:=by
 have hz:(xs.zip ks).length=ks.length:=by rw[oE];lia
 have hs:((xs.drop ks.length).zip ds).map (·.2)=ds:=BA _ _ (by rw[tQ];lia)
 have mem:∀d∈ds,∃q∈(xs.drop ks.length).zip ds,q.2=d:=λd h=>by rw[<-hs]at h;exact bQ.mp h
 rw[hz];refine⟨hn,by rw[hz];exact hk,?_,⟨ks.length+ds.length,?_⟩,mem _ h1,hr,λd h=>mem d (h2 d h),λh=>⟨(h3 h).1,λq hq=>(h3 h).2 q.2 (lR hq).2⟩⟩
 ·rw[oE];lia
 ·rw[bz,nH,nH,List.take_add]
theorem PQ(k:Nat){b s:Sx}{xs:List Str}(hx:xs.length=16)(hd:xs.Nodup)(i:Nat)(hi:i<=5)(C:Int):∃H:Hd,dZ xs i H/\run aG (k+2) "_law_head" [.lst ((Ik b s).map cA),.lst (xs.map .str),.int (i:Int),.int C] []=some (.ok (fV H),[]):=by
 obtain⟨m,hm,hm4⟩:∃m:Nat,C*48271%2147483647%5=(m:Int)/\m<=4:=⟨(C*48271%2147483647%5).toNat,by lia,by lia⟩
 obtain⟨m3,Yg,abK⟩:∃m:Nat,C*48271%2147483647%3=(m:Int)/\m<=2:=⟨(C*48271%2147483647%3).toNat,by lia,by lia⟩
 obtain⟨l,hl,hl6⟩:∃m:Nat,C*48271%2147483647/16%7=(m:Int)/\m<=6:=⟨(C*48271%2147483647/16%7).toNat,by lia,by lia⟩
 obtain⟨es,he,hE⟩:=xq k (M:=Ik b s) rfl (C*39373%2147483579) l (by lia)
 obtain⟨nm,hn⟩:∃nm,xs[15-i]?=some nm:=⟨_,bB (by lia)⟩
 have e1:∀h,dI h (.lst (xs.map .str)) (.int (15-(i:Int)))=some (.str nm):=λh=>by
  rw[show(15:Int)-(i:Int)=((15-i:Nat):Int) by lia]
  exact atI_nat (by rw[aX,hn];rfl)
 have e2:=λh=>L8 (a:=es) (d:=.ow .nu) (h:=h) (by lia)
 have fz:=λl=>dv (Ui l)
 simp only[show cA (.ow .nu)=pN from rfl]at e2
 rw[C9];rcases Nat.eq_zero_or_pos i with rfl | hp
 ·refine⟨⟨nm,xs.zip (List.replicate m3 (.ow .nu)),.aK,(xs.drop (xs.zip (List.replicate m3 (Kn.ow .nu))).length).zip (es++[.ow .nu])⟩,vo hx hn (by simp;lia) (by simp;lia) trivial (by simp) (λd h=>by cases h) (λ_=>⟨rfl,λd h=>(List.mem_replicate.mp h).2⟩),?_⟩
  have e3:=λh=>Uj (h:=h) (m:=m3) (by lia)
  have e4:=lz (xs:=xs) (ks:=List.replicate m3 (.ow .nu)) (by simp;lia)
  have e5:=λxs=>lz (xs:=xs) (ks:=es++[.ow .nu]) (by simp;lia)
  have e1':∀h,dI h (.lst (xs.map .str)) (.int (15-((0:Nat):Int)))=some (.str nm):=e1
  simp only[↓aR,bX,Yg,hl,hE,fz,e1',e2,e3,e4,e5,PN,ah,fV,fG]
 ·have h0:(0:Int)<(i:Int):=by lia
  obtain⟨ks,hk,hK⟩:=xq k (M:=Ik b s) rfl (C*69621%2147483629) m (by lia)
  have nd:((xs.zip ks).map (·.1)).Nodup:=by rw[nH];exact hd.sublist (oi _ _)
  obtain⟨r,h',hr,hR⟩:=Hq k (b:=b) (s:=s) (ps:=xs.zip ks) (by rw[oE];lia) nd (C*16807%2147483587)
  have fr:hV h' (fG r)=some (fG r):=hW (sU r);have e3:=λh=>Uj (h:=h) (m:=m3) (by lia)
  have e4:=lz (xs:=xs) (ks:=ks) (by lia)
  cases hb:K4 r with
  | none =>
   have hr0:r=.aK:=by cases r<;>first | rfl | cases hb
   subst hr0;refine⟨⟨nm,xs.zip ks,.aK,(xs.drop (xs.zip ks).length).zip (es++[.ow .nu])⟩,vo hx hn (by lia) (by simp;lia) trivial (by simp) (λd h=>by cases h) (λz=>by lia),?_⟩
   have e5:=λxs=>lz (xs:=xs) (ks:=es++[.ow .nu]) (by simp;lia)
   simp only[↓aR,bX,hm,Yg,hl,hE,hK,hR,fz,fr,e1,e2,e3,e4,e5,PN,ah,aP h0,fV]
  | some d =>
   refine⟨⟨nm,xs.zip ks,r,(xs.drop (xs.zip ks).length).zip (es++[.ow .nu]++[d])⟩,vo hx hn (by lia) (by simp;lia) hr (by simp) (λd' h=>by rw[hb]at h;cases h;simp) (λz=>by lia),?_⟩
   have e5:=λxs=>lz (xs:=xs) (ks:=es++[.ow .nu]++[d]) (by simp;lia)
   have e6:=λh=>L8 (a:=es++[.ow .nu]) (d:=d) (h:=h) (by simp;lia)
   have e7:kY (fG r)=false:=by
    cases r with
    | aK=>cases hb
    | own s'=>cases s'<;>rfl
    | m5 _ _ _=>rfl
   have e8:=zZ k r hb;simp only[↓aR,bX,hm,Yg,hl,hE,hK,hR,fz,fr,e1,e2,e3,e4,e5,e6,e7,e8,PN,ah,aP h0,fV,Bool.not_false]
theorem Hr{α:Type} [Inhabited α] {P:Nat->Prop} {Q:Nat->α->Prop} (h:∀i,P i->∃a,Q i a):∃f:Nat->α,∀i,P i->Q i (f i):=by
 classical
 refine⟨λi=>if hi:P i then(h i hi).choose else default,λi hi=>?_⟩
 have e:(if hi:P i then(h i hi).choose else default)=(h i hi).choose:=dif_pos hi
 show Q i (if hi:P i then(h i hi).choose else default)
 rw[e];exact(h i hi).choose_spec
instance:Inhabited Hd:=⟨⟨"",[],.aK,[]⟩⟩
noncomputable def cell(ns:List Int)(i:Nat):Int:=ns.getD i 0
theorem vp(k:Nat)(ns:List Int)(i:Nat):run aG (k+1) "_law_cell_at" [zE ns,.int (i:Int)] []=some (.ok (.int (cell ns i)),[]):=by
 rw[u5];have ln:jW [] [zE ns]=some (.int (ns.length:Int)):=by
  show some (PV.int (((ns.map PV.int).length:Nat):Int))=_;rw[ah]
 unfold cell;rw[D0];by_cases hi:i<ns.length
 ·have e:dI [] (zE ns) (.int (i:Int))=some (.int ns[i]):=atI_nat (by rw[aX,bB hi];rfl)
  simp only[↓aR,ln,e,aP (show(i:Int)<(ns.length:Int) by lia),bB hi,yr]
 ·simp only[↓aR,ln,aV (show ¬(i:Int)<(ns.length:Int) by lia),nU (yp hi),yj]
theorem K8(k:Nat)(ns:List Int):∃(xs:List Str) (Hs:List Hd),xs.length=16/\xs.Nodup/\(∀x∈xs,cE x)/\1<=Hs.length/\Hs.length<=6/\(∀i H,Hs[i]?=some H->dZ xs i H)/\run aG (k+3) "_law_heads" [zE ns] []=some (.ok (.lst (Hs.map fV)),[]):=by
 obtain⟨N,n1,n2,n3⟩:=By (k+1) (cell ns 0);obtain⟨xs,Vl⟩:∃xs,xs=zY N:=⟨_,rfl⟩
 rw[<-Vl]at n3;have xl:xs.length=16:=by rw[Vl];simp[zY]
 have xd:xs.Nodup:=by
  rw[Vl];unfold zY List.Nodup;rw[yg];refine List.Pairwise.imp_of_mem (λ{a b} ha hb hne e=>hne (n1 a b (dB.mp ha) (dB.mp hb) e)) List.nodup_range
 obtain⟨b,s,hM⟩:=Hm (k+1) (cell ns 1*48271%2147483647);obtain⟨m,hm,ZG,U3⟩:∃m:Nat,1+cell ns 2%6=(m:Int)/\1<=m/\m<=6:=⟨(1+cell ns 2%6).toNat,by lia,by lia,by lia⟩
 obtain⟨f,hf⟩:=Hr (P:=λi=>i<=5) λi hi=>PQ k (b:=b) (s:=s) xl xd i hi (cell ns (3+i))
 refine⟨xs,(List.range m).map f,xl,xd,λx hx=>by rw[Vl]at hx;obtain⟨i,_,rfl⟩:=bQ.mp hx;exact n2 i,by simpa using ZG,by simpa using U3,λi H h=>?_,?_⟩
 ·rw[aX]at h;obtain⟨j,h1,rfl⟩:=gj.mp h;obtain⟨h2,h3⟩:=b8.mp h1;rw[List.getElem_range]at h3;subst h3;rw[gm]at h2;exact(hf i (by lia)).1
 have c0:=vp (k+1) ns 0;have c1:=vp (k+1) ns 1;have c2:=vp (k+1) ns 2;have c3:∀i∈List.range m,run aG (k+1+1) "_law_cell_at" [zE ns,.int (3+(i:Int))] []=some (.ok (.int (cell ns (3+i))),[]):=λi hi=>by
  have:=vp (k+1) ns (3+i)
  rwa [show((3+i:Nat):Int)=3+(i:Int) by lia]at this
 have c4:∀i∈List.range m,run aG (k+2) "_law_head" [.lst ((Ik b s).map cA),.lst (xs.map .str),.int (i:Int),.int (cell ns (3+i))] []=some (.ok (fV (f i)),[]):=λi hi=>(hf i (by have:=dB.mp hi;lia)).2
 have e1:∀h,fY h (.int (cell ns 1)) (.int 48271)=some (.int (cell ns 1*48271)):=λh=>DQ (.inr (by decide))
 have e2:=Dw (n:=m) (by lia)
 have e3:((List.range m).map λm:Nat=>PV.int (m:Int)).length<=4000000:=by rw[ah,gm];lia
 have fz:=dv (jq xs);have c0:run aG (k+2) "_law_cell_at" [zE ns,.int 0] []=some (.ok (.int (cell ns 0)),[]):=c0;have c1:run aG (k+2) "_law_cell_at" [zE ns,.int 1] []=some (.ok (.int (cell ns 1)),[]):=c1;have c2:run aG (k+2) "_law_cell_at" [zE ns,.int 2] []=some (.ok (.int (cell ns 2)),[]):=c2;rw[zM];simp only[↓aR,c0,c1,c2,c3,c4,n3,fz,hM,e1,e2,e3,hm,bS,eW]
def Vm(e:Te):PV:=.ag [G6 e.1,.int (e.2.1:Int),fT e.2.2]
theorem K9(k:Nat)(s:Sx):run aG (k+9) "_law_table" [fT s] []=some (.ok (.lst ((kn s).map Vm)),[]):=by cases s<;>kernel_rfl
theorem PR(k:Nat)(d:Kn):run aG (k+1) "_law_held" [cA d] []=some (.ok (fT (Di d)),[]):=by
 cases d with
 | ow s=>cases s<;>kernel_rfl
 | ho w s=>cases w<;>kernel_rfl
abbrev Zt:=Ky×Te
def mS(z:Zt):Sp:=⟨z.1.1,kz z.1.2,z.2.1,.aK⟩
def mw(z:Zt):PV:=.ag [fH (mS z),fT z.2.2.2,.str (w0 z.1.2)]
def jd(K:List Ky):List Zt:=K.flatMap λq=>(kn (Di q.2)).map λe=>(q,e)
theorem xt(c:CT){x0:Option PV}{q:Ky}:∀(E:List Te) (L:List PV) (x5 x6 x7:Option PV),L.length+E.length<=4000->∃DA qG vn:Option PV,ef (kR 3 (dH (cO 5) (dH (cO 6) (dH (cO 7) pd)))) (kf c) (E.map Vm) ⟨[x0,some (.ref 0),some (.str q.1),some (cA q.2),some (.bl (kz q.2)),x5,x6,x7],[⟨.lst,L⟩]⟩=some (.ok .nx,⟨[x0,some (.ref 0),some (.str q.1),some (cA q.2),some (.bl (kz q.2)),DA,qG,vn],[⟨.lst,L++E.map λe=>mw (q,e)⟩]⟩)
 | [],L,x5,x6,x7,_=>⟨x5,x6,x7,by simp;rfl⟩
 | e::E,L,x5,x6,x7,hl=>by
  simp only[br]at hl;obtain⟨y5,y6,y7,h⟩:=xt c (x0:=x0) (q:=q) E (L++[mw (q,e)]) (some (G6 e.1)) (some (.int e.2.1)) (some (fT e.2.2)) (by simp;lia)
  refine⟨y5,y6,y7,?_⟩;have e2:=λρ v=>@vk ρ L v (by lia)
  have h:ef _ (kf c) (E.map Vm) ⟨_,[⟨.lst,L++[.ag [.ag [.str q.1,.bl (kz q.2),G6 e.1,.aK],fT e.2.2,.str (w0 q.2)]]⟩]⟩=_:=h;rw[aA,aA,show L++mw (q,e)::E.map (λe=>mw (q,e))=L++[mw (q,e)]++E.map λe=>mw (q,e) by simp]
  refine du ?_;simp only[↓kB,Dz,e2,h]
theorem sY(c:CT) (hc:∀d,c "_law_held" [cA d] []=some (.ok (fT (Di d)),[])) (ht:∀s,c "_law_table" [fT s] []=some (.ok (.lst ((kn s).map Vm)),[])) {x0:Option PV}:∀(K:List Ky) (L:List PV) (x2 x3 x4 x5 x6 x7:Option PV),L.length+13*K.length<=4000->∃x2' Uh Ho DA qG vn:Option PV,ef (kR 2 (dH (cO 2) (dH (cO 3) pd))) (qh c) (K.map bY) ⟨[x0,some (.ref 0),x2,x3,x4,x5,x6,x7],[⟨.lst,L⟩]⟩=some (.ok .nx,⟨[x0,some (.ref 0),x2',Uh,Ho,DA,qG,vn],[⟨.lst,L++(jd K).map mw⟩]⟩)
 | [],L,x2,x3,x4,x5,x6,x7,_=>⟨x2,x3,x4,x5,x6,x7,by simp[jd];rfl⟩
 | q::K,L,x2,x3,x4,x5,x6,x7,hl=>by
  simp only[br]at hl;have tl:(kn (Di q.2)).length<=13:=by cases Di q.2<;>exact Nat.le_of_ble_eq_true rfl
  obtain⟨a5,a6,a7,h1⟩:=xt c (x0:=x0) (q:=q) (kn (Di q.2)) L x5 x6 x7 (by lia)
  obtain⟨y2,y3,y4,y5,y6,y7,h⟩:=sY c hc ht (x0:=x0) K (L++(kn (Di q.2)).map λe=>mw (q,e)) (some (.str q.1)) (some (cA q.2)) (some (.bl (kz q.2))) a5 a6 a7 (by simp;lia)
  refine⟨y2,y3,y4,y5,y6,y7,?_⟩
  delta kf kx at h1
  rw[aA,show L++(jd (q::K)).map mw=L++((kn (Di q.2)).map λe=>mw (q,e))++(jd K).map mw by simp[jd,eW]]
  refine du ?_;simp only[↓kB,Dz,Bz,hc,ht,h1,h,aD,KZ,Du]
theorem BB(k:Nat)(K:List Ky)(hK:K.length<=20):run aG (k+10) "_law_spots" [.lst (K.map bY)] []=some (.ok (.ref 0),[⟨.lst,(jd K).map mw⟩]):=by
 obtain⟨y2,y3,y4,y5,y6,y7,h⟩:=sY (run aG (k+9)) (λd=>PR _ d) (λs=>K9 _ s) (x0:=some (.lst (K.map bY))) K [] none none none none none none (by simp;lia)
 delta qh kx at h
 rw[dS]at h;rw[zL];simp only[↓aR,h]
structure vq (S:Sc):Prop where
 nd:(S.K.map (·.1)).Nodup
 nu:∃q∈S.K,q.2=.ow .nu
 l:S.K.length<=12
theorem fI:∀{l:List Ky} {q:Ky},(l.map (·.1)).Nodup->q∈l->cx l q.1=some q.2
 | r::l,q,hd,h=>by
  rw[aA,dR]at hd;unfold cx;rcases aF.mp h with rfl | h
  ·rw[if_pos rfl]
  ·rw[if_neg (λz:r.1=q.1=>hd.1 (by rw[z];exact iI h))]
   exact fI hd.2 h
theorem nI{K:List Ky}{z:Zt}:z∈jd K↔z.1∈K/\z.2∈kn (Di z.1.2):=by
 unfold jd;simp only[yo,bQ];constructor
 ·rintro⟨q,h1,e,h2,rfl⟩
  exact⟨h1,h2⟩
 ·rintro⟨h1,h2⟩
  exact⟨z.1,h1,z.2,h2,rfl⟩
theorem Ab{S:Sc}(hS:vq S){z:Zt}(h:z∈jd S.K):eu S (mS z) z.1.2 z.2.2.2:=⟨fI hS.nd (nI.mp h).1,rfl,⟨z.2.2.1,(nI.mp h).2⟩,trivial⟩
abbrev Nz:=Sp×Kn
def vt(z:Nz):PV:=.ag [fH z.1,.str (w0 z.2)]
def DB(S:Sc)(z:Nz):Prop:=∃i,eu S z.1 z.2 i/\ly z.1 i=true
noncomputable def own(K:List Ky):List Ky:=K.filter λq=>decide (q.2=.ow .nu)
theorem Ht{h:List aj}{d:Kn}:AQ h (cA d) pN=some (.bl (decide (d=.ow .nu))):=q8 (b:=.ow .nu)
theorem toT_strL{h:List aj}{n:Nat}(l:List Ky):aT (toT h (n+1)) (l.map λq=>.str q.1)=some (l.map λq=>.str q.1):=by
 have:=toT_strs (h:=h) (n:=n) (l.map (·.1));rw[bS,bS]at this;exact this
theorem Ac{h:List aj}{ps:List PV}{ts:List Tr}(e:aT (toT h 999) ps=some ts):JD h (.lst ps) (.lst [])=some (.bl (!ps.isEmpty)):=by
 show((((aT (toT h 999) ps).bind (qD .lst)).bind λx=>((aT (toT h 999) []).bind (qD .lst)).map λy=>eqT x y).map λb=>PV.bl !b)=_
 rw[e];show some (PV.bl !(kU ts []))=_;have:ts.length=ps.length:=p9 e;cases ps with
 | nil=>rw[iC this];rfl
 | cons p ps=>cases ts with | nil=>cases this | cons t ts=>rfl
theorem vv(c:CT){S:Sc}(hS:vq S){x0:Option PV}{C:Int}{z:Zt}(hz:z∈jd S.K)(L:List Nz)(hl:L.length<=3000)(x7:Option PV):∃(A:List Nz) (vn:Option PV),A.length<=1/\(∀e∈A,DB S e)/\(z.2.2.2=.nu->kA z.1.2=true->∃e∈A,kA e.2=true)/\fE c ⟨[x0,some (.int C),some (.lst ((own S.K).map λq=>.str q.1)),some (.ref 0),some (fH (mS z)),some (fT z.2.2.2),some (.str (w0 z.1.2)),x7],[⟨.lst,L.map vt⟩]⟩=some (.ok .nx,⟨[x0,some (.int C),some (.lst ((own S.K).map λq=>.str q.1)),some (.ref 0),some (fH (mS z)),some (fT z.2.2.2),some (.str (w0 z.1.2)),vn],[⟨.lst,(L++A).map vt⟩]⟩):=by
 have Qu:=Ab hS hz;have e2:=λρ v=>@vk ρ (L.map vt) v (by rw[ah];lia)
 generalize hi:z.2.2.2=i at Qu
 have one:(i=.nu\/i=.ow)->∃(A:List Nz) (vn:Option PV),A.length<=1/\(∀e∈A,DB S e)/\(i=.nu->kA z.1.2=true->∃e∈A,kA e.2=true)/\fE c ⟨[x0,some (.int C),some (.lst ((own S.K).map λq=>.str q.1)),some (.ref 0),some (fH (mS z)),some (fT i),some (.str (w0 z.1.2)),x7],[⟨.lst,L.map vt⟩]⟩=some (.ok .nx,⟨[x0,some (.int C),some (.lst ((own S.K).map λq=>.str q.1)),some (.ref 0),some (fH (mS z)),some (fT i),some (.str (w0 z.1.2)),vn],[⟨.lst,(L++A).map vt⟩]⟩):=λh=>by
  refine⟨[(mS z,z.1.2)],x7,ao _,λe he=>?_,λ_ h2=>⟨_,bc.mpr rfl,h2⟩,?_⟩
  ·rw[bc.mp he];exact⟨i,Qu,by rcases h with rfl | rfl<;>rfl⟩
  ·refine du ?_;rcases h with rfl | rfl<;>simp only[↓kB,e2,bz,aA,bL,vt]
 cases i
 case nu=>exact one (.inl rfl)
 case ow=>exact one (.inr rfl)
 case st n =>
  have hn:(0:Int)<1+(n.val:Int):=by lia
  have m1:=λh=>gO (h:=h) (i:=C/2) hn
  by_cases hc:C%2=1
  ·obtain⟨q,hq,hp⟩:=pick (λq:Ky=>.str q.1) (own S.K) (C/2) (by
    obtain⟨q,h1,h2⟩:=hS.nu;exact eU (cq.mpr ⟨h1,by simp[h2]⟩))
   have Ib:=cq.mp hq;have o0:0<(own S.K).length:=eU hq;have n1:∀h,JD h (.lst ((own S.K).map λq=>.str q.1)) (.lst [])=some (.bl true):=λh=>by
    rw[Ac (toT_strL (h:=h) (n:=998) (own S.K))];cases ho:own S.K with | nil=>rw[ho]at o0;cases o0 | cons a l=>rfl
   have l1:∀h,jW h [.lst ((own S.K).map λq=>.str q.1)]=some (.int ((own S.K).length:Nat)):=λh=>by show some (PV.int ((((own S.K).map λq=>PV.str q.1).length:Nat):Int))=_;rw[ah]
   have m2:=λh=>gO (h:=h) (i:=C/2) (show(0:Int)<((own S.K).length:Nat) by lia)
   refine⟨[(⟨z.1.1,kz z.1.2,z.2.1,.Ub q.1⟩,z.1.2)],some (.str q.1),ao _,λe he=>?_,(λh=>by cases h),?_⟩
   ·rw[bc.mp he];exact⟨.st n,⟨Qu.k,rfl,Qu.p,⟨n,rfl,by rw[fI hS.nd Ib.1,cX Ib.2]⟩⟩,rfl⟩
   ·refine du ?_;simp only[↓kB,e2,m1,m2,cF,hc,n1,l1,hp,bz,aA,bL,vt];rfl
  ·refine⟨[(⟨z.1.1,kz z.1.2,z.2.1,.num (C/2%(1+(n.val:Int)))⟩,z.1.2)],some (.int (C/2%(1+(n.val:Int)))),ao _,λe he=>?_,(λh=>by cases h),?_⟩
   ·rw[bc.mp he];exact⟨.st n,⟨Qu.k,rfl,Qu.p,⟨n,rfl,dQ _ (by lia),gk _ hn⟩⟩,rfl⟩
   ·refine du ?_;simp only[↓kB,e2,m1,cF,show(C%2==1)=false by simpa using hc,bz,aA,bL,vt]
    rfl
 all_goals
  refine⟨[],x7,fg _,(λe he=>by cases he),(λh=>by cases h),du ?_⟩
  simp only[↓kB,eZ]
end bZ
set_option maxHeartbeats 0
namespace bZ
open PySem L2 L2.U
def vB(p:PV):Prop:=∀k,run aG (k+17) "is_right" [p] []=some (.ok (.bl false),[])
inductive Fx where
 | g (F:Fd) | b (p:PV)
def Hu:Fx->PV
 | .g F=>fdP F
 | .b p=>p
noncomputable def Yh:Fx->Bool
 | .g _=>true
 | .b _=>false
theorem sZ{Q:List PV}(h:Q.length=0\/6<Q.length):vB (.ag Q):=by
 intro k;have e1:=λk=>cM k Q 1 6
 have c:(decide ((1:Int)<=(Q.length:Int))&&decide ((Q.length:Int)<=6))=false:=by
  rw[Bool.and_eq_false_iff,nQ,nQ]
  lia
 rw[c]at e1;rw[dX];unfold et;simp only[↓aR,e1]
theorem eN{Q:List Fx}(hg:∀F,Fx.g F∈Q->gB F)(hb:∀p,Fx.b p∈Q->mP p)(hx:∃p,Fx.b p∈Q)(hl:Q.length<=100):vB (.ag (Q.map Hu)):=by
 intro k;have e1:=λk=>cM k (Q.map Hu) 1 6
 have e2:∀k,∀f∈Q,run aG (k+13) "is_head" [Hu f] []=some (.ok (.bl (Yh f)),[]):=λk f hf=>by
  cases f with
  | g F=>exact jn k (hg F hf)
  | b p=>exact hb p hf k
 have e3:(Q.map Hu).length<=4000000:=by rw[ah];lia
 have hA:Q.all Yh=false:=by
  obtain⟨p,hp⟩:=hx;rw[ye];exact⟨_,hp,by simp[Yh]⟩
 rw[dX];unfold et;cases c:(decide ((1:Int)<=((Q.map Hu).length:Int))&&decide (((Q.map Hu).length:Int)<=6))with
 | false =>
  rw[c]at e1;simp only[↓aR,e1]
 | true =>
  rw[c]at e1;simp only[↓aR,e1,e2,e3,all_map,hA]
theorem mT{P:List Fd}(hh:∀F∈P,gB F)(hn:∀F∈P,cE F.nm\/jb F.nm)(hl:P.length<=100)(no:(∀F∈P,cE F.nm)->(P.map (·.nm)).Nodup->False):vB (.ag (P.map fdP)):=by
 intro k;have e1:=λk=>cM k (P.map fdP) 1 6
 have e2:∀k,∀F∈P,run aG (k+13) "is_head" [fdP F] []=some (.ok (.bl true),[]):=λk F hF=>jn k (hh F hF)
 have e3:(P.map fdP).length<=4000000:=by rw[ah];lia
 obtain⟨b,b1,b2⟩:=Bw 0 (l:=P.map (·.nm)) (λx hx=>by obtain⟨F,h1,rfl⟩:=bQ.mp hx;exact hn F h1) (by rw[ah];exact hl)
 have hb:b=false:=by
  cases b with
  | false=>rfl
  | true=>exact(no (λF hF=>(b2 rfl).1 _ (iI (f:=(·.nm)) hF)) (b2 rfl).2).elim
 subst hb;rw[bS]at b1;simp only[eW]at b1;rw[dX];unfold et;cases c:(decide ((1:Int)<=((P.map fdP).length:Int))&&decide (((P.map fdP).length:Int)<=6))with
 | false =>
  rw[c]at e1;simp only[↓aR,e1]
 | true =>
  rw[c]at e1;simp only[↓aR,e1,e2,e3,b1,fU]
theorem Hv(k:Nat){F:Fd}(h:F.res≠.aK\/∃q∈F.ps,q.2≠.ow .nu)(hl:F.ps.length<=4):run aG (k+1) "may_be_run" [fdP F] []=some (.ok (.bl false),[]):=by
 have e1:(F.ps.map bY).length<=4000000:=by rw[ah];lia
 rw[ja];by_cases hr:F.res=.aK
 ·obtain⟨q,hq,hn⟩:=h.resolve_left (λz=>z hr)
  have hA:(F.ps.all λq=>decide (q.2=.ow .nu))=false:=by
   rw[ye];exact⟨q,hq,by simpa using hn⟩
  simp only[↓aR,hr,e1,Ht,all_map,hA]
 ·have e2:kY (fG F.res)=false:=by
   cases hF:F.res with
   | aK=>exact absurd hF hr
   | own s'=>cases s'<;>rfl
   | m5 _ _ _=>rfl
  simp only[↓aR,e2]
theorem s9{F:Fd}(h:gB F)(hn:cE F.nm)(hr:F.res≠.aK\/∃q∈F.ps,q.2≠.ow .nu):vB (.ag [fdP F]):=by
 intro k;have e1:∀k,run aG (k+1) "is_tuple_from" [.ag [fdP F],.int 1,.int 6] []=some (.ok (.bl true),[]):=λk=>cM k [fdP F] 1 6
 have e2:∀k,∀G∈[F],run aG (k+13) "is_head" [fdP G] []=some (.ok (.bl true),[]):=λk G hG=>by rw[bc.mp hG];exact jn k h
 have e4:∀k,run aG (k+2) "are_apart" [.lst ([F].map λG=>.str G.nm)] []=some (.ok (.bl true),[]):=λk=>by
  have:=gi k (l:=[F.nm]) (λx hx=>by rw[bc.mp hx];exact hn) (by simp) (by simp)
  exact this
 have e5:∀h',dI h' (.ag ([F].map fdP)) (.int 0)=some (fdP F):=λh'=>rfl
 have e6:=λk=>Hv k hr h.p
 have e7:([F].map fdP).length<=4000000:=by simp
 have e8:([F].map λG=>PV.str G.nm).length<=4000000:=by simp
 rw[show [fdP F]=[F].map fdP from rfl]at e1 ⊢
 obtain⟨L,hL⟩:∃L,L=[F]:=⟨_,rfl⟩
 rw[<-hL]at e1 e2 e4 e5 e7 e8 ⊢;rw[dX];unfold et;simp only[↓aR,e1,e2,e4,e5,e6,e7,e8,fU]
def vw(F:Fd):Bool:=match F.rw.getLast? with | some r=>ki r | none=>false
theorem Ad(k:Nat){S:Sc}{F:Fd}(h:∀r∈F.rw,cB S r)(h1:1<=F.rw.length)(hn:F.rw.length<=1000):run aG (k+16) "are_rows" [gQ S,.ag (F.rw.map bJ)] []=some (.ok (.bl (vw F)),[]):=by
 obtain⟨r,hl⟩:∃r,F.rw.getLast?=some r:=by
  cases hF:F.rw with
  | nil=>rw[hF]at h1;simp at h1
  | cons a l=>exact⟨_,List.getLast?_cons⟩
 have e1:∀k,∀r∈F.rw,run aG (k+15) "is_row" [gQ S,bJ r] []=some (.ok (.bl true),[]):=λk r hr=>Hc k (h r hr)
 have e2:(F.rw.map bJ).length<=4000000:=by rw[ah];lia
 have e3:dI [] (.ag (F.rw.map bJ)) (.int (-1))=some (bJ r):=by
  show L2.oZ (F.rw.map bJ) (-1)=_;exact He (by rw[List.getLast?_map,hl];rfl)
 unfold vw;rw[hl];rw[u4];cases r
 case ig w x s=>cases w<;>simp only[↓aR,e1,e2,e3,fU,ki]
 all_goals simp only[↓aR,e1,e2,e3,fU,ki]
structure Hw (P:List Fd):Prop where
 l:1<=P.length
 m:P.length<=6
 h:∀F∈P,gB F
 n:∀F∈P,cE F.nm
 d:(P.map (·.nm)).Nodup
 f:∀F,P[0]?=some F->F.res=.aK/\∀q∈F.ps,q.2=.ow .nu
 o:∀F∈P,F.ls=[]->F.ps=[]
 r:∀F∈P,∀r∈F.rw,cB (Yb P F) r
theorem mx{P:List Fd}(h:Hw P)(k:Nat):run aG (k+17) "is_right" [.ag (P.map fdP)] []=some (.ok (.bl (P.all vw)),[]):=by
 have e1:=λk=>dA k (P.map fdP) 1 6 (by have:=h.l;rw[ah];lia) (by have:=h.m;rw[ah];lia)
 have e2:∀k,∀F∈P,run aG (k+13) "is_head" [fdP F] []=some (.ok (.bl true),[]):=λk F hF=>jn k (h.h F hF)
 have e3:(P.map fdP).length<=4000000:=by have:=h.m;rw[ah];lia
 have e4:=λk=>gi k (l:=P.map (·.nm)) (λx hx=>by obtain⟨q,h1,rfl⟩:=bQ.mp hx;exact h.n q h1) h.d (by have:=h.m;rw[ah];lia)
 rw[bS]at e4;simp only[eW]at e4;obtain⟨F0,h0⟩:∃F,P[0]?=some F:=⟨_,bB h.l⟩
 have e5:∀h',dI h' (.ag (P.map fdP)) (.int 0)=some (fdP F0):=λh'=>atI_nat (j:=0) (by rw[aX,h0];rfl)
 have e6:=λk=>vi k (h.f F0 h0).1 (h.f F0 h0).2 (h.h F0 (eV h0)).p
 have e7:∀k,∀F∈P,run aG (k+16) "are_rows" [gQ (Yb P F),.ag (F.rw.map bJ)] []=some (.ok (.bl (vw F)),[]):=λk F hF=>Ad k (h.r F hF) (h.h F hF).w (by have:=(h.h F hF).x;lia)
 have e8:∀c,∀F∈P,Ij aG c "Scene" [.ref 0,.ag (P.map fdP),fdP F] [⟨.ins "Scene" [],[]⟩]=_:=λc F hF=>KY c (h.h F hF) (h.o F hF) h.d h.m
 rw[dX];unfold et;simp only[↓aR,e1,e2,e3,e4,e5,e6,e7,e8,Dv,fU,all_map]
theorem Ae{P:List Fd}(h:Hw P)(hb:∃F∈P,vw F=false):vB (.ag (P.map fdP)):=λk=>by
 rw[mx h];obtain⟨F,h1,h2⟩:=hb;rw[show P.all vw=false by rw[ye];exact⟨F,h1,by simp[h2]⟩]
theorem lC(c:CT){S:Sc}(hS:vq S){x0:Option PV}{C:Int}:∀(Z:List Zt) (L:List Nz) (x4 x5 x6 x7:Option PV),(∀z∈Z,z∈jd S.K)->(∀e∈L,DB S e)->L.length+Z.length<=3000->∃(L':List Nz) (Ho DA qG vn:Option PV),L'.length<=L.length+Z.length/\(∀e∈L',DB S e)/\(∀e∈L,e∈L')/\((∃z∈Z,z.2.2.2=.nu/\kA z.1.2=true)->∃e∈L',kA e.2=true)/\ef (kR 3 (dH (cO 4) Q0)) (fE c) (Z.map mw) ⟨[x0,some (.int C),some (.lst ((own S.K).map λq=>.str q.1)),some (.ref 0),x4,x5,x6,x7],[⟨.lst,L.map vt⟩]⟩=some (.ok .nx,⟨[x0,some (.int C),some (.lst ((own S.K).map λq=>.str q.1)),some (.ref 0),Ho,DA,qG,vn],[⟨.lst,L'.map vt⟩]⟩)
 | [],L,x4,x5,x6,x7,_,hL,_=>⟨L,x4,x5,x6,x7,ao _,hL,λ_ h=>h,(λ⟨z,h,_⟩=>nomatch h),rfl⟩
 | z::Z,L,x4,x5,x6,x7,hZ,hL,hl=>by
  simp only[br]at hl;obtain⟨A,y7,a1,a2,a3,a4⟩:=vv c hS (x0:=x0) (C:=C) (hZ z cz) L (by lia) x7
  obtain⟨L',z4,z5,z6,z7,b1,b2,b3,b4,b5⟩:=lC c hS (x0:=x0) (C:=C) Z (L++A) (some (fH (mS z))) (some (fT z.2.2.2)) (some (.str (w0 z.1.2))) y7 (λy h=>hZ y (b9 _ h)) (λe h=>by rcases bK.mp h with h | h;exact hL e h;exact a2 e h) (by simp;lia)
  refine⟨L',z4,z5,z6,z7,by simp at b1 ⊢;lia,b2,λe h=>b3 e (bK.mpr (.inl h)),?_,?_⟩
  ·rintro⟨y,hy,h1,h2⟩
   rcases aF.mp hy with rfl | hy
   ·obtain⟨e,he,h3⟩:=a3 h1 h2;exact⟨e,b3 e (bK.mpr (.inr he)),h3⟩
   ·exact b4 ⟨y,hy,h1,h2⟩
  ·exact fC (s1:=⟨[x0,some (.int C),some (.lst ((own S.K).map λq=>.str q.1)),some (.ref 0),some (fH (mS z)),some (fT z.2.2.2),some (.str (w0 z.1.2)),x7],[⟨.lst,L.map vt⟩]⟩) rfl a4 b5
theorem nJ:∀K:List Ky,(jd K).length<=13*K.length
 | []=>by simp[jd]
 | q::K=>by
  have tl:(kn (Di q.2)).length<=13:=by cases Di q.2<;>exact Nat.le_of_ble_eq_true rfl
  have:=nJ K;unfold jd at this ⊢;simp only[List.flatMap_cons,bC,ah,br]
  lia
theorem L9(z:Zt):noRef (mw z)=true:=by simp[mw,noRef,aD,Bu,Du]
theorem Uk(z:Nz):noRef (vt z)=true:=by simp[vt,noRef,aD,Bu]
theorem DC(k:Nat){S:Sc}(hS:vq S)(C:Int):∃L:List Nz,(∀e∈L,DB S e)/\(∃e∈L,kA e.2=true)/\L.length<=200/\run aG (k+11) "_law_numbers" [.lst (S.K.map bY),.int C] []=some (.ok (.ref 0),[⟨.lst,L.map vt⟩]):=by
 have ZH:=nJ S.K;have hl:=hS.l;obtain⟨L,y4,y5,y6,y7,b1,b2,b3,b4,b5⟩:=lC (run aG (k+10)) hS (x0:=some (.lst (S.K.map bY))) (C:=C) (jd S.K) [] none none none none (λz h=>h) (λe h=>by cases h) (by simp;lia)
 refine⟨L,b2,b4 ?_,by simp at b1;lia,?_⟩
 ·obtain⟨q,h1,h2⟩:=hS.nu;refine⟨(q,([],0,.nu)),nI.mpr ⟨h1,?_⟩,rfl,?_⟩
  ·rw[h2];exact bc.mpr rfl
  ·show kA q.2=true;rw[h2];rfl
 have e1:=BB k S.K (by lia)
 have e2:(S.K.map bY).length<=4000000:=by rw[ah];lia
 have fz:=dv (cS L9 (jd S.K));have nr:aD (S.K.map bY)=true:=cS Hj _
 delta fE kx at b5
 simp only[own]at b5;rw[u6];simp only[bL]at b5;simp only[↓aR,e1,e2,Ht,fz,b5,aD,noRef,nr]
def PU(p:PV):Prop:=∀h,∃t,toT h 999 p=some t
theorem Yi{α:Type}{f:α->PV}(hf:∀x,PU (f x))(h:List aj):∀l:List α,∃ts,aT (toT h 999) (l.map f)=some ts
 | []=>⟨[],rfl⟩
 | x::l=>by
  obtain⟨t,e⟩:=hf x h;obtain⟨ts,e2⟩:=Yi hf h l;refine⟨t::ts,?_⟩;show(toT h 999 (f x)).bind (λy=>(aT (toT h 999) (l.map f)).map λys=>y::ys)=_
  rw[e,e2];rfl
theorem toT_ints{h:List aj}{n:Nat}:∀l:List Nat,aT (toT h (n+1)) (l.map fun(i:Nat)=>.int (i:Int))=some (l.map fun(i:Nat)=>.int (i:Int))
 | []=>rfl
 | i::l=>by
  show(some (Tr.int i)).bind (λy=>(aT (toT h (n+1)) (l.map fun(i:Nat)=>.int (i:Int))).map λys=>y::ys)=_
  rw[toT_ints l];rfl
theorem toT_pa{h:List aj}{n:Nat}(p:List Nat):toT h (n+2) (G6 p)=some (.ag (p.map fun(i:Nat)=>.int (i:Int))):=by
 show((aT (toT h (n+1)) (p.map fun(i:Nat)=>.int (i:Int))).bind (qD .ag))=_
 rw[toT_ints];rfl
theorem toT_sp{h:List aj}{n:Nat}(s:Sp):∃t,toT h (n+3) (fH s)=some t:=by
 have:∃t,toT h (n+2) (PD s.a)=some t:=by cases s.a<;>exact⟨_,rfl⟩
 obtain⟨t,ht⟩:=this;refine⟨.ag [.str s.x,.bl s.t,.ag (s.p.map fun(i:Nat)=>.int (i:Int)),t],?_⟩
 show((aT (toT h (n+2)) [.str s.x,.bl s.t,G6 s.p,PD s.a]).bind (qD .ag))=_;simp only[aT,toT_pa,ht];rfl
theorem Ul(z:Nz):PU (vt z):=λh=>by
 obtain⟨t,ht⟩:=toT_sp (h:=h) (n:=995) z.1;refine⟨.ag [t,.str (w0 z.2)],?_⟩;show((aT (toT h 998) [fH z.1,.str (w0 z.2)]).bind (qD .ag))=_;simp only[aT,ht];rfl
theorem Hx{h:List aj}{ps:List PV}{ts:List Tr}(e:aT (toT h 999) ps=some ts):AQ h (.lst ps) (.lst [])=some (.bl ps.isEmpty):=by
 have:=Ac e;show(RW h (.lst ps) (.lst [])).map PV.bl=_;have h2:(RW h (.lst ps) (.lst [])).map (λb=>PV.bl !b)=some (PV.bl !ps.isEmpty):=this
 obtain⟨b,hb,h3⟩:=gj.mp h2;rw[hb];simp at h3;rw[<-h3];rfl
theorem bR{α:Type}{f:α->PV}{L:List α}{h:List aj}:jW h [.lst (L.map f)]=some (.int (L.length:Nat)):=by
 show some (PV.int (((L.map f).length:Nat):Int))=_;rw[ah]
theorem td(k:Nat){S:Sc}{L:List Nz}(hL:∀e∈L,DB S e)(m C:Int):∃o:Op,jz S o/\run aG (k+1) "_law_operand" [.lst (L.map vt),.int m,.int C] []=some (.ok (qF o),[]):=by
 obtain⟨ts,X2⟩:=Yi Ul [] L;have e1:=Hx X2;have e2:fY [] (.int C) (.int 982451653)=some (.int (C*982451653)):=DQ (.inr (by decide))
 have e3:yW [] (.int 10) (.int 30)=some (.int (10^30)):=by kernel_rfl
 have num:∃o:Op,jz S o/\PV.int (C*982451653%10^30)=qF o:=⟨.n (C*982451653%10^30),⟨dQ _ (by decide),gk _ (by decide)⟩,rfl⟩
 have e4:uz [] (.int (C*982451653)) (.int (10^30))=some (.int (C*982451653%10^30)):=gO (by decide)
 rw[u7];cases h1:m%4==0
 ·cases h2:L.isEmpty
  ·obtain⟨e,he,hp⟩:=pick vt L (m/4) (by cases L with | nil=>cases h2 | cons=>simp)
   have l0:(0:Int)<(L.length:Nat):=by have:=eU he;lia
   have m1:=gO (h:=[]) (i:=m/4) l0;obtain⟨i,hi,hn⟩:=hL e he;refine⟨.s e.1,⟨e.2,i,hi,hn⟩,?_⟩;simp only[↓aR,cF,h1,e1,oo,h2,bR,m1,hp];rfl
  ·obtain⟨o,ho,eo⟩:=num;refine⟨o,ho,?_⟩;simp only[↓aR,cF,h1,e1,oo,h2,e2,e3,e4,eo]
 ·obtain⟨o,ho,eo⟩:=num;refine⟨o,ho,?_⟩;simp only[↓aR,cF,h1,e1,e2,e3,e4,eo]
end bZ
set_option maxHeartbeats 0
namespace bZ
open PySem L2 L2.U
theorem cN{h:List aj}{d:Kn}:JD h (.str (w0 d)) (.str "lent")=some (.bl (kA d)):=by
 cases d with
 | ow s=>cases s<;>kernel_rfl
 | ho w s=>cases w<;>kernel_rfl
theorem PX(L:List Nz):aD (L.map vt)=true:=cS Uk L
theorem Hy(L:List Ky):aD (L.map bY)=true:=cS Hj L
theorem xu(k:Nat){S:Sc}(hS:vq S)(C:Int)(hn:0<S.size):∃r:Rw,cB S r/\run aG (k+12) "_law_plain_row" [.lst (S.K.map bY),.int C,.int (S.size:Nat)] []=some (.ok (bJ r),[]):=by
 obtain⟨L,l1,⟨e0,l2,l3⟩,l4,l5⟩:=DC k hS (C*39373%2147483579);obtain⟨o1,Qv,PY⟩:=td (k+10) l1 (C*69621%2147483629) C;obtain⟨o2,Vn,PZ⟩:=td (k+10) l1 (C*16807%2147483587) (C+1);obtain⟨e,he,hp⟩:=pick (λz:Nz=>fH z.1) (L.filter λz=>kA z.2) (C*48271%2147483647) (eU (cq.mpr ⟨l2,l3⟩))
 have l0:(0:Int)<((L.filter λz=>kA z.2).length:Nat):=by have:=eU he;lia
 have m1:=λh=>gO (h:=h) (i:=C*48271%2147483647) l0
 have ZI:=cq.mp he;obtain⟨i,hi,Ow⟩:=l1 e ZI.1;have tg:∃d i,eu S e.1 d i/\ly e.1 i=true/\kA d=true:=⟨e.2,i,hi,Ow,ZI.2⟩
 have e2:(L.map vt).length<=4000000:=by rw[ah];lia
 have fz:=dv (PX L);have jm:=dQ (C*48271%2147483647/8) (show(S.size:Int)≠0 by lia)
 have jl:=gk (C*48271%2147483647/8) (show(0:Int)<(S.size:Int) by lia)
 have m2:=λh=>gO (h:=h) (i:=C*48271%2147483647/8) (show(0:Int)<(S.size:Int) by lia)
 rw[qj];by_cases h1:C%16<10
 ·refine⟨.put e.1 o1,⟨tg,Qv⟩,?_⟩;simp only[↓aR,bX,l5,fz,e2,cN,PY,PZ,aP h1,bR,m1,hp];rfl
 by_cases h2:C%16=10
 ·have h3:C*39373%2147483579%3=0\/C*39373%2147483579%3=1\/C*39373%2147483579%3=2:=by lia
  rcases h3 with h3 | h3 | h3
  ·refine⟨.set e.1 "+" o1 o2,⟨tg,.inl rfl,Qv,Vn⟩,?_⟩;simp only[↓aR,bX,l5,fz,e2,cN,PY,PZ,aV h1,cF,h2,bR,m1,hp,h3];rfl
  ·refine⟨.set e.1 "-" o1 o2,⟨tg,.inr (.inl rfl),Qv,Vn⟩,?_⟩;simp only[↓aR,bX,l5,fz,e2,cN,PY,PZ,aV h1,cF,h2,bR,m1,hp,h3];rfl
  ·refine⟨.set e.1 "*" o1 o2,⟨tg,.inr (.inr rfl),Qv,Vn⟩,?_⟩;simp only[↓aR,bX,l5,fz,e2,cN,PY,PZ,aV h1,cF,h2,bR,m1,hp,h3];rfl
 by_cases h4:C%16=11
 ·refine⟨.G7 o1 o2 (C*48271%2147483647/8%(S.size:Int)),⟨Qv,Vn,jm,jl⟩,?_⟩;simp only[↓aR,bX,l5,fz,e2,cN,PY,PZ,aV h1,cF,h4,bR,m2];rfl
 by_cases h5:C%16=12
 ·refine⟨.go (C*48271%2147483647/8%(S.size:Int)),⟨jm,jl⟩,?_⟩;simp only[↓aR,bX,l5,fz,e2,cN,PY,PZ,aV h1,cF,h5,bR,m2];rfl
 ·refine⟨.G8 o1,Qv,?_⟩;simp only[↓aR,bX,l5,fz,e2,cN,PY,PZ,aV h1,cF,show(C%16==10)=false by simpa using h2,show(C%16==11)=false by simpa using h4,show(C%16==12)=false by simpa using h5]
  rfl
end bZ
set_option maxHeartbeats 0
namespace bZ
open PySem L2 L2.U
theorem BC{h:List aj}{d:Kn}{w:Bool}{i:Sx}:AQ h (cA d) (.ag [.str (lI w),fT i])=some (.bl (decide (d=.ho w i))):=q8 (b:=.ho w i)
theorem qw(c:CT){S:Sc}(hS:vq S){x0 x1:Option PV}(w:Bool){q:Ky}(hq:q∈S.K):∀(Z:List Zt) (R:List Rw) (x6 x7 x8:Option PV),(∀z∈Z,z∈jd S.K)->(∀r∈R,cB S r)->R.length+Z.length<=3000->∃(R':List Rw) (qG vn vm:Option PV),R'.length<=R.length+Z.length/\(∀r∈R',cB S r)/\ef (kR 3 (dH (cO 6) (dH (cO 7) (dH (cO 8) pd)))) (ia c) (Z.map mw) ⟨[x0,x1,some (.str (lI w)),some (.ref 0),some (.str q.1),some (cA q.2),x6,x7,x8],[⟨.lst,R.map bJ⟩]⟩=some (.ok .nx,⟨[x0,x1,some (.str (lI w)),some (.ref 0),some (.str q.1),some (cA q.2),qG,vn,vm],[⟨.lst,R'.map bJ⟩]⟩)
 | [],R,x6,x7,x8,_,hR,_=>⟨R,x6,x7,x8,ao _,hR,rfl⟩
 | z::Z,R,x6,x7,x8,hZ,hR,hl=>by
  simp only[br]at hl;have e2:=λρ v=>@vk ρ (R.map bJ) v (by rw[ah];lia)
  have sp:=Ab hS (hZ z cz);by_cases hc:q.2=.ho w z.2.2.2/\(w=true->kA z.1.2=true)
  ·have hr:cB S (.ig w q.1 (mS z)):=⟨_,_,sp,rfl,hc.2,by rw[fI hS.nd hq,hc.1]⟩
   obtain⟨R',y6,y7,y8,h1,h2,h3⟩:=qw c hS (x0:=x0) (x1:=x1) w hq Z (R++[.ig w q.1 (mS z)]) (some (fH (mS z))) (some (fT z.2.2.2)) (some (.str (w0 z.1.2))) (λy h=>hZ y (b9 _ h)) (λr h=>by rcases bK.mp h with h | h;exact hR r h;rw[bc.mp h];exact hr) (by simp;lia)
   refine⟨R',y6,y7,y8,by simp at h1 ⊢;lia,h2,?_⟩
   rw[bz]at h3;rw[aA];refine du ?_;cases w with
   | false =>
    have h3:ef _ (ia c) (Z.map mw) ⟨_,[⟨.lst,R.map bJ++[.ag [.str "lend",.str q.1,fH (mS z)]]⟩]⟩=_:=h3;simp only[↓kB,BC,aP hc.1,e2,h3]
   | true =>
    have h3:ef _ (ia c) (Z.map mw) ⟨_,[⟨.lst,R.map bJ++[.ag [.str "sole",.str q.1,fH (mS z)]]⟩]⟩=_:=h3;simp only[↓kB,BC,aP hc.1,cN,hc.2 rfl,e2,h3]
  ·obtain⟨R',y6,y7,y8,h1,h2,h3⟩:=qw c hS (x0:=x0) (x1:=x1) w hq Z R (some (fH (mS z))) (some (fT z.2.2.2)) (some (.str (w0 z.1.2))) (λy h=>hZ y (b9 _ h)) hR (by lia)
   refine⟨R',y6,y7,y8,by simp only[br];lia,h2,?_⟩
   rw[aA];refine du ?_;by_cases hk:q.2=.ho w z.2.2.2
   ·cases w with
    | false=>exact absurd ⟨hk,λh=>by cases h⟩ hc
    | true =>
     have hm:kA z.1.2=false:=by
      cases hm:kA z.1.2 with
      | false=>rfl
      | true=>exact absurd ⟨hk,λ_=>hm⟩ hc
     simp only[↓kB,BC,aP hk,cN,hm,h3]
   ·simp only[↓kB,BC,aV hk,h3]
theorem tf(c:CT){S:Sc}(hS:vq S){x0:Option PV}(w:Bool):∀(K:List Ky) (R:List Rw) (x4 x5 x6 x7 x8:Option PV),(∀q∈K,q∈S.K)->(∀r∈R,cB S r)->R.length+160*K.length<=3000->∃(R':List Rw) (Ho DA qG vn vm:Option PV),R'.length<=R.length+160*K.length/\(∀r∈R',cB S r)/\ef (kR 2 (dH (cO 4) (dH (cO 5) pd))) (qi c) (K.map bY) ⟨[x0,some (.lst ((jd S.K).map mw)),some (.str (lI w)),some (.ref 0),x4,x5,x6,x7,x8],[⟨.lst,R.map bJ⟩]⟩=some (.ok .nx,⟨[x0,some (.lst ((jd S.K).map mw)),some (.str (lI w)),some (.ref 0),Ho,DA,qG,vn,vm],[⟨.lst,R'.map bJ⟩]⟩)
 | [],R,x4,x5,x6,x7,x8,_,hR,_=>⟨R,x4,x5,x6,x7,x8,ao _,hR,rfl⟩
 | q::K,R,x4,x5,x6,x7,x8,hK,hR,hl=>by
  simp only[br]at hl;have ZH:=nJ S.K;have hl':=hS.l;obtain⟨R1,y6,y7,y8,h1,h2,h3⟩:=qw c hS (x0:=x0) (x1:=some (.lst ((jd S.K).map mw))) w (hK q cz) (jd S.K) R x6 x7 x8 (λz h=>h) hR (by lia)
  obtain⟨R2,z4,z5,z6,z7,z8,g1,g2,g3⟩:=tf c hS (x0:=x0) w K R1 (some (.str q.1)) (some (cA q.2)) y6 y7 y8 (λy h=>hK y (b9 _ h)) h2 (by lia)
  refine⟨R2,z4,z5,z6,z7,z8,by simp only[br];lia,g2,?_⟩
  delta ia kx at h3
  rw[aA];refine du ?_;simp only[↓kB,h3,g3]
theorem BD(k:Nat){S:Sc}(hS:vq S)(w:Bool):∃R:List Rw,(∀r∈R,cB S r)/\run aG (k+1) "_law_lends" [.lst (S.K.map bY),.lst ((jd S.K).map mw),.str (lI w)] []=some (.ok (.ref 0),[⟨.lst,R.map bJ⟩]):=by
 have hl:=hS.l;obtain⟨R,y4,y5,y6,y7,y8,h1,h2,h3⟩:=tf (run aG k) hS (x0:=some (.lst (S.K.map bY))) w S.K [] none none none none none (λq h=>h) (λr h=>by cases h) (by simp;lia)
 refine⟨R,h2,?_⟩
 delta qi kx at h3
 rw[bL]at h3;rw[zN];simp only[↓aR,h3]
theorem Hz(k:Nat)(i:Sx):run aG (k+10) "_law_copied" [fT i] []=some (.ok (.bl (Vj i)),[]):=by cases i<;>kernel_rfl
noncomputable def Um:Sx->Bool
 | .st _=>true
 | _=>false
theorem Uo{h:List aj}{i:Sx}:dI h (fT i) (.int 0)=some (.str (w0 (.ow i))):=Dz (d:=.ow i)
theorem HA{h:List aj}{i:Sx}:AQ h (.str (w0 (.ow i))) (.str "strip")=some (.bl (Um i)):=by cases i<;>kernel_rfl
theorem HB(L:List Zt):aD (L.map mw)=true:=cS L9 L
theorem HC(L:List Rw):aD (L.map bJ)=true:=cS Bv L
theorem HE{S:Sc}(hS:vq S):∃z∈jd S.K,kz z.1.2=false/\kA z.1.2=true:=by
 obtain⟨q,h1,h2⟩:=hS.nu;refine⟨(q,([],0,.nu)),nI.mpr ⟨h1,?_⟩,?_,?_⟩
 ·rw[h2];exact bc.mpr rfl
 ·show kz q.2=false;rw[h2];rfl
 ·show kA q.2=true;rw[h2];rfl
theorem HF{α:Type}(f:α->PV)(b:α->Bool)(L:List α)(m:Int)(h:∃x∈L,b x=true):∃p,p∈L/\b p=true/\(0:Int)<((L.filter b).length:Nat)/\∀H:List aj,dI H (.lst ((L.filter b).map f)) (.int (m%((L.filter b).length:Int)))=some (f p):=by
 obtain⟨x,h1,h2⟩:=h;obtain⟨p,hp,e⟩:=pick f (L.filter b) m (eU (cq.mpr ⟨h1,h2⟩));have:=cq.mp hp;exact⟨p,this.1,this.2,by have:=eU hp;lia,e⟩
theorem HG(k:Nat){S:Sc}(hS:vq S)(C m:Int):∃R:List Rw,(∀r∈R,cB S r)/\run aG (k+11) "_law_things" [.lst (S.K.map bY),.int C,.int m] []=some (.ok (.lst (R.map bJ)),[]):=by
 have hl:=hS.l;have ZH:=nJ S.K;have e1:=BB k S.K (by lia)
 have fz:=dv (HB (jd S.K));have ll:((jd S.K).map mw).length<=4000000:=by rw[ah];lia
 have lf:∀b,(((jd S.K).filter b).map mw).length<=4000000:=λb=>by have:=nV b (jd S.K);rw[ah];lia
 have n1:=HB (jd S.K);have n2:=Hy S.K;have e2:∀h,fY h (.int C) (.int 982451653)=some (.int (C*982451653)):=λh=>DQ (.inr (by decide))
 have e3:∀h,yW h (.int 10) (.int 30)=some (.int (10^30)):=λh=>by kernel_rfl
 have e4:∀h,uz h (.int (C*982451653)) (.int (10^30))=some (.int (C*982451653%10^30)):=λh=>gO (by decide)
 have ok:∀{z},z∈jd S.K->eu S (mS z) z.1.2 z.2.2.2:=λh=>Ab hS h
 rw[xm];by_cases h1:C%16<2
 ·obtain⟨R,r1,r2⟩:=BD (k+9) hS false;have fr:=dv (HC R);rw[show lI false="lent" from rfl]at r2
  refine⟨R,r1,?_⟩;simp only[↓aR,e1,fz,ll,cN,aP h1,r2,fr]
 by_cases h2:C%16<4
 ·obtain⟨R,r1,r2⟩:=BD (k+9) hS true;have fr:=dv (HC R);rw[show lI true="sole" from rfl]at r2
  refine⟨R,r1,?_⟩;simp only[↓aR,e1,fz,ll,cN,aV h1,aP h2,r2,fr]
 by_cases h3:C%16=4
 ·obtain⟨z0,p1,p2,p3,p4⟩:=HF mw (λz=>kA z.1.2) (jd S.K) m (let ⟨z,a,_,b⟩:=HE hS;⟨z,a,b⟩)
  have m1:=λh=>gO (h:=h) (i:=m) p3
  refine⟨((jd S.K).filter λz=>decide (z.2.2.2=z0.2.2.2)&&Vj z0.2.2.2).map λz=>.qm (mS z0) (mS z),λr hr=>?_,?_⟩
  ·obtain⟨z,hz,rfl⟩:=bQ.mp hr;obtain⟨z1,z2⟩:=cq.mp hz;rw[aC,iK]at z2;exact⟨_,_,_,ok p1,rfl,p2,z2.1▸ok z1,rfl,z2.2⟩
  ·simp only[↓aR,e1,fz,ll,cN,aV h1,aV h2,cF,h3,bR,m1,p4,Pz,Hz,bS,eW];rfl
 by_cases h4:C%16=5
 ·obtain⟨z0,p1,p2,p3,p4⟩:=HF mw (λz=>!(mS z).t) (jd S.K) m (let ⟨z,a,b,_⟩:=HE hS;⟨z,a,by show(!kz z.1.2)=true;rw[b];rfl⟩)
  have m1:=λh=>gO (h:=h) (i:=m) p3
  refine⟨(((jd S.K).filter λz=>kA z.1.2).filter λz=>decide (z.2.2.2=z0.2.2.2)).map λz=>.qo (mS z) (mS z0),λr hr=>?_,?_⟩
  ·obtain⟨z,hz,rfl⟩:=bQ.mp hr;obtain⟨z1,z2⟩:=cq.mp hz;obtain⟨z1,z3⟩:=cq.mp z1;rw[iK]at z2;exact⟨_,_,_,z2▸ok z1,rfl,z3,ok p1,rfl,by simpa[mS]using p2⟩
  ·simp only[↓aR,e1,fz,ll,lf,cN,aV h1,aV h2,cF,h4,bR,m1,p4,Pz,bS,eW];rfl
 by_cases h5:C%16=6
 ·refine⟨((jd S.K).filter λz=>!(mS z).t).map λz=>.drop (mS z),λr hr=>?_,?_⟩
  ·obtain⟨z,hz,rfl⟩:=bQ.mp hr;obtain⟨z1,z2⟩:=cq.mp hz;exact⟨_,_,ok z1,rfl,by simpa[mS]using z2⟩
  ·simp only[↓aR,e1,fz,ll,lf,cN,aV h1,aV h2,cF,h5,bS,eW];rfl
 ·refine⟨(((jd S.K).filter λz=>kA z.1.2).filter λz=>Um z.2.2.2).map λz=>.fill (mS z) (.n (C*982451653%10^30)),λr hr=>?_,?_⟩
  ·obtain⟨z,hz,rfl⟩:=bQ.mp hr;obtain⟨z1,z2⟩:=cq.mp hz;obtain⟨z1,z3⟩:=cq.mp z1;have hz:=ok z1;cases hi:z.2.2.2 with
   | st n=>rw[hi]at hz;exact⟨⟨_,n,hz,rfl,z3⟩,dQ _ (by decide),gk _ (by decide)⟩
   | _=>rw[hi]at z2;cases z2
  ·simp only[↓aR,e1,e2,e3,e4,fz,ll,lf,cN,aV h1,aV h2,cF,show(C%16==4)=false by simpa using h3,show(C%16==5)=false by simpa using h4,show(C%16==6)=false by simpa using h5,Uo,HA,bS,eW]
   rfl
end bZ
set_option maxHeartbeats 0
namespace bZ
open PySem L2 L2.U
noncomputable def eO(K:List Ky)(d:Kn):List Ky:=K.filter λq=>decide (q.2=d)
theorem qx{S:Sc}(hS:vq S){d:Kn}{q:Ky}(h:q∈eO S.K d):cx S.K q.1=some d:=by
 have:=cq.mp h;rw[fI hS.nd this.1,cX this.2]
theorem lD{h:List aj}{l:List Ky}:AQ h (.lst (l.map λq=>.str q.1)) (.lst [])=some (.bl l.isEmpty):=by
 rw[Hx (toT_strL (h:=h) (n:=998) l),oo]
theorem Af(l:List Ky)(m:Int)(h:l.isEmpty=false):∃q∈l,(0:Int)<(l.length:Nat)/\∀H:List aj,dI H (.lst (l.map λq=>.str q.1)) (.int (m%(l.length:Int)))=some (.str q.1):=by
 obtain⟨q,h1,h2⟩:=pick (λq:Ky=>.str q.1) l m (by cases l with | nil=>cases h | cons=>simp)
 exact⟨q,h1,by have:=eU h1;lia,h2⟩
theorem Up{α:Type}{f:Gx α}{s:bU}{a:α}(h:∃st,gx f s=some (.ok a,st)):∃st,f s=some (.ok a,st):=h
theorem tj(c:CT){S:Sc}(hS:vq S){x0 x2 x3 x4 x5 x6 x7:Option PV}:∀(ps:List Ky) (as:List Str) (m:Int) (Uq Ur Us:Option PV),as.length+ps.length<=100 ->
  (∃st,ef Q1 (jj c) (ps.map bY) ⟨[x0,some (.lst (S.K.map bY)),x2,x3,x4,x5,x6,x7,some (.ref 0),some (.int m),Uq,Ur,Us],[⟨.lst,as.map .str⟩]⟩=some (.ok (.rt .aK),st)) \/
  ∃(bs:List Str) (m':Int) (Vo Vp Vq:Option PV),bs.length=ps.length/\(∀z∈bs.zip ps,cx S.K z.1=some z.2.2)/\ef Q1 (jj c) (ps.map bY) ⟨[x0,some (.lst (S.K.map bY)),x2,x3,x4,x5,x6,x7,some (.ref 0),some (.int m),Uq,Ur,Us],[⟨.lst,as.map .str⟩]⟩=some (.ok .nx,⟨[x0,some (.lst (S.K.map bY)),x2,x3,x4,x5,x6,x7,some (.ref 0),some (.int m'),Vo,Vp,Vq],[⟨.lst,(as++bs).map .str⟩]⟩)
 | [],as,m,Uq,Ur,Us,_=>.inr ⟨[],m,Uq,Ur,Us,rfl,(λz h=>nomatch h),by rw[eZ];rfl⟩
 | p::ps,as,m,Uq,Ur,Us,hl=>by
  simp only[br]at hl;have kl:=hS.l;have e2:=λρ v=>@vk ρ (as.map .str) v (by rw[ah];lia)
  have e3:(S.K.map bY).length<=4000000:=by rw[ah];lia
  rw[aA];cases he:(eO S.K p.2).isEmpty with
  | true =>
   refine .inl (Up ?_);unfold eO at he;simp only[↓kB,e3,q8,lD,he];exact⟨_,rfl⟩
  | false =>
   obtain⟨q,hq,h0,hp⟩:=Af (eO S.K p.2) m he;have m1:=λh=>gO (h:=h) (i:=m) h0
   unfold eO at he hp m1;rcases tj c hS (x0:=x0) (x2:=x2) (x3:=x3) (x4:=x4) (x5:=x5) (x6:=x6) (x7:=x7) ps (as++[q.1]) (m/8) (some (.str p.1)) (some (cA p.2)) (some (.lst ((eO S.K p.2).map λq=>.str q.1))) (by simp;lia)with⟨st,h⟩ | ⟨bs,m',Vo,Vp,Vq,b1,b2,b3⟩
   ·unfold eO at h;simp only[bz,aA,bL]at h;refine .inl ⟨st,du ?_⟩;simp only[↓kB,e2,e3,q8,lD,he,bR,m1,hp,h]
   ·unfold eO at b3;simp only[bz,aA,bL]at b3;refine .inr ⟨q.1::bs,m',Vo,Vp,Vq,by simp[b1],λz hz=>?_,du ?_⟩
    ·rw[List.zip_cons_cons]at hz;rcases aF.mp hz with rfl | hz
     ·exact qx hS hq
     ·exact b2 z hz
    ·simp only[↓kB,e2,e3,q8,lD,he,bR,m1,hp,b3,bz,aA,gR,yl,dS,bL]
end bZ
set_option maxHeartbeats 0
namespace bZ
open PySem L2 L2.U
structure P0 (Hs:List Hd) (H:Hd) (n:Nat) (S:Sc):Prop where
 K:S.K=H.ps++H.ls
 res:S.res=H.res
 size:S.size=n
 heads:∀G∈Hs,∃q l r,gv [.inr G.nm] S.hk=true/\da [.inr G.nm] S.hk S.hv=some (.ag [q,.ag (G.ps.map bY),fG G.res,l,r])
def Yj:Option Rw->PV
 | none=>.aK
 | some r=>bJ r
theorem HH{r:q0}(h:K4 r=none):r=.aK:=by cases r<;>first | rfl | cases h
theorem xw{r:q0}{d:Kn}(h:K4 r=some d):kY (fG r)=false:=by
 cases r with
 | aK=>cases h
 | own s'=>cases s'<;>rfl
 | m5 _ _ _=>rfl
theorem Ma{S:Sc}{x:Str}{r:q0}{d:Kn}(h:K4 r=some d)(hx:cx S.K x=some d):q9 S x r:=by
 cases r with
 | aK=>cases h
 | own s'=>cases h;exact hx
 | m5 _ _ _=>cases h;exact hx
theorem P1(k:Nat){Hs:List Hd}{H:Hd}{n:Nat}{S:Sc}(hS:vq S)(hM:P0 Hs H n S)(h0:0<Hs.length)(hp:∀G∈Hs,G.ps.length<=4)(C:Int):∃(o:Option Rw) (h':List aj),(∀r,o=some r->cB S r)/\run aG (k+2) "_law_call" [.lst (Hs.map fV),.lst (S.K.map bY),.int C] []=some (.ok (Yj o),h'):=by
 obtain⟨G,hG,pG⟩:=pick fV Hs (C*48271%2147483647) h0;have m0:=λh=>gO (h:=h) (i:=C*48271%2147483647) (show(0:Int)<(Hs.length:Nat) by lia)
 have gp:=hp G hG;have kl:=hS.l;have e3:(S.K.map bY).length<=4000000:=by rw[ah];lia
 obtain⟨q,l,r,g1,g2⟩:=hM.heads G hG;rw[Dc];rcases tj (run aG (k+1)) hS (x0:=some (.lst (Hs.map fV))) (x2:=some (.int C)) (x3:=some (.lst [.int (C*48271%2147483647),.int (C*69621%2147483629),.int (C*16807%2147483587),.int (C*39373%2147483579)])) (x4:=some (.str G.nm)) (x5:=some (.lst (G.ps.map bY))) (x6:=some (fG G.res)) (x7:=some (.lst (G.ls.map bY))) G.ps [] (C*69621%2147483629) none none none (by simp;lia)with⟨st,h⟩ | ⟨bs,m',Vo,Vp,Vq,b1,b2,b3⟩
 ·delta jj kx at h
  rw[bL]at h;refine⟨none,st.h,(λr h=>by cases h),?_⟩
  simp only[↓aR,bX,bR,m0,pG,h];rfl
 ·delta jj kx at b3
  rw[bL,dS]at b3;cases hb:K4 G.res with
  | none =>
   have hr:=HH hb;rw[hr,show fG .aK=PV.aK from rfl]at b3
   refine⟨some (.call "" G.nm bs),[⟨.lst,bs.map .str⟩],(λr' h=>by cases h;exact⟨G.ps,G.res,q,l,r,g1,g2,b1,by lia,b2,by rw[hr];rfl⟩),?_⟩
   have pG:∀h,dI h (.lst (Hs.map fV)) (.int (C*48271%2147483647%(Hs.length:Int)))=some (.ag [.str G.nm,.lst (G.ps.map bY),.aK,.lst (G.ls.map bY)]):=λh=>by rw[pG];unfold fV;rw[hr];rfl
   simp only[↓aR,bX,bR,m0,pG,b3];rfl
  | some d =>
   have e4:=zZ k G.res hb;have e5:=xw hb;cases he:(eO S.K d).isEmpty with
   | true =>
    refine⟨none,[⟨.lst,bs.map .str⟩],(λr h=>by cases h),?_⟩
    unfold eO at he;simp only[↓aR,bX,bR,m0,pG,b3,e3,e4,e5,q8,lD,he,aD,sU];rfl
   | false =>
    obtain⟨z,hz,z0,zp⟩:=Af (eO S.K d) (C*16807%2147483587) he;have m1:=λh=>gO (h:=h) (i:=C*16807%2147483587) z0
    refine⟨some (.call z.1 G.nm bs),[⟨.lst,bs.map .str⟩],(λr' h=>by cases h;exact⟨G.ps,G.res,q,l,r,g1,g2,b1,by lia,b2,Ma hb (qx hS hz)⟩),?_⟩
    unfold eO at he zp m1;simp only[↓aR,bX,bR,m0,pG,b3,e3,e4,e5,q8,lD,he,m1,zp,aD,sU];rfl
theorem Ut{a b:List Ky}{h:List aj}(hl:a.length+b.length<=1000):kT h (.lst (a.map bY)) (.lst (b.map bY))=some (.lst ((a++b).map bY)):=by
 show U.sizeOk _ _=_;unfold U.sizeOk;rw[if_pos (show _<=gY from(by rw[ah,ah];exact aM hl (by decide))),bz]
theorem HI(k:Nat){xs:List Str}{Hs:List Hd}{H:Hd}{i n:Nat}{S:Sc}(hS:vq S)(hM:P0 Hs H n S)(hH:dZ xs i H)(C:Int):∃x:Str,cB S (.eM x)/\run aG (k+2) "_law_give" [fV H,.int C] []=some (.ok (bJ (.eM x)),[]):=by
 have h1:=hH.p;have h2:=hH.l;rw[Dd];cases hb:K4 H.res with
 | none =>
  have hr:=HH hb;refine⟨"",by show q9 S "" S.res;rw[hM.res,hr];rfl,?_⟩
  simp only[↓aR,fV,hr,fG];rfl
 | some d =>
  have e1:=λh=>Ut (a:=H.ps) (b:=H.ls) (h:=h) (by lia)
  have e3:((H.ps++H.ls).map bY).length<=4000000:=by rw[ah,bC];lia
  have e4:=zZ k H.res hb;have e5:=xw hb;have he:(eO S.K d).isEmpty=false:=by
   obtain⟨q,h1,h2⟩:=hH.bk d hb;have:q∈eO S.K d:=cq.mpr ⟨by rw[hM.K];exact bK.mpr (.inr h1),by simp[h2]⟩
   cases hw:eO S.K d with
   | nil=>rw[hw]at this;cases this
   | cons=>rfl
  obtain⟨z,hz,z0,zp⟩:=Af (eO S.K d) C he;have m1:=λh=>gO (h:=h) (i:=C) z0
  refine⟨z.1,by show q9 S z.1 S.res;rw[hM.res];exact Ma hb (qx hS hz),?_⟩
  unfold eO at zp m1;rw[hM.K]at zp m1;simp only[↓aR,fV,e1,e3,e4,e5,q8,bR,m1,zp];rfl
end bZ
set_option maxHeartbeats 0
namespace bZ
open PySem L2 L2.U
theorem toT_op{h:List aj}{n:Nat}(o:Op):∃t,toT h (n+3) (qF o)=some t:=by
 cases o with
 | n i=>exact⟨_,rfl⟩
 | s s=>exact toT_sp s
theorem Uu(r:Rw):PU (bJ r):=λh=>by
 cases r with
 | put s o =>
  obtain⟨t,ht⟩:=toT_sp (h:=h) (n:=995) s;obtain⟨u,hu⟩:=toT_op (h:=h) (n:=995) o;exact⟨.ag [.str "put",t,u],by show((aT (toT h 998) [.str "put",fH s,qF o]).bind (qD .ag))=_;simp only[aT,ht,hu];rfl⟩
 | set s g a b =>
  obtain⟨t,ht⟩:=toT_sp (h:=h) (n:=995) s;obtain⟨u,hu⟩:=toT_op (h:=h) (n:=995) a;obtain⟨v,hv⟩:=toT_op (h:=h) (n:=995) b;exact⟨.ag [.str "set",t,.str g,u,v],by show((aT (toT h 998) [.str "set",fH s,.str g,qF a,qF b]).bind (qD .ag))=_;simp only[aT,ht,hu,hv];rfl⟩
 | fill s o =>
  obtain⟨t,ht⟩:=toT_sp (h:=h) (n:=995) s;obtain⟨u,hu⟩:=toT_op (h:=h) (n:=995) o;exact⟨.ag [.str "fill",t,u],by show((aT (toT h 998) [.str "fill",fH s,qF o]).bind (qD .ag))=_;simp only[aT,ht,hu];rfl⟩
 | qm t s =>
  obtain⟨u,hu⟩:=toT_sp (h:=h) (n:=995) t;obtain⟨v,hv⟩:=toT_sp (h:=h) (n:=995) s;exact⟨.ag [.str "copy",u,v],by show((aT (toT h 998) [.str "copy",fH t,fH s]).bind (qD .ag))=_;simp only[aT,hu,hv];rfl⟩
 | qo t s =>
  obtain⟨u,hu⟩:=toT_sp (h:=h) (n:=995) t;obtain⟨v,hv⟩:=toT_sp (h:=h) (n:=995) s;exact⟨.ag [.str "move",u,v],by show((aT (toT h 998) [.str "move",fH t,fH s]).bind (qD .ag))=_;simp only[aT,hu,hv];rfl⟩
 | drop s =>
  obtain⟨v,hv⟩:=toT_sp (h:=h) (n:=995) s;exact⟨.ag [.str "drop",v],by show((aT (toT h 998) [.str "drop",fH s]).bind (qD .ag))=_;simp only[aT,hv];rfl⟩
 | ig w x s =>
  obtain⟨v,hv⟩:=toT_sp (h:=h) (n:=995) s;exact⟨.ag [.str (Vi w),.str x,v],by show((aT (toT h 998) [.str (Vi w),.str x,fH s]).bind (qD .ag))=_;simp only[aT,hv];rfl⟩
 | call x f as =>
  have hv:toT h 998 (.ag (as.map .str))=some (.ag (as.map .str)):=by
   show((aT (toT h 997) (as.map .str)).bind (qD .ag))=_;rw[toT_strs];rfl
  exact⟨.ag [.str "call",.str x,.str f,.ag (as.map .str)],by show((aT (toT h 998) [.str "call",.str x,.str f,.ag (as.map .str)]).bind (qD .ag))=_;simp only[aT,hv];rfl⟩
 | G7 a b to =>
  obtain⟨u,hu⟩:=toT_op (h:=h) (n:=995) a;obtain⟨v,hv⟩:=toT_op (h:=h) (n:=995) b;exact⟨.ag [.str "if",u,v,.int to],by show((aT (toT h 998) [.str "if",qF a,qF b,.int to]).bind (qD .ag))=_;simp only[aT,hu,hv];rfl⟩
 | go to=>exact⟨_,rfl⟩
 | G8 o =>
  obtain⟨u,hu⟩:=toT_op (h:=h) (n:=995) o;exact⟨.ag [.str "say",u],by show((aT (toT h 998) [.str "say",qF o]).bind (qD .ag))=_;simp only[aT,hu];rfl⟩
 | eM x=>exact⟨_,rfl⟩
theorem ZJ{h:List aj}{R:List Rw}:JD h (.lst (R.map bJ)) (.lst [])=some (.bl (!R.isEmpty)):=by
 obtain⟨ts,e⟩:=Yi Uu h R;rw[Ac e,oo]
theorem rw_isNon(r:Rw):kY (bJ r)=false:=by cases r<;>rfl
theorem Uv(k:Nat){Hs:List Hd}{H:Hd}{n:Nat}{S:Sc}(hS:vq S)(hM:P0 Hs H n S)(h0:0<Hs.length)(hp:∀G∈Hs,G.ps.length<=4)(hl:H.ps.length+H.ls.length<=12)(C:Int)(j:Nat)(hj:j+1<n):∃r:Rw,cB S r/\run aG (k+13) "_law_row" [.lst (Hs.map fV),fV H,.int C,.int (j:Int),.int (n:Int)] []=some (.ok (bJ r),[]):=by
 have e1:∀h,kT h (.lst (H.ps.map bY)) (.lst (H.ls.map bY))=some (.lst (S.K.map bY)):=λh=>by rw[hM.K];exact Ut (by lia)
 have hn:=hM.size;have go:∃r:Rw,cB S r/\PV.ag [.str "go",.int ((j:Int)+1)]=bJ r:=⟨.go ((j:Int)+1),⟨by lia,by rw[hn];lia⟩,rfl⟩
 rw[G0];by_cases c1:C%16=15
 ·obtain⟨o,h',o1,o2⟩:=P1 (k+10) hS hM h0 hp (C/16);cases o with
  | none =>
   obtain⟨r,r1,r2⟩:=go;refine⟨r,r1,?_⟩;rw[show Yj none=PV.aK from rfl]at o2
   have fz:hV h' .aK=some .aK:=hW rfl;simp only[↓aR,fV,e1,bX,cF,c1,o2,fz,r2]
  | some r =>
   refine⟨r,o1 r rfl,?_⟩;rw[show Yj (some r)=bJ r from rfl]at o2
   have fz:hV h' (bJ r)=some (bJ r):=hW (Bv r);simp only[↓aR,fV,e1,bX,cF,c1,o2,fz,rw_isNon]
 have N3:(C%16==15)=false:=by simpa using c1
 by_cases c2:C%16<8
 ·obtain⟨R,t1,t2⟩:=HG (k+1) hS C (C*48271%2147483647);cases he:R.isEmpty with
  | true =>
   obtain⟨r,r1,r2⟩:=go;refine⟨r,r1,?_⟩;simp only[↓aR,fV,e1,bX,cF,N3,aP c2,t2,ZJ,he,r2]
  | false =>
   obtain⟨r,hr,rp⟩:=pick bJ R (C*69621%2147483629) (by cases R with | nil=>cases he | cons=>simp)
   have m1:=λh=>gO (h:=h) (i:=C*69621%2147483629) (show(0:Int)<(R.length:Nat) by have:=eU hr;lia)
   refine⟨r,t1 r hr,?_⟩;simp only[↓aR,fV,e1,bX,cF,N3,aP c2,t2,ZJ,he,bR,m1,rp,rw_isNon]
 ·obtain⟨r,t1,t2⟩:=xu k hS C (by rw[hn];lia)
  rw[hn]at t2;refine⟨r,t1,?_⟩;simp only[↓aR,fV,e1,bX,cF,N3,aV c2,t2,rw_isNon]
end bZ
set_option maxHeartbeats 0
namespace bZ
open PySem L2 L2.U
theorem DD{i m n:Nat}(hm:1<=m)(h:n+m<=200):(U.mE i m n).length<=200:=by
 unfold U.mE sliceRange;rw[ah,gm];have e:sliceBounds (some (i:Int)) none (some (m:Int)) n=(max 0 (min (i:Int) n),(n:Int),(m:Int)):=by
  unfold sliceBounds;simp only[yr,if_pos (show(m:Int)>0 by lia),if_neg (show ¬(i:Int)<0 by lia)]
 rw[e];simp only;rw[if_pos (by lia)]
 split
 ·have:=Int.ediv_le_self (a:=(n:Int)-max 0 (min (i:Int) n)+m-1) (m:Int) (by lia)
  lia
 ·simp
theorem HJ{α β:Type}(f:α->β)(a m:Int)(ps:List α):iq a m (ps.map f)=(iq a m ps).map f:=by
 unfold iq;rw[ah,List.map_filterMap];refine fj (λg=>List.filterMap g _) (funext λj=>?_)
 rw[aX]
theorem HK{i m:Nat}{cs:List Int}(hm:1<=m)(h:cs.length+m<=200):NO (.lst (cs.map .int)) (some (i:Int)) (some (m:Int))=some (.lst ((iq (i:Int) (m:Int) cs).map .int)):=by
 show(if((m:Int) != 0&&decide ((U.mE (i:Int) (m:Int) (cs.map PV.int).length).length<=gY))=true then some (PV.lst (iq (i:Int) (m:Int) (cs.map PV.int)))else none)=_
 rw[if_pos,HJ];rw[ah,aC];exact⟨by simp;lia,aP (aM (DD hm h) (by decide))⟩
def sg(Hs:List Hd)(H:Hd)(n:Nat):Sc:=⟨H.ps++H.ls,H.res,n,Hs.map λG=>[.inr G.nm],Hs.map λG=>.ag [.str G.nm,.ag (G.ps.map bY),fG G.res,.aK,.aK]⟩
theorem vx{α:Type}(nm:α->Str)(v:α->PV):∀{l:List α} {x:α},(l.map nm).Nodup->x∈l->gv [.inr (nm x)] (l.map λy=>[.inr (nm y)])=true/\da [.inr (nm x)] (l.map λy=>[.inr (nm y)]) (l.map v)=some (v x)
 | y::l,x,hd,h=>by
  rw[aA,dR]at hd;rcases aF.mp h with rfl | h
  ·refine⟨?_,?_⟩
   ·show(decide ([(Sum.inr (nm x):cC)]=[Sum.inr (nm x)]) || _)=true;rw[aP rfl];rfl
   ·show(if [(Sum.inr (nm x):cC)]=[Sum.inr (nm x)]then _ else _)=_
    rw[if_pos rfl]
  ·have hne:nm y≠nm x:=λz=>hd.1 (by rw[z];exact iI h)
   obtain⟨h1,h2⟩:=vx nm v hd.2 h;refine⟨?_,?_⟩
   ·show(decide ([(Sum.inr (nm y):cC)]=[Sum.inr (nm x)]) || gv _ (l.map _))=true;rw[h1,Bool.or_true]
   ·show(if [(Sum.inr (nm y):cC)]=[Sum.inr (nm x)]then _ else da _ (l.map _) (l.map v))=_
    rw[if_neg (by simpa using hne),h2]
theorem Mb{Hs:List Hd}{H:Hd}{n:Nat}(hd:(Hs.map (·.nm)).Nodup):P0 Hs H n (sg Hs H n) where
 K:=rfl
 res:=rfl
 size:=rfl
 heads:=λG hG=>by
  obtain⟨h1,h2⟩:=vx (λG:Hd=>G.nm) (λG=>.ag [.str G.nm,.ag (G.ps.map bY),fG G.res,.aK,.aK]) hd hG
  exact⟨_,_,_,h1,h2⟩
theorem Uw{xs:List Str}(hx:xs.length=16)(jA:xs.Nodup){Hs:List Hd}{H:Hd}{i n:Nat}(hH:dZ xs i H):vq (sg Hs H n) where
 nd:=by
  obtain⟨m,e⟩:=hH.nn;show((H.ps++H.ls).map (·.1)).Nodup;rw[e];exact jA.sublist (oi _ _)
 nu:=by
  obtain⟨q,h1,h2⟩:=hH.nu;exact⟨q,bK.mpr (.inr h1),h2⟩
 l:=by
  have:=hH.p;have:=hH.l;show(H.ps++H.ls).length<=12;rw[bC]
  lia
theorem BE(H:Hd):noRef (fV H)=true:=by simp[fV,noRef,aD,Hy,sU]
theorem P2(Hs:List Hd):aD (Hs.map fV)=true:=cS BE Hs
theorem jD(k:Nat){xs:List Str}{Hs:List Hd}{H:Hd}{i n:Nat}{S:Sc}(hS:vq S)(hM:P0 Hs H n S)(hH:dZ xs i H)(h0:0<Hs.length)(hp:∀G∈Hs,G.ps.length<=4){x1 x2:Option PV}{all:List Int}(vW:((all.length:Nat):Int)+1=(n:Int)):∀(ds:List Int) (R:List Rw) (x6:Option PV),R.length+ds.length+1=n->R.length+ds.length<=1000->(∀r∈R,cB S r)->∃(R':List Rw) (qG:Option PV),R'.length=R.length+ds.length/\(∀r∈R',cB S r)/\ef (cO 6) (dt (run aG (k+13))) (ds.map .int) ⟨[some (.lst (Hs.map fV)),x1,x2,some (fV H),some (.lst (all.map .int)),some (.ref 0),x6],[⟨.lst,R.map bJ⟩]⟩=some (.ok .nx,⟨[some (.lst (Hs.map fV)),x1,x2,some (fV H),some (.lst (all.map .int)),some (.ref 0),qG],[⟨.lst,R'.map bJ⟩]⟩)
 | [],R,x6,_,_,hR=>⟨R,x6,rfl,hR,rfl⟩
 | C::ds,R,x6,hl,hb,hR=>by
  simp only[br]at hl hb;have e2:=λρ v=>@vk ρ (R.map bJ) v (by rw[ah];lia)
  have h1:=hH.p;have h2:=hH.l;have iS:∀r,cB S r->(∀qG R',ef (cO 6) (dt (run aG (k+13))) (ds.map .int) ⟨[some (.lst (Hs.map fV)),x1,x2,some (fV H),some (.lst (all.map .int)),some (.ref 0),some (.int C)],[⟨.lst,R.map bJ++[bJ r]⟩]⟩=some (.ok .nx,⟨[some (.lst (Hs.map fV)),x1,x2,some (fV H),some (.lst (all.map .int)),some (.ref 0),qG],[⟨.lst,R'⟩]⟩)->ef (cO 6) (dt (run aG (k+13))) ((C::ds).map .int) ⟨[some (.lst (Hs.map fV)),x1,x2,some (fV H),some (.lst (all.map .int)),some (.ref 0),x6],[⟨.lst,R.map bJ⟩]⟩=some (.ok .nx,⟨[some (.lst (Hs.map fV)),x1,x2,some (fV H),some (.lst (all.map .int)),some (.ref 0),qG],[⟨.lst,R'⟩]⟩))->∃(R':List Rw) (qG:Option PV),R'.length=R.length+(C::ds).length/\(∀r∈R',cB S r)/\ef (cO 6) (dt (run aG (k+13))) ((C::ds).map .int) ⟨[some (.lst (Hs.map fV)),x1,x2,some (fV H),some (.lst (all.map .int)),some (.ref 0),x6],[⟨.lst,R.map bJ⟩]⟩=some (.ok .nx,⟨[some (.lst (Hs.map fV)),x1,x2,some (fV H),some (.lst (all.map .int)),some (.ref 0),qG],[⟨.lst,R'.map bJ⟩]⟩):=λr hr step=>by
   obtain⟨R',y6,b1,b2,b3⟩:=jD k hS hM hH h0 hp (x1:=x1) (x2:=x2) vW ds (R++[r]) (some (.int C)) (by simp;lia) (by simp;lia) (λr' h=>by rcases bK.mp h with h | h;exact hR r' h;rw[bc.mp h];exact hr)
   refine⟨R',y6,by simp at b1 ⊢;lia,b2,step y6 _ ?_⟩
   simpa using b3
  by_cases c1:C%32=31
  ·obtain⟨x,g1,g2⟩:=HI (k+11) hS hM hH (C/32);refine iS (.eM x) g1 λqG R' h=>?_
   rw[aA];refine du ?_;simp only[↓kB,cF,c1,e2,g2,h,aD,noRef,BE]
  ·obtain⟨r,g1,g2⟩:=Uv k hS hM h0 hp (by lia) C R.length (by lia)
   refine iS r g1 λqG R' h=>?_
   rw[aA];refine du ?_;simp only[↓kB,cF,show(C%32==31)=false by simpa using c1,e2,g2,h,bR,ah,vW,aD,noRef,BE,P2]
end bZ
set_option maxHeartbeats 0
namespace bZ
open PySem L2 L2.U
noncomputable def Qw(H:Hd)(R:List Rw):Fd:=⟨H.nm,H.ps,H.res,H.ls,R⟩
theorem Ag(k:Nat){xs:List Str}(hx:xs.length=16)(jA:xs.Nodup){Hs:List Hd}(h6:Hs.length<=6)(hd:(Hs.map (·.nm)).Nodup)(hp:∀G∈Hs,G.ps.length<=4){H:Hd}{i:Nat}(hi:Hs[i]?=some H)(hH:dZ xs i H){cs:List Int}(hc:cs.length<=63):∃(R:List Rw) (h':List aj),1<=R.length/\R.length<=32/\(∀r∈R,cB (sg Hs H R.length) r)/\(∃x,R.getLast?=some (.eM x))/\run aG (k+14) "_law_function" [.lst (Hs.map fV),.int (i:Int),.lst (cs.map .int)] []=some (.ok (fdP (Qw H R)),h'):=by
 have pU:=(b8.mp hi).1;obtain⟨ds,Lv⟩:∃ds,ds=(iq (i:Int) (Hs.length:Int) cs).take 31:=⟨_,rfl⟩
 have dl:ds.length<=31:=by rw[Lv,cY];lia
 obtain⟨S,Yk⟩:∃S,S=sg Hs H (ds.length+1):=⟨_,rfl⟩
 have hS:vq S:=Yk▸Uw hx jA hH;have hM:P0 Hs H (ds.length+1) S:=Yk▸Mb hd;obtain⟨R,y6,b1,b2,b3⟩:=jD k hS hM hH (by lia) hp (x1:=some (.int i)) (x2:=some (.lst (cs.map .int))) (all:=ds) (by lia) ds [] none (by simp) (by simp;lia) (λr h=>by cases h)
 obtain⟨x,g1,g2⟩:=HI (k+11) hS hM hH (cs.length:Int);have e1:∀h,dI h (.lst (Hs.map fV)) (.int (i:Int))=some (fV H):=λh=>atI_nat (by rw[aX,hi];rfl)
 have e2:=HK (i:=i) (m:=Hs.length) (cs:=cs) (by lia) (by lia)
 have e3:∀h,rP h none (some 31) (.lst ((iq (i:Int) (Hs.length:Int) cs).map .int))=some (.lst (ds.map .int)):=λh=>by
  show some (PV.lst (ej _ none (some ((31:Nat):Int))))=_;rw[mv,<-jR,Lv]
 have e4:=λρ v=>@vk ρ (R.map bJ) v (by rw[ah];simp at b1;lia)
 have ll:R.length=ds.length:=by simpa using b1
 refine⟨R++[.eM x],[⟨.lst,(R++[Rw.eM x]).map bJ⟩],by simp,by simp;lia,λr hr=>?_,⟨x,by simp⟩,?_⟩
 ·rw[bC,show [Rw.eM x].length=1 from rfl,ll,<-Yk]
  rcases bK.mp hr with hr | hr
  ·exact b2 r hr
  ·rw[bc.mp hr];exact g1
 delta dt kx at b3
 rw[bL]at b3;rw[qX];simp only[↓aR,e1,e2,e3,e4,bR,b3,g2,aD,noRef,BE];simp only[fdP,Qw,bz,aA,bL]
theorem Ah{a:List PV}{p:PV}{h:List aj}(hl:a.length<=900):kT h (.ag a) (.ag [p])=some (.ag (a++[p])):=by
 show U.sizeOk _ _=_;unfold U.sizeOk;rw[if_pos (show _<=gY from(by show a.length+1<=_;exact aM (Nat.succ_le_succ hl) (by decide)))]
theorem jr{α:Type}{f:α->PV}{L:List α}{h:List aj}:jW h [.ag (L.map f)]=some (.int (L.length:Nat)):=by
 show some (PV.int (((L.map f).length:Nat):Int))=_;rw[ah]
def ZK:Rw->Str
 | .put _ _=>"put"
 | .set _ _ _ _=>"set"
 | .fill _ _=>"fill"
 | .qm _ _=>"copy"
 | .qo _ _=>"move"
 | .drop _=>"drop"
 | .ig w _ _=>Vi w
 | .call _ _ _=>"call"
 | .G7 _ _ _=>"if"
 | .go _=>"go"
 | .G8 _=>"say"
 | .eM _=>"give"
noncomputable def P4:Rw->Bool
 | .call _ _ _=>true
 | _=>false
theorem Ux{h:List aj}{r:Rw}:dI h (bJ r) (.int 0)=some (.str (ZK r)):=by cases r<;>rfl
theorem rw_tr{S T:Sc}{r:Rw}(hK:T.K=S.K)(hr:T.res=S.res)(hs:S.size<=T.size)(h:cB S r)(hh:P4 r=true->∀(f:Str) (ps:List Ky) (res:q0) (q l s:PV),da [.inr f] S.hk S.hv=some (.ag [q,.ag (ps.map bY),fG res,l,s])->∃q l s,gv [.inr f] T.hk=true/\da [.inr f] T.hk T.hv=some (.ag [q,.ag (ps.map bY),fG res,l,s])):cB T r:=by
 have at_:∀{i a},KQ S i a->KQ T i a:=λ{i a} h=>by
  cases a with
  | aK=>trivial
  | num j=>exact h
  | Ub y=>obtain⟨n,e,h⟩:=h;exact⟨n,e,by rw[hK];exact h⟩
 have sp:∀{s d i},eu S s d i->eu T s d i:=λh=>⟨by rw[hK];exact h.k,h.t,h.p,at_ h.a⟩
 have op:∀{o},jz S o->jz T o:=λ{o} h=>by
  cases o with
  | n i=>exact h
  | s s=>obtain⟨d,i,h1,h2⟩:=h;exact⟨d,i,sp h1,h2⟩
 have jo:∀{to},Uc S to->Uc T to:=λh=>by exact⟨h.1,by have:=h.2;lia⟩
 have tb:∀{x res},q9 S x res->q9 T x res:=λ{x res} h=>by cases res<;>(unfold q9 at *;first | exact h | (rw[hK];exact h))
 cases r with
 | put s o=>obtain⟨⟨d,i,h1,h2⟩,h3⟩:=h;exact⟨⟨d,i,sp h1,h2⟩,op h3⟩
 | set s g a b=>obtain⟨⟨d,i,h1,h2⟩,h3,h4,h5⟩:=h;exact⟨⟨d,i,sp h1,h2⟩,h3,op h4,op h5⟩
 | fill s o=>obtain⟨⟨d,i,h1,h2⟩,h3⟩:=h;exact⟨⟨d,i,sp h1,h2⟩,op h3⟩
 | qm t s=>obtain⟨d,e,i,h1,h2,h3,h4,h5⟩:=h;exact⟨d,e,i,sp h1,h2,h3,sp h4,h5⟩
 | qo t s=>obtain⟨d,e,i,h1,h2,h3,h4,h5⟩:=h;exact⟨d,e,i,sp h1,h2,h3,sp h4,h5⟩
 | drop s=>obtain⟨d,i,h1,h2⟩:=h;exact⟨d,i,sp h1,h2⟩
 | ig w x s=>obtain⟨d,i,h1,h2,h3,h4⟩:=h;exact⟨d,i,sp h1,h2,h3,by rw[hK];exact h4⟩
 | call x f as =>
  obtain⟨ps,res,q,l,r,h1,h2,h3,h4,h5,h6⟩:=h;obtain⟨q',l',r',g1,g2⟩:=hh rfl f ps res q l r h2;exact⟨ps,res,q',l',r',g1,g2,h3,h4,λz hz=>by rw[hK];exact h5 z hz,tb h6⟩
 | G7 a b to=>exact⟨op h.1,op h.2.1,jo h.2.2⟩
 | go to=>exact jo h
 | G8 o=>exact op h
 | eM x=>show q9 T x T.res;rw[hr];exact tb h
end bZ
set_option maxHeartbeats 0
namespace bZ
open PySem L2 L2.U
structure Uy (xs:List Str) (Hs:List Hd) (P:List Fd):Prop where
 l:P.length=Hs.length
 a:∀(i:Nat) (F:Fd),P[i]?=some F->∃H,Hs[i]?=some H/\F=Qw H F.rw/\1<=F.rw.length/\F.rw.length<=32/\∀r∈F.rw,cB (sg Hs H F.rw.length) r
theorem qy{xs:List Str}(hx:xs.length=16)(jA:xs.Nodup){Hs:List Hd}(h6:Hs.length<=6)(hh:∀i H,Hs[i]?=some H->dZ xs i H):(Hs.map (·.nm)).Nodup:=by
 unfold List.Nodup;rw[yg,List.pairwise_iff_getElem];intro i j hi hj hij e;have h1:Hs[i]?=some Hs[i]:=bB hi;have h2:Hs[j]?=some Hs[j]:=bB hj;have n1:=(hh i _ h1).nm;have n2:=(hh j _ h2).nm;rw[e,<-n2]at n1;have:=(yf (by lia) jA).mp n1
 lia
theorem Ai{α:Type}(nm:α->Str)(v:α->PV){f:Str}{w:PV}:∀{l:List α},da [.inr f] (l.map λy=>[.inr (nm y)]) (l.map v)=some w->∃x∈l,nm x=f/\v x=w
 | [],h=>by cases h
 | y::l,h=>by
  have h:(if [(Sum.inr (nm y):cC)]=[Sum.inr f]then some (v y)else da [.inr f] (l.map λy=>[.inr (nm y)]) (l.map v))=some w:=h
  by_cases e:nm y=f
  ·rw[if_pos (by rw[e])]at h
   exact⟨y,cz,e,bI h⟩
  ·rw[if_neg (by simpa using e)]at h
   obtain⟨x,h1,h2⟩:=Ai nm v h;exact⟨x,b9 _ h1,h2⟩
theorem La{xs:List Str}(jA:xs.Nodup)(hn:∀x∈xs,cE x){i:Nat}{H:Hd}(h:dZ xs i H){R:List Rw}(h1:1<=R.length)(h2:R.length<=32):gB (Qw H R) where
 p:=h.p
 l:=h.l
 n:=λq hq=>by
  obtain⟨m,e⟩:=h.nn;exact hn _ ((oi m xs).subset (e▸iI (f:=(·.1)) hq))
 d:=by
  obtain⟨m,e⟩:=h.nn;show((H.ps++H.ls).map (·.1)).Nodup;rw[e];exact jA.sublist (oi _ _)
 r:=h.r
 w:=h1
 x:=h2
section
variable {xs:List Str} (hx:xs.length=16) (jA:xs.Nodup) (hn:∀x∈xs,cE x) {Hs:List Hd} (h6:Hs.length<=6) (hh:∀i H,Hs[i]?=some H->dZ xs i H) {P:List Fd} (hP:Uy xs Hs P)
include hx jA hn h6 hh hP
theorem HL:P.map (·.nm)=Hs.map (·.nm):=by
 refine List.ext_getElem? λi=>?_
 rw[aX,aX];cases h:P[i]? with
 | none =>
  have:=fJ.mp h;rw[nU (by rw[<-hP.l];exact this)]
  rfl
 | some F =>
  obtain⟨H,e,e2,_⟩:=hP.a i F h;rw[e,e2];rfl
theorem HM(Q:List Fd)(hQ:∀F∈Q,F∈P):(∀F∈Q,gB F)/\∀F∈Q,cE F.nm:=by
 have:∀F∈Q,gB F/\cE F.nm:=λF hF=>by
  obtain⟨i,hi⟩:=nW (hQ F hF);obtain⟨H,e,e2,h1,h2,_⟩:=hP.a i F hi;have hO:=hh i H e;refine⟨e2▸La jA hn hO h1 h2,?_⟩;rw[e2];exact hn _ (eV hO.nm)
 exact⟨λF h=>(this F h).1,λF h=>(this F h).2⟩
theorem BF(h1:1<=Hs.length):Hw P where
 l:=by rw[hP.l];exact h1
 m:=by rw[hP.l];exact h6
 h:=(HM hx jA hn h6 hh hP P λF h=>h).1
 n:=(HM hx jA hn h6 hh hP P λF h=>h).2
 d:=by rw[HL hx jA hn h6 hh hP];exact qy hx jA h6 hh
 f:=λF hF=>by
  obtain⟨H,e,e2,_⟩:=hP.a 0 F hF;have:=(hh 0 H e).z rfl;rw[e2];exact this
 o:=λF hF=>by
  obtain⟨i,hi⟩:=nW hF;obtain⟨H,e,e2,_⟩:=hP.a i F hi;obtain⟨q,hq,_⟩:=(hh i H e).nu;rw[e2];intro z;have z:H.ls=[]:=z;rw[z]at hq;cases hq
 r:=λF hF=>by
  obtain⟨i,hi⟩:=nW hF;obtain⟨H,e,e2,h1,h2,h3⟩:=hP.a i F hi;have eK:F.ps=H.ps/\F.ls=H.ls/\F.res=H.res:=by rw[e2];exact⟨rfl,rfl,rfl⟩
  have hd:(P.map (·.nm)).Nodup:=by rw[HL hx jA hn h6 hh hP];exact qy hx jA h6 hh
  refine λr hr=>rw_tr (S:=sg Hs H F.rw.length) ?_ ?_ (ao _) (h3 r hr) λhcr f ps res q l s hl=>?_
  ·show F.ps++F.ls=H.ps++H.ls;rw[eK.1,eK.2.1]
  ·exact eK.2.2
  ·obtain⟨G,hG,g1,g2⟩:=Ai (λG:Hd=>G.nm) (λG=>.ag [.str G.nm,.ag (G.ps.map bY),fG G.res,.aK,.aK]) hl
   obtain⟨j,hj⟩:=nW hG;have Yd:j<P.length:=by rw[hP.l];exact(b8.mp hj).1
   have ZL:P[j]?=some P[j]:=bB Yd;obtain⟨G',f1,f2,_⟩:=hP.a j _ ZL;rw[hj]at f1;cases f1;obtain⟨d1,d2⟩:=vx (λG:Fd=>G.nm) fdP hd (eV ZL)
   have e3:P[j].nm=f:=by rw[f2];exact g1
   simp only[e3]at d1 d2;refine⟨.str P[j].nm,.ag (P[j].ls.map bY),.ag (P[j].rw.map bJ),d1,d2.trans ?_⟩;simp only[PV.ag,PV.nd.injEq,t6,true_and,and_true]at g2;unfold fdP;rw[show P[j].ps=G.ps by rw[f2];rfl,show P[j].res=G.res by rw[f2];rfl,g2.2.1,g2.2.2.1]
end
instance:Inhabited Fd:=⟨⟨"",[],.aK,[],[]⟩⟩
theorem DE(k:Nat){xs:List Str}(hx:xs.length=16)(jA:xs.Nodup){Hs:List Hd}(h6:Hs.length<=6)(hh:∀i H,Hs[i]?=some H->dZ xs i H){cs:List Int}(hc:cs.length<=63):∃(f:Nat->Fd) (h':Nat->List aj),(∀i,i<Hs.length->run aG (k+14) "_law_function" [.lst (Hs.map fV),.int (i:Int),.lst (cs.map .int)] []=some (.ok (fdP (f i)),h' i))/\Uy xs Hs ((List.range Hs.length).map f)/\∀F∈(List.range Hs.length).map f,vw F=true:=by
 have hd:=qy hx jA h6 hh;have hp:∀G∈Hs,G.ps.length<=4:=λG hG=>by
  obtain⟨i,hi⟩:=nW hG;exact(hh i G hi).p
 obtain⟨φ,Yl⟩:=Hr (α:=Fd×List aj) (P:=λi=>i<Hs.length) (Q:=λi z=>run aG (k+14) "_law_function" [.lst (Hs.map fV),.int (i:Int),.lst (cs.map .int)] []=some (.ok (fdP z.1),z.2)/\∃H,Hs[i]?=some H/\z.1=Qw H z.1.rw/\1<=z.1.rw.length/\z.1.rw.length<=32/\(∀r∈z.1.rw,cB (sg Hs H z.1.rw.length) r)/\vw z.1=true) λi hi=>by
  have Ym:Hs[i]?=some Hs[i]:=bB hi;obtain⟨R,h',r1,r2,r3,⟨x,r4⟩,r5⟩:=Ag k hx jA h6 hd hp Ym (hh i _ Ym) hc;exact⟨(Qw Hs[i] R,h'),r5,Hs[i],Ym,rfl,r1,r2,r3,by show(match R.getLast? with | some r=>ki r | none=>false)=true;rw[r4];rfl⟩
 refine⟨λi=>(φ i).1,λi=>(φ i).2,λi hi=>(Yl i hi).1,⟨by simp,λi F h=>?_⟩,λF hF=>?_⟩
 rotate_left
 ·obtain⟨i,hi,rfl⟩:=bQ.mp hF;obtain⟨_,_,_,_,_,_,_,h⟩:=Yl i (dB.mp hi);exact h
 rw[aX]at h;obtain⟨j,h1,rfl⟩:=gj.mp h;obtain⟨h2,h3⟩:=b8.mp h1;rw[List.getElem_range]at h3;subst h3;rw[gm]at h2;obtain⟨_,H,a1,a2,a3,a4,a5,_⟩:=Yl i h2;exact⟨H,a1,a2,a3,a4,a5⟩
end bZ
set_option maxHeartbeats 0
namespace bZ
open PySem L2 L2.U
theorem xx(X:Array Nat):∀(n:Nat) (A:Array Nat),((List.replicate n X).foldl (· ++ ·) A).size=A.size+n*X.size
 | 0,A=>by simp
 | n+1,A=>by rw[dO,jK,xx X n,Array.size_append,Nat.succ_mul];lia
theorem Lb(n:Int)(h:2<=n):(Txt.mul "a" n).length=n.toNat:=by
 unfold Txt.mul;rw[if_neg (by lia),if_neg]
 ·show((List.replicate n.toNat #[97]).foldl (· ++ ·) #[]).size=_;rw[xx];simp
 ·rw[show(n==1)=false by rw[fK];lia]
  decide
theorem HN{x:Str}(h1:8<x.length)(h2:x.length<=1000):jb x:=λk=>by
 have e4:=λh'=>len_str (h:=h') h2
 rw[mG];simp only[↓aR,e4,aV (show ¬((x.length:Int)<=8) by lia),aP (show(1:Int)<=(x.length:Int) by lia)]
theorem kj(k:Nat)(C:Int):∃x,jb x/\run aG (k+1) "_law_bad_name" [.int C] []=some (.ok (.str x),[]):=by
 have e1:∀h,fY h (.str "a") (.int (9+C/10%40))=some (.str (Txt.mul "a" (9+C/10%40))):=λh=>if_pos ⟨by lia,by lia,by decide,by decide⟩
 have e2:jb (Txt.mul "a" (9+C/10%40)):=by
  have:=Lb (9+C/10%40) (by lia)
  exact HN (by lia) (by lia)
 have hr:C%10=0\/C%10=1\/C%10=2\/C%10=3\/C%10=4\/C%10=5\/C%10=6\/C%10=7\/C%10=8\/C%10=9:=by lia
 rw[qY];rcases hr with hr | hr | hr | hr | hr | hr | hr | hr | hr | hr<;>simp only[↓aR,hr,e1]
 ·exact⟨"",λk=>by kernel_rfl,rfl⟩
 ·exact⟨"abcdefghi",λk=>by kernel_rfl,rfl⟩
 ·exact⟨"Ab",λk=>by kernel_rfl,rfl⟩
 ·exact⟨"aB",λk=>by kernel_rfl,rfl⟩
 ·exact⟨"a1",λk=>by kernel_rfl,rfl⟩
 ·exact⟨"a b",λk=>by kernel_rfl,rfl⟩
 ·exact⟨"-",λk=>by kernel_rfl,rfl⟩
 ·exact⟨"a_",λk=>by kernel_rfl,rfl⟩
 ·exact⟨" a",λk=>by kernel_rfl,rfl⟩
 ·exact⟨_,e2,rfl⟩
structure HP (p:PV):Prop where
 kd:lB p
 sh:∀k,run aG (k+9) "is_shape" [p] []=some (.ok (.bl false),[])
 rs:∀k q,run aG (k+11) "is_result" [p,q] []=some (.ok (.bl false),[])
 nr:noRef p=true
theorem iB{p:PV}(a:∀k,run aG (k+11) "is_kind" [p] []=some (.ok (.bl false),[]))(b:∀k,run aG (k+9) "is_shape" [p] []=some (.ok (.bl false),[]))(c:∀k q,run aG (k+11) "is_result" [p,q] []=some (.ok (.bl false),[]))(d:noRef p=true):HP p:=⟨a,b,c,d⟩
theorem DF{j:Int}(h:9<=j):HP (.ag [.str "strip",.int j]):=by
 have e9:∀k,run aG (k+2) "count_leaves" [.ag [.str "strip",.int j],.int 3] []=some (.ok (.int 0),[]):=λk=>by
  rw[mn];simp only[↓aR,ic,aP (show(1:Int)<=j by lia),aV (show ¬j<=8 by lia)]
 have e0:∀k,run aG (k+9) "is_shape" [.ag [.str "strip",.int j]] []=some (.ok (.bl false),[]):=λk=>by
  rw[uZ];simp only[↓aR,e9]
 have e1:=λk=>bt k [.str "strip",.int j] 2 rfl
 have e2:∀k,run aG (k+10) "is_holder_kind" [.ag [.str "strip",.int j]] []=some (.ok (.bl false),[]):=λk=>by
  rw[dF];simp only[↓aR,e1]
 refine iB (λk=>?_) e0 (λk q=>?_) rfl
 ·rw[mH];simp only[↓aR,e0,e2]
 ·have e3:=λk=>cM k [.str "strip",.int j] 3 3
  have e4:∀k,run aG (k+2) "is_tuple_of" [.ag [.str "strip",.int j],.int 3] []=some (.ok (.bl false),[]):=λk=>by kernel_rfl
  rw[eF];simp only[↓aR,e0,e4]
theorem km(k:Nat)(C:Int):∃p,HP p/\run aG (k+1) "_law_bad_kind" [.int C] []=some (.ok p,[]):=by
 have e3:∀h,yW h (.int 10) (.int 30)=some (.int (10^30)):=λh=>by kernel_rfl
 have e4:∀h,uz h (.int (C/18)) (.int (10^30))=some (.int (C/18%10^30)):=λh=>gO (by decide)
 have e5:∀h,fY h (.ag [pN]) (.int 5)=some (.ag [pN,pN,pN,pN,pN]):=λh=>rfl
 have hp:=dQ (C/18) (show(10^30:Int)≠0 by decide)
 obtain⟨p,bp,e⟩:∃p,HP p/\∀h,dI h (.lst [.ag [.str "strip",.int 0],.ag [.str "strip",.int (9+C/18%10^30)],.ag [.str "rec",.ag []],.ag [.str "lent",.ag [.str "strip",.int 9]],.ag [.str "num",.int 1],.ag [.str "sole",.ag [.str "lent",pN]],.ag [.str "Num"],.ag [.str "both",pN],.ag [.str "rec",.ag [pN,pN,pN,pN,pN]],.ag [.str "lent"],.ag [],.ag [.str "rec",.ag [pT,pT,pT,.ag [.str "rec",.ag [pN,pN,pN]]]],.ag [.str "sole",.ag [.str "rec",.ag [.ag [.str "rec",.ag [.ag [.str "rec",.ag [pT]]]]]]],.ag [.str "lent",.ag [.str "rec",.ag [pN,.ag [.str "lent",pN]]]],.ag [.str "strip",.int (-1)],.ag [.str "own",pN],.ag [.str "rec",.lst [pN]],.ag [.str "strip",.bl true]]) (.int (C%18))=some p:=by
  have hr:C%18=0\/C%18=1\/C%18=2\/C%18=3\/C%18=4\/C%18=5\/C%18=6\/C%18=7\/C%18=8\/C%18=9\/C%18=10\/C%18=11\/C%18=12\/C%18=13\/C%18=14\/C%18=15\/C%18=16\/C%18=17:=by lia
  rcases hr with hr | hr | hr | hr | hr | hr | hr | hr | hr | hr | hr | hr | hr | hr | hr | hr | hr | hr<;>rw[hr]
  ·exact⟨.ag [.str "strip",.int 0],iB (λk=>by kernel_rfl) (λk=>by kernel_rfl) (λk q=>by kernel_rfl) rfl,λ_=>rfl⟩
  ·exact⟨.ag [.str "strip",.int (9+C/18%10^30)],DF (by lia),λ_=>rfl⟩
  ·exact⟨.ag [.str "rec",.ag []],iB (λk=>by kernel_rfl) (λk=>by kernel_rfl) (λk q=>by kernel_rfl) rfl,λ_=>rfl⟩
  ·exact⟨.ag [.str "lent",.ag [.str "strip",.int 9]],iB (λk=>by kernel_rfl) (λk=>by kernel_rfl) (λk q=>by kernel_rfl) rfl,λ_=>rfl⟩
  ·exact⟨.ag [.str "num",.int 1],iB (λk=>by kernel_rfl) (λk=>by kernel_rfl) (λk q=>by kernel_rfl) rfl,λ_=>rfl⟩
  ·exact⟨.ag [.str "sole",.ag [.str "lent",pN]],iB (λk=>by kernel_rfl) (λk=>by kernel_rfl) (λk q=>by kernel_rfl) rfl,λ_=>rfl⟩
  ·exact⟨.ag [.str "Num"],iB (λk=>by kernel_rfl) (λk=>by kernel_rfl) (λk q=>by kernel_rfl) rfl,λ_=>rfl⟩
  ·exact⟨.ag [.str "both",pN],iB (λk=>by kernel_rfl) (λk=>by kernel_rfl) (λk q=>by kernel_rfl) rfl,λ_=>rfl⟩
  ·exact⟨.ag [.str "rec",.ag [pN,pN,pN,pN,pN]],iB (λk=>by kernel_rfl) (λk=>by kernel_rfl) (λk q=>by kernel_rfl) rfl,λ_=>rfl⟩
  ·exact⟨.ag [.str "lent"],iB (λk=>by kernel_rfl) (λk=>by kernel_rfl) (λk q=>by kernel_rfl) rfl,λ_=>rfl⟩
  ·exact⟨.ag [],iB (λk=>by kernel_rfl) (λk=>by kernel_rfl) (λk q=>by kernel_rfl) rfl,λ_=>rfl⟩
  ·exact⟨.ag [.str "rec",.ag [pT,pT,pT,.ag [.str "rec",.ag [pN,pN,pN]]]],iB (λk=>by kernel_rfl) (λk=>by kernel_rfl) (λk q=>by kernel_rfl) rfl,λ_=>rfl⟩
  ·exact⟨.ag [.str "sole",.ag [.str "rec",.ag [.ag [.str "rec",.ag [.ag [.str "rec",.ag [pT]]]]]]],iB (λk=>by kernel_rfl) (λk=>by kernel_rfl) (λk q=>by kernel_rfl) rfl,λ_=>rfl⟩
  ·exact⟨.ag [.str "lent",.ag [.str "rec",.ag [pN,.ag [.str "lent",pN]]]],iB (λk=>by kernel_rfl) (λk=>by kernel_rfl) (λk q=>by kernel_rfl) rfl,λ_=>rfl⟩
  ·exact⟨.ag [.str "strip",.int (-1)],iB (λk=>by kernel_rfl) (λk=>by kernel_rfl) (λk q=>by kernel_rfl) rfl,λ_=>rfl⟩
  ·exact⟨.ag [.str "own",pN],iB (λk=>by kernel_rfl) (λk=>by kernel_rfl) (λk q=>by kernel_rfl) rfl,λ_=>rfl⟩
  ·exact⟨.ag [.str "rec",.lst [pN]],iB (λk=>by kernel_rfl) (λk=>by kernel_rfl) (λk q=>by kernel_rfl) rfl,λ_=>rfl⟩
  ·exact⟨.ag [.str "strip",.bl true],iB (λk=>by kernel_rfl) (λk=>by kernel_rfl) (λk q=>by kernel_rfl) rfl,λ_=>rfl⟩
 refine⟨p,bp,?_⟩;rw[qZ];simp only[↓aR,e3,e4,e5,e]
theorem tm:∀(l m:List Str),l.Nodup->(∀x∈l,x∈m)->l.length<=m.length
 | [],m,_,_=>fg _
 | a::l,m,hd,hs=>by
  rw[dR]at hd;have h1:=tm l (m.erase a) hd.2 λx hx=>(List.mem_erase_of_ne (by rintro rfl;exact hd.1 hx)).mpr (hs x (b9 _ hx))
  have h2:=hs a cz;rw[List.length_erase_of_mem h2]at h1;have:=eU h2;rw[br]
  lia
theorem qz{α:Type}{f:α->Str}{h:List aj}{x:Str}{l:List α}:Cr true h (.str x) (.lst (l.map λq=>.str (f q)))=some (.bl (!decide (x∈l.map f))):=by
 have e:=toT_strs (h:=h) (n:=999) (l.map f);rw[bS,bS]at e;show((aT (toT h fq) (l.map λq=>.str (f q))).map λys=>ys.any λy=>eqT y (.str x)).map (λb=>PV.bl !b)=_
 rw[show fq=999+1 from rfl,show(λq=>PV.str (f q))=PV.str ∘ f from rfl,e]
 show some (PV.bl !((l.map (Tr.str ∘ f)).any λy=>eqT y (.str x)))=_
 congr 3
 rw[List.any_map,lT,tW];simp only[Function.comp,eqT,oI,iK,bQ]
theorem BG{α:Type}(b:α->Bool):∀l:List α,l.length=(l.filter b).length+(l.filter λx=>!b x).length
 | []=>rfl
 | x::l=>by
  have:=BG b l;cases h:b x
  ·rw[nR (by simp[h]),nO (by simp[h]),br,br];lia
  ·rw[nO h,nR (by simp[h]),br,br];lia
structure Yn (T l:List Str):Prop where
 d:l.Nodup
 o:∀x∈l,cE x/\x∉T
 s:16<=l.length+T.length
 m:l.length<=16
theorem my(k:Nat)(T:List Str)(C:Int):∃xs:List Str,Yn T (xs.filter λx=>!decide (x∈T))/\xs.length=16/\run aG (k+1) "_law_names" [.int C,.int 16] []=some (.ok (.ref 0),[⟨.lst,xs.map .str⟩]):=by
 obtain⟨N,n1,n2,n3⟩:=By k C;have xd:(zY N).Nodup:=by
  unfold zY List.Nodup;rw[yg];refine List.Pairwise.imp_of_mem (λ{a b} ha hb hne e=>hne (n1 a b (dB.mp ha) (dB.mp hb) e)) List.nodup_range
 refine⟨zY N,⟨xd.sublist x9,λx hx=>?_,?_,?_⟩,by simp[zY],n3⟩
 ·have:=cq.mp hx;refine⟨?_,by simpa using this.2⟩
  obtain⟨i,_,rfl⟩:=bQ.mp this.1;exact n2 i
 ·have h1:=tm ((zY N).filter λx=>decide (x∈T)) T (xd.sublist x9) λx hx=>by simpa using (cq.mp hx).2
  have h2:=BG (λx=>decide (x∈T)) (zY N)
  have h3:(zY N).length=16:=by simp[zY]
  lia
 ·have:=nV (λx=>!decide (x∈T)) (zY N)
  have h3:(zY N).length=16:=by simp[zY]
  lia
noncomputable def Il(F:Fd):List Str:=(F.ps++F.ls).map (·.1)
theorem BH(k:Nat){F:Fd}(hF:gB F)(C:Int):∃l,Yn (Il F) l/\run aG (k+2) "_law_fresh" [fdP F,.int C] []=some (.ok (.lst (l.map .str)),[]):=by
 obtain⟨xs,x1,x2,x3⟩:=my k (Il F) C;have fz:=dv (jq xs);have e1:=λh'=>Hf (f:=bY) (a:=F.ps) (b:=F.ls) (h:=h') (by have:=hF.p;have:=hF.l;lia)
 have e2:((F.ps++F.ls).map bY).length<=4000000:=by have:=hF.p;have:=hF.l;rw[ah,bC];lia
 have e3:(xs.map PV.str).length<=4000000:=by rw[ah];lia
 have e4:=λh x=>qz (f:=λq:Ky=>q.1) (h:=h) (x:=x) (l:=F.ps++F.ls)
 refine⟨_,x1,?_⟩;rw[zO];unfold Il;simp only[↓aR,fdP,x3,fz,e1,e2,e3,e4]
end bZ
set_option maxHeartbeats 0
namespace bZ
open PySem L2 L2.U
theorem ik{α:Type}{f:α->PV}{L:List α}{n:Nat}{h:List aj}:rP h none (some (n:Int)) (.ag (L.map f))=some (.ag ((L.take n).map f)):=by
 show some (PV.ag (ej (L.map f) none (some (n:Int))))=_;rw[mv,jR]
theorem js{α:Type}{f:α->PV}{L:List α}{n:Nat}{h:List aj}:rP h (some ((n:Int)+1)) none (.ag (L.map f))=some (.ag ((L.drop (n+1)).map f)):=by
 show some (PV.ag (ej (L.map f) (some ((n+1:Nat):Int)) none))=_;rw[xp,oF]
theorem Aj{a b:List PV}{h:List aj}(hl:a.length+b.length<=1000):kT h (.ag a) (.ag b)=some (.ag (a++b)):=by
 show U.sizeOk _ _=_;unfold U.sizeOk;rw[if_pos (show _<=gY from aM hl (by decide))]
def xy(l:List Ky):List Kq:=l.map λq=>(q.1,cA q.2)
theorem jt(l:List Ky):(xy l).map de=l.map bY:=(Ug l).symm
theorem BI{P:List Fd}{i:Nat}(hi:i<P.length)(X:PV):((P.map Fx.g).set i (.b X)).map Hu=(P.take i).map fdP++[X]++(P.drop (i+1)).map fdP:=by
 rw[DT,if_pos (by rw[ah];exact hi),bz,aA,<-jR,<-oF,bS,bS,gR]
 rfl
theorem Mc{P:List Fd}{i:Nat}(hi:i<P.length)(X:Fd):(P.set i X).map fdP=(P.take i).map fdP++[fdP X]++(P.drop (i+1)).map fdP:=by
 rw[DT,if_pos hi,bz,aA,gR];rfl
def qA(P:List Fd)(i:Nat)(G:Gh):PV:=.ag (((P.map Fx.g).set i (.b (DP G))).map Hu)
theorem lE{P:List Fd}(hP:∀F∈P,gB F)(hl:P.length<=6){i:Nat}(hi:i<P.length){G:Gh}(hG:mP (DP G)):vB (qA P i G):=by
 refine eN (λF hF=>?_) (λp hp=>?_) ⟨_,List.mem_set (by rw[ah];exact hi) _⟩ (by rw[lS,ah];lia)
 ·rcases xH hF with h | h
  ·obtain⟨F',h1,h2⟩:=bQ.mp h;cases h2;exact hP _ h1
  ·cases h
 ·rcases xH hp with h | h
  ·obtain⟨F',h1,h2⟩:=bQ.mp h;cases h2
  ·cases h;exact hG
theorem lF{F:Fd}(hF:gB F)(G:Gh)(hp:G.ps=xy F.ps)(hr:G.res=fG F.res)(ls:List Kq)(Uz:G.ls=xy F.ls++ls)(hk:∀q∈ls,Qt q.2)(hn:∀q∈ls,cE q.1\/jb q.1)(hl:ls.length<=20)(hw:G.rw.length<=1000)
  (no:(∀q∈ls,¬lB q.2)->(∀q∈ls,cE q.1)->(Il F++ls.map (·.1)).Nodup->F.ls.length+ls.length<=8->1<=G.rw.length->G.rw.length<=32->False):mP (DP G):=by
 have a1:=hF.p;have a2:=hF.l;have mem:∀q∈G.ps++G.ls,(∃q'∈F.ps++F.ls,q=(q'.1,cA q'.2))\/q∈ls:=λq hq=>by
  rw[hp,Uz]at hq;rcases bK.mp hq with h | h
  ·obtain⟨q',h1,rfl⟩:=bQ.mp h;exact .inl ⟨q',bK.mpr (.inl h1),rfl⟩
  ·rcases bK.mp h with h | h
   ·obtain⟨q',h1,rfl⟩:=bQ.mp h;exact .inl ⟨q',bK.mpr (.inr h1),rfl⟩
   ·exact .inr h
 have lp:(xy F.ps).length=F.ps.length:=ah _;have ll:(xy F.ls).length=F.ls.length:=ah _;refine PH G (λq hq=>?_) (λq hq=>?_) (by rw[hp,Uz,bC,bC,lp,ll];lia) hw (d:=true) (λk=>?_) ?_
 ·rcases mem q hq with⟨q',h,rfl⟩ | h
  ·exact .inl ⟨_,rfl⟩
  ·exact hk q h
 ·rcases mem q hq with⟨q',h,rfl⟩ | h
  ·exact .inl (hF.n q' h)
  ·exact hn q h
 ·rw[hr,hp,jt];exact mO k hF.r (by lia)
 ·rintro⟨_,h2,h3,h4,h5,_,h7,h8⟩
  rw[Uz,bC,ll]at h2;have up:∀q∈ls,q∈G.ps++G.ls:=λq hq=>by rw[Uz];exact bK.mpr (.inr (bK.mpr (.inr hq)))
  refine no (λq hq=>h3 q (up q hq)) (λq hq=>h4 q (up q hq)) ?_ h2 h7 h8
  have e:(G.ps++G.ls).map (·.1)=Il F++ls.map (·.1):=by
   rw[hp,Uz];unfold Il xy;simp[bS,eW]
  rw[<-e];exact h5
def HQ(F:Fd)(x:Str)(p:PV):Gh:=⟨.str F.nm,xy F.ps,fG F.res,xy F.ls++[(x,p)],F.rw.map bJ⟩
theorem HR(k:Nat){P:List Fd}{i:Nat}{F:Fd}(hi:P[i]?=some F)(hl:P.length<=6)(hF:F.ls.length<=8)(x:Str)(p:PV):run aG (k+1) "_law_let" [.ag (P.map fdP),.int (i:Int),.str x,p] []=some (.ok (qA P i (HQ F x p)),[]):=by
 have pU:=(b8.mp hi).1;have e1:∀h,dI h (.ag (P.map fdP)) (.int (i:Int))=some (fdP F):=λh=>atI_nat (by rw[aX,hi];rfl)
 have e2:=λh p=>Ah (a:=F.ls.map bY) (p:=p) (h:=h) (by rw[ah];lia)
 have e3:=λh=>ik (f:=fdP) (L:=P) (n:=i) (h:=h)
 have e4:=λh=>js (f:=fdP) (L:=P) (n:=i) (h:=h)
 have e5:=λh p=>Ah (a:=(P.take i).map fdP) (p:=p) (h:=h) (by rw[ah,cY];lia)
 have e6:=λh p=>Aj (a:=(P.take i).map fdP++[p]) (b:=(P.drop (i+1)).map fdP) (h:=h) (by simp;lia)
 rw[G1];simp only[↓aR,e1,e2,e3,e4,e5,e6];unfold qA;rw[BI pU];simp only[HQ,DP,jt,bz,aA,bL,de]
def Md(F:Fd)(R:List PV):Gh:=⟨.str F.nm,xy F.ps,fG F.res,xy F.ls,R⟩
theorem Ak(k:Nat){P:List Fd}{i:Nat}{F:Fd}(hi:P[i]?=some F)(hl:P.length<=6)(R:List PV):run aG (k+1) "_law_rows" [.ag (P.map fdP),.int (i:Int),.ag R] []=some (.ok (qA P i (Md F R)),[]):=by
 have pU:=(b8.mp hi).1;have e1:∀h,dI h (.ag (P.map fdP)) (.int (i:Int))=some (fdP F):=λh=>atI_nat (by rw[aX,hi];rfl)
 have e3:=λh=>ik (f:=fdP) (L:=P) (n:=i) (h:=h)
 have e4:=λh=>js (f:=fdP) (L:=P) (n:=i) (h:=h)
 have e5:=λh p=>Ah (a:=(P.take i).map fdP) (p:=p) (h:=h) (by rw[ah,cY];lia)
 have e6:=λh p=>Aj (a:=(P.take i).map fdP++[p]) (b:=(P.drop (i+1)).map fdP) (h:=h) (by simp;lia)
 rw[De];simp only[↓aR,e1,e3,e4,e5,e6];unfold qA;rw[BI pU];simp only[Md,DP,jt]
theorem Ld{α:Type}{f:α->PV}{L:List α}{n:Nat}{h:List aj}:rP h none (some (n:Int)) (.lst (L.map f))=some (.lst ((L.take n).map f)):=by
 show some (PV.lst (ej (L.map f) none (some (n:Int))))=_;rw[mv,jR]
def ZM(F:Fd)(l:List Kq):Gh:=⟨.str F.nm,xy F.ps,fG F.res,xy F.ls++l,F.rw.map bJ⟩
theorem xA(k:Nat){P:List Fd}{i:Nat}{F:Fd}(hi:P[i]?=some F)(hl:P.length<=6)(hP:∀F∈P,gB F)(C:Int):∃p,vB p/\run aG (k+3) "_law_many_lets" [.ag (P.map fdP),.int (i:Int),.int C] []=some (.ok p,[]):=by
 have pU:=(b8.mp hi).1;have hF:=hP F (eV hi);have a1:=hF.p;have a2:=hF.l;obtain⟨l,l1,l2⟩:=BH k hF C;obtain⟨L,hL⟩:∃L:List Kq,L=(l.map λx=>(x,pN)).take (9-F.ls.length):=⟨_,rfl⟩
 have tl:(Il F).length=F.ps.length+F.ls.length:=by unfold Il;simp
 have Ll:F.ls.length+L.length=9:=by
  have:=l1.s;rw[hL,cY,ah]
  lia
 refine⟨qA P i (ZM F L),lE hP hl pU (lF hF _ rfl rfl L rfl (λq hq=>?_) (λq hq=>?_) (by lia) (by show(F.rw.map bJ).length<=1000;rw[ah];have:=hF.x;lia) λ_ _ _ h _ _=>by lia),?_⟩
 ·have:=nZ (hL▸hq);obtain⟨x,_,rfl⟩:=bQ.mp this;exact .inl ⟨.ow .nu,rfl⟩
 ·have:=nZ (hL▸hq);obtain⟨x,hx,rfl⟩:=bQ.mp this;exact .inl (l1.o x hx).1
 ·have e1:∀h,dI h (.ag (P.map fdP)) (.int (i:Int))=some (fdP F):=λh=>atI_nat (by rw[aX,hi];rfl)
  have e3:=λh=>ik (f:=fdP) (L:=P) (n:=i) (h:=h)
  have e4:=λh=>js (f:=fdP) (L:=P) (n:=i) (h:=h)
  have e5:=λh p=>Ah (a:=(P.take i).map fdP) (p:=p) (h:=h) (by rw[ah,cY];lia)
  have e6:=λh p=>Aj (a:=(P.take i).map fdP++[p]) (b:=(P.drop (i+1)).map fdP) (h:=h) (by simp;lia)
  have e7:(l.map PV.str).length<=4000000:=by have:=l1.m;rw[ah];lia
  have e8:∀h,rP h none (some (9-(F.ls.length:Int))) (.lst (l.map λx=>.ag [.str x,pN]))=some (.lst (L.map de)):=λh=>by
   rw[show(9:Int)-(F.ls.length:Int)=((9-F.ls.length:Nat):Int) by lia]
   have:=Ld (f:=de) (L:=l.map λx=>(x,pN)) (n:=9-F.ls.length) (h:=h)
   rw[bS,<-hL]at this;exact this
  have e9:=λh=>Aj (a:=F.ls.map bY) (b:=L.map de) (h:=h) (by rw[ah,ah];lia)
  have Qx:∀h,uF h [.lst (L.map de)]=some (.ag (L.map de)):=λh=>rfl
  have UA:=λh=>jr (f:=bY) (L:=F.ls) (h:=h)
  rw[qk];simp only[↓aR,e1,e3,e4,e5,e6,e7,e8,e9,Qx,UA,l2];unfold qA;rw[BI pU];simp only[ZM,DP,jt,bz]
end bZ
set_option maxHeartbeats 0
namespace bZ
open PySem L2 L2.U
theorem HS{a b:Gx d6}{st st1:bU}(h:a st=some (.ok .nx,st1)):qL a b st=b st1:=by
 show(a st).bind (Nk (YJ b))=_;rw[h];rfl
theorem Yo{ρ:List (Option PV)}{A:List aj}{F:List PV}{v:PV}(h:F.length<=4000):j1 (gu j2) (.ref A.length) [v] ⟨ρ,A++[⟨.lst,F⟩]⟩=some (.ok .aK,⟨ρ,A++[⟨.lst,F++[v]⟩]⟩):=by
 have e:j2 F [v]=some (F++[v]):=if_pos (show F.length<gY from jG h (by decide))
 have e1:zb (A++[⟨.lst,F⟩]) (.ref A.length)=some (A.length,⟨.lst,F⟩):=by
  show((A++[(⟨.lst,F⟩:aj)])[A.length]?).bind _=_;rw[tx (ao _),uc];rfl
 unfold j1;rw[e1];show(((j2 F [v]).map λqs=>((⟨.lst,qs⟩:aj),PV.aK)).map λr=>_)=_
 rw[e];show some (_,(⟨ρ,(A++[(⟨.lst,F⟩:aj)]).set A.length ⟨.lst,F++[v]⟩⟩:bU))=_;rw[List.set_append_right _ _ (ao _),uc];rfl
theorem UB(A:List aj)(R:List PV):cG (A++[⟨.lst,R⟩]) (.ref A.length)=some (.lst,R):=by
 show((A++[(⟨.lst,R⟩:aj)])[A.length]?).bind _=_;rw[tx (ao _),uc];rfl
theorem Yp{ρ:List (Option PV)}{T:List aj}{F:List PV}{v:PV}(h:F.length<=4000):j1 (gu j2) (.ref 0) [v] ⟨ρ,⟨.lst,F⟩::T⟩=some (.ok .aK,⟨ρ,⟨.lst,F++[v]⟩::T⟩):=by
 have:j2 F [v]=some (F++[v]):=if_pos (show F.length<gY from jG h (by decide))
 show(((j2 F [v]).map λqs=>((⟨.lst,qs⟩:aj),PV.aK)).map λr=>_)=_
 rw[this];rfl
noncomputable def Im(old new:Str):Rw->Rw
 | .call x f as=>if f==old then .call x new as else .call x f as
 | r=>r
theorem HU{h:List aj}{a b:Str}:AQ h (.str a) (.str b)=some (.bl (a==b)):=rfl
theorem P5(c:CT){x0 x1 x4 x5 x6:Option PV}{old new:Str}{n:Nat}{h:List aj}{h2:PV->List aj}{R:List PV}(hd:cG h (.ref n)=some (.lst,R))(hm:∀ρ v,j1 (gu j2) (.ref n) [v] ⟨ρ,h⟩=some (.ok .aK,⟨ρ,h2 v⟩))(r:Rw):ib c ⟨[x0,x1,some (.str new),some (.str old),x4,x5,x6,some (.ref n),some (bJ r)],h⟩=some (.ok .nx,⟨[x0,x1,some (.str new),some (.str old),x4,x5,x6,some (.ref n),some (bJ (Im old new r))],h2 (bJ (Im old new r))⟩):=by
 refine du ?_;cases r
 case ig w x s=>cases w<;>simp only[↓kB,hd,hm,Im]
 case call x f as =>
  unfold Im;cases hf:f==old
  ·simp only[↓kB,hd,hm,HU,hf,cW,cu]
  ·simp only[↓kB,hd,hm,HU,hf,dE];rfl
 all_goals simp only[↓kB,hd,hm,Im]
theorem BJ(c:CT){x0 x1 x4 x5 x6:Option PV}{old new:Str}(A:List aj):∀(rs:List Rw) (R:List PV) (x8:Option PV),R.length+rs.length<=4000->∃vm,ef (cO 8) (ib c) (rs.map bJ) ⟨[x0,x1,some (.str new),some (.str old),x4,x5,x6,some (.ref A.length),x8],A++[⟨.lst,R⟩]⟩=some (.ok .nx,⟨[x0,x1,some (.str new),some (.str old),x4,x5,x6,some (.ref A.length),vm],A++[⟨.lst,R++(rs.map (Im old new)).map bJ⟩]⟩)
 | [],R,x8,_=>⟨x8,by simp;rfl⟩
 | r::rs,R,x8,hl=>by
  simp only[br]at hl;obtain⟨y8,h⟩:=BJ c (x0:=x0) (x1:=x1) (x4:=x4) (x5:=x5) (x6:=x6) (old:=old) (new:=new) A rs (R++[bJ (Im old new r)]) (some (bJ (Im old new r))) (by simp;lia)
  refine⟨y8,?_⟩;have hs:=P5 c (x0:=x0) (x1:=x1) (x4:=x4) (x5:=x5) (x6:=x6) (old:=old) (new:=new) (n:=A.length) (R:=R) (UB A R) (λρ v=>@Yo ρ A R v (by lia)) r
  rw[gR]at h;exact fC rfl hs h
def UC(old new:Str)(b:Bool)(F:Fd):Fd:=⟨if b then new else F.nm,F.ps,F.res,F.ls,F.rw.map (Im old new)⟩
theorem P6(c:CT){x0:Option PV}{at':Int}{old new:Str}{T:List aj}{L:List PV}(k:Int)(F:Fd)(hF:F.rw.length<=100)(hL:L.length<=100)(x7 x8:Option PV):∃(T':List aj) (vn vm:Option PV),fF c ⟨[x0,some (.int at'),some (.str new),some (.str old),some (.ref 0),some (.int k),some (fdP F),x7,x8],⟨.lst,L⟩::T⟩=some (.ok .nx,⟨[x0,some (.int at'),some (.str new),some (.str old),some (.ref 0),some (.int k),some (fdP F),vn,vm],⟨.lst,L++[fdP (UC old new (k==at') F)]⟩::T'⟩):=by
 obtain⟨y8,hi⟩:=BJ c (x0:=x0) (x1:=some (.int at')) (x4:=some (.ref 0)) (x5:=some (.int k)) (x6:=some (fdP F)) (old:=old) (new:=new) (⟨.lst,L⟩::T) F.rw [] x8 (by simp;lia)
 rw[dS]at hi;obtain⟨R,hR⟩:∃R,R=(F.rw.map (Im old new)).map bJ:=⟨_,rfl⟩
 rw[<-hR]at hi
 delta ib kx at hi
 refine⟨T++[⟨.lst,R⟩],some (.ref (T.length+1)),y8,?_⟩
 delta fF kx
 rw[HS (st1:=⟨[x0,some (.int at'),some (.str new),some (.str old),some (.ref 0),some (.int k),some (fdP F),some (.ref (T.length+1)),x8],(⟨.lst,L⟩::T)++[⟨.lst,[]⟩]⟩) rfl];rw[HS (st1:=⟨[x0,some (.int at'),some (.str new),some (.str old),some (.ref 0),some (.int k),some (fdP F),some (.ref (T.length+1)),y8],⟨.lst,L⟩::(T++[⟨.lst,R⟩])⟩) hi];have m0:=λρ v=>@Yp ρ (T++[⟨.lst,R⟩]) L v (by lia)
 have t0:uF (⟨.lst,L⟩::(T++[⟨.lst,R⟩])) [.ref (T.length+1)]=some (.ag R):=by
  have:cG (⟨.lst,L⟩::(T++[⟨.lst,R⟩])) (.ref (T.length+1))=some (.lst,R):=UB (⟨.lst,L⟩::T) R;show(jZ _ (.ref (T.length+1))).map _=_;unfold jZ;rw[this];rfl
 have d0:cG (⟨.lst,L⟩::(T++[⟨.lst,R⟩])) (.ref 0)=some (.lst,L):=rfl;have r0:fdP (UC old new (k==at') F)=.ag ([PV.str (if k==at' then new else F.nm)]++[.ag (F.ps.map bY),fG F.res,.ag (F.ls.map bY)]++[.ag R]):=by rw[hR];rfl
 rw[r0];obtain⟨h1,e1⟩:∃h1:List aj,h1=⟨.lst,L⟩::(T++[⟨.lst,R⟩]):=⟨_,rfl⟩
 obtain⟨h2,e2⟩:∃h2:PV->List aj,h2=λv=>⟨.lst,L++[v]⟩::(T++[⟨.lst,R⟩]):=⟨_,rfl⟩
 have m0:∀ρ v,j1 (gu j2) (.ref 0) [v] ⟨ρ,h1⟩=some (.ok .aK,⟨ρ,h2 v⟩):=by rw[e1,e2];exact m0
 rw[<-e1]at t0 d0 ⊢;rw[show(⟨.lst,L++[.ag ([PV.str (if k==at' then new else F.nm)]++[.ag (F.ps.map bY),fG F.res,.ag (F.ls.map bY)]++[.ag R])]⟩::(T++[⟨.lst,R⟩]):List aj)=h2 (.ag ([PV.str (if k==at' then new else F.nm)]++[.ag (F.ps.map bY),fG F.res,.ag (F.ls.map bY)]++[.ag R])) by rw[e2]]
 generalize T.length+1=n at t0 ⊢
 clear e1 e2 hi;refine du ?_;cases hk:k==at'
 ·have i0:yZ h1 [.bl false]=some (.int 0):=rfl;simp only[↓kB,cF,hk,t0,d0,m0,cW,cu];rfl
 ·have i0:yZ h1 [.bl true]=some (.int 1):=rfl;simp only[↓kB,cF,hk,t0,d0,m0,dE];rfl
end bZ
set_option maxHeartbeats 0
namespace bZ
open PySem L2 L2.U
def Me(old new:Str)(at':Int):Nat->List Fd->List Fd
 | _,[]=>[]
 | k,F::Fs=>UC old new ((k:Int)==at') F::Me old new at' (k+1) Fs
theorem BK(c:CT){x0:Option PV}{at':Int}{old new:Str}:∀(Fs:List Fd) (k:Nat) (T:List aj) (L:List PV) (x5 x6 x7 x8:Option PV),(∀F∈Fs,F.rw.length<=100)->L.length+Fs.length<=100->∃(T':List aj) (DA qG vn vm:Option PV),ef (kR 2 Q0) (fF c) (k7 k (Fs.map fdP)) ⟨[x0,some (.int at'),some (.str new),some (.str old),some (.ref 0),x5,x6,x7,x8],⟨.lst,L⟩::T⟩=some (.ok .nx,⟨[x0,some (.int at'),some (.str new),some (.str old),some (.ref 0),DA,qG,vn,vm],⟨.lst,L++(Me old new at' k Fs).map fdP⟩::T'⟩)
 | [],k,T,L,x5,x6,x7,x8,_,_=>⟨T,x5,x6,x7,x8,by simp[Me];rfl⟩
 | F::Fs,k,T,L,x5,x6,x7,x8,hF,hl=>by
  simp only[br]at hl;obtain⟨T1,y7,y8,h1⟩:=P6 c (x0:=x0) (at':=at') (old:=old) (new:=new) (T:=T) (L:=L) (k:Int) F (hF F cz) (by lia) x7 x8
  obtain⟨T2,z5,z6,z7,z8,h2⟩:=BK c (x0:=x0) (at':=at') (old:=old) (new:=new) Fs (k+1) T1 (L++[fdP (UC old new ((k:Int)==at') F)]) (some (.int (k:Int))) (some (fdP F)) y7 y8 (λG h=>hF G (b9 _ h)) (by simp;lia)
  refine⟨T2,z5,z6,z7,z8,?_⟩;rw[gR]at h2;exact fC (s1:=⟨[x0,some (.int at'),some (.str new),some (.str old),some (.ref 0),some (.int (k:Int)),some (fdP F),x7,x8],⟨.lst,L⟩::T⟩) rfl h1 h2
theorem BL{old new:Str}{at':Int}:∀(Fs:List Fd) (k:Nat),(Me old new at' k Fs).length=Fs.length
 | [],_=>rfl
 | F::Fs,k=>by simp only[Me,br,BL Fs]
theorem vy{old new:Str}{at':Int}:∀(Fs:List Fd) (k:Nat) (G:Fd),G∈Me old new at' k Fs->∃F∈Fs,∃b,G=UC old new b F
 | [],_,_,h=>by cases h
 | F::Fs,k,G,h=>by
  rcases aF.mp h with rfl | h
  ·exact⟨F,cz,_,rfl⟩
  ·obtain⟨F',h1,h2⟩:=vy Fs (k+1) G h;exact⟨F',b9 _ h1,h2⟩
theorem HV{old new:Str}:∀(Fs:List Fd) (k i:Nat),k<=i->i<k+Fs.length->∃G∈Me old new (i:Int) k Fs,G.nm=new
 | [],k,i,h1,h2=>by simp at h2;lia
 | F::Fs,k,i,h1,h2=>by
  rw[br]at h2;by_cases e:k=i
  ·subst e;exact⟨_,cz,by show(if((k:Int)==(k:Int))=true then new else F.nm)=new;rw[iN];rfl⟩
  ·obtain⟨G,g1,g2⟩:=HV (old:=old) (new:=new) Fs (k+1) i (by lia) (by lia)
   exact⟨G,b9 _ g1,g2⟩
theorem DG(k:Nat){P:List Fd}{i:Nat}(hi:i<P.length)(hl:P.length<=6)(hP:∀F∈P,gB F)(hn:∀F∈P,cE F.nm){x:Str}(hx:jb x):∃(p:PV) (h':List aj),vB p/\noRef p=true/\run aG (k+1) "_law_renamed" [.ag (P.map fdP),.int (i:Int),.str x] []=some (.ok p,h'):=by
 obtain⟨F,hF⟩:∃F,P[i]?=some F:=⟨_,bB hi⟩
 have e1:∀h,dI h (.ag (P.map fdP)) (.int (i:Int))=some (fdP F):=λh=>atI_nat (by rw[aX,hF];rfl)
 obtain⟨T',y5,y6,y7,y8,h⟩:=BK (run aG k) (x0:=some (.ag (P.map fdP))) (at':=(i:Int)) (old:=F.nm) (new:=x) P 0 [] [] none none none none (λG h=>by have:=(hP G h).x;lia) (by simp;lia)
 delta fF kx at h
 rw[dS]at h;obtain⟨Q,hQ⟩:∃Q,Q=Me F.nm x (i:Int) 0 P:=⟨_,rfl⟩
 rw[<-hQ]at h;refine⟨.ag (Q.map fdP),⟨.lst,Q.map fdP⟩::T',mT (λG hG=>?_) (λG hG=>?_) (by rw[hQ,BL];lia) (λa _=>?_),?_,?_⟩
 ·obtain⟨F',f1,b,rfl⟩:=vy P 0 G (hQ▸hG);have:=hP F' f1;exact⟨this.p,this.l,this.n,this.d,this.r,by show 1<=(F'.rw.map _).length;rw[ah];exact this.w,by show(F'.rw.map _).length<=32;rw[ah];exact this.x⟩
 ·obtain⟨F',f1,b,rfl⟩:=vy P 0 G (hQ▸hG);cases b
  ·exact .inl (hn F' f1)
  ·exact .inr hx
 ·obtain⟨G,g1,g2⟩:=HV (old:=F.nm) (new:=x) P 0 i (by lia) (by lia)
  exact zV (a G (hQ▸g1)) (g2▸hx)
 ·exact cS sV Q
 ·have e2:uF (⟨.lst,Q.map fdP⟩::T') [.ref 0]=some (.ag (Q.map fdP)):=rfl;rw[u9];simp only[↓aR,e1,e2,h]
end bZ
set_option maxHeartbeats 0
namespace bZ
open PySem L2 L2.U
noncomputable def tq:Rw->Bool
 | .fill _ _=>true
 | .ig _ _ _=>true
 | _=>false
noncomputable def mU(x f:Str)(n:Nat)(C:Int):List Rw :=
 let s:Sp:=⟨x,false,[],.aK⟩
 [.G8 (.n (C%10^30)),.G7 (.n 1) (.s s) 0,.put s (.n 5),.set s "+" (.n 1) (.s s),.qm s s,.qo s s,.drop s,.call "" f (List.replicate n x)]
theorem P7{h:List aj}{r:Rw}:Cr false h (.str (ZK r)) (.ag [.str "fill",.str "lend",.str "sole"])=some (.bl (tq r)):=by
 cases r
 case ig w x s=>cases w<;>kernel_rfl
 all_goals kernel_rfl
theorem P8(k:Nat){P:List Fd}{i:Nat}{F F0:Fd}(hi:P[i]?=some F)(h0:P[0]?=some F0)(hF:F.rw.length<=100)(hl:F.ls.length<=100)(hp:F0.ps.length<=10){q:Ky}(qs:List Ky)(hq:F.ls.filter (λq=>decide (q.2=.ow .nu))=q::qs)(C:Int):∃(r:Rw),r∈mU q.1 F0.nm F0.ps.length C++F.rw.filter tq/\∃h':List aj,run aG (k+1) "_law_last" [.ag (P.map fdP),.int (i:Int),.int C] []=some (.ok (bJ r),h'):=by
 have e1:∀h,dI h (.ag (P.map fdP)) (.int (i:Int))=some (fdP F):=λh=>atI_nat (by rw[aX,hi];rfl)
 have e2:∀h,dI h (.ag (P.map fdP)) (.int 0)=some (fdP F0):=λh=>atI_nat (j:=0) (by rw[aX,h0];rfl)
 have e3:∀h,dI h (.lst ((F.ls.filter λq=>decide (q.2=.ow .nu)).map λq=>.str q.1)) (.int 0)=some (.str q.1):=λh=>by rw[hq];exact atI_nat (j:=0) rfl
 have e4:(F.ls.map bY).length<=4000000:=by rw[ah];lia
 have e5:(F.rw.map bJ).length<=4000000:=by rw[ah];lia
 have e6:∀h,yW h (.int 10) (.int 30)=some (.int (10^30)):=λh=>by kernel_rfl
 have e7:∀h,uz h (.int C) (.int (10^30))=some (.int (C%10^30)):=λh=>gO (by decide)
 have e8:∀h,fY h (.ag [.str q.1]) (.int (F0.ps.length:Nat))=some (.ag ((List.replicate F0.ps.length q.1).map .str)):=λh=>by
  show(if _ then some (PV.ag (List.replicate ((F0.ps.length:Int)).toNat [PV.str q.1]).flatten)else none)=_
  rw[if_pos (by refine⟨by lia,by lia,?_,?_⟩<;>simp),iM]
  have:∀n,(List.replicate n [PV.str q.1]).flatten=(List.replicate n q.1).map PV.str:=λn=>by
   induction n with
   | zero=>rfl
   | succ n ih=>rw[dO,gS,dO,aA,ih];rfl
  rw[this]
 have e9:=λh=>jr (f:=bY) (L:=F0.ps) (h:=h)
 obtain⟨L,hL⟩:∃L,L=mU q.1 F0.nm F0.ps.length C++F.rw.filter tq:=⟨_,rfl⟩
 have L0:0<L.length:=by rw[hL];simp[mU]
 have L1:L.length<=200:=by have:=nV tq F.rw;rw[hL,bC];show 8+_<=_;lia
 have Qx:∀c,OI [c,⟨.lst,(mU q.1 F0.nm F0.ps.length C).map bJ⟩] (.ref 1) (.lst ((F.rw.filter tq).map bJ))=some (L.map bJ):=λc=>by
  show(if((mU q.1 F0.nm F0.ps.length C).map bJ).length+((F.rw.filter tq).map bJ).length<=gY then _ else none)=_
  rw[<-bC,<-bz,<-hL,if_pos];rw[ah];exact aM L1 (by decide)
 simp only[mU,aA,bL,bJ,fH,qF,G6,PD]at Qx;obtain⟨r,hr,rp⟩:=pick bJ L C L0;have UA:∀c0 c1,jW [c0,c1,⟨.lst,L.map bJ⟩] [.ref 2]=some (.int (L.length:Nat)):=λc0 c1=>by
  show some (PV.int (((L.map bJ).length:Nat):Int))=_;rw[ah]
 have e12:∀c0 c1,dI [c0,c1,⟨.lst,L.map bJ⟩] (.ref 2) (.int (C%(L.length:Int)))=some (bJ r):=λc0 c1=>rp []
 have m1:=λh=>gO (h:=h) (i:=C) (show(0:Int)<(L.length:Nat) by lia)
 refine⟨r,hL▸hr,?_⟩;rw[Df];simp only[↓aR,e1,e2,e3,e4,e5,e6,e7,e8,e9,Qx,UA,e12,m1,Ht,Ux,P7];exact⟨_,rfl⟩
end bZ
set_option maxHeartbeats 2000000
namespace bZ
open PySem L2 L2.U
abbrev HW:PV:=.ag [.ag [.str "give",.str ""]]
theorem tu{p:PV}(h:mP p):vB (.ag [p]):=eN (Q:=[.b p]) (λF hF=>by cases bc.mp hF) (λq hq=>by cases bc.mp hq;exact h) ⟨p,bc.mpr rfl⟩ (by simp)
theorem DH(k:Nat)(q:PV):run aG (k+11) "is_result" [.aK,q] []=some (.ok (.bl true),[]):=by kernel_rfl
theorem lG(nm:Str){ps:List Kq}(hk:∀q∈ps,Qt q.2)(hn:∀q∈ps,cE q.1\/jb q.1)(hl:ps.length<=20)(no:ps.length<=4->(∀q∈ps,¬lB q.2)->(∀q∈ps,cE q.1)->(ps.map (·.1)).Nodup->False):mP (.ag [.str nm,.ag (ps.map de),.aK,.ag [],HW]) :=
 PH ⟨.str nm,ps,.aK,[],[.ag [.str "give",.str ""]]⟩ (by simpa using hk) (by simpa using hn) (by simp;lia) (by simp) (d:=true) (λk=>DH k _) (by
  rintro⟨h1,_,h3,h4,h5,_⟩
  exact no h1 (by simpa using h3) (by simpa using h4) (by simpa using h5))
theorem qB:Qt pN:=.inl ⟨.ow .nu,rfl⟩
theorem nK(ps:List PV)(a b:Nat):ej ps (some (a:Int)) (some (b:Int))=(ps.take b).drop a:=by
 unfold ej;rw[HT.nq,HT.nq,List.drop_take];by_cases h:a<=ps.length
 ·rw[ou h];by_cases h2:b<=ps.length
  ·rw[ou h2]
  ·rw[yq (by lia),iF (i:=ps.length-a) (by simp),iF (i:=b-a) (by simp;lia)]
 ·rw[show min a ps.length=ps.length by lia,tJ (ao _),tJ (i:=a) (by lia)]
  simp
structure Six (l:List Str) (a0 a1 a2 a3 a4 a5:Str):Prop where
 e:∃t,l=a0::a1::a2::a3::a4::a5::t
 d:[a0,a1,a2,a3,a4,a5].Nodup
 o:∀x∈[a0,a1,a2,a3,a4,a5],cE x
theorem ZN{T l:List Str}(h:Yn T l)(hT:T.length<=6):∃a0 a1 a2 a3 a4 a5,Six l a0 a1 a2 a3 a4 a5:=by
 have:=h.s
 match l,h with
 | a0::a1::a2::a3::a4::a5::t,h =>
  refine⟨a0,a1,a2,a3,a4,a5,⟨t,rfl⟩,h.d.sublist ?_,λx hx=>(h.o x ?_).1⟩
  ·simp
  ·simp only[aF,bf,bg]at hx ⊢;rcases hx with h | h | h | h | h | h<;>simp[h]
 | [],_=>simp at this;lia
 | [_],_=>simp at this;lia
 | [_,_],_=>simp at this;lia
 | [_,_,_],_=>simp at this;lia
 | [_,_,_,_],_=>simp at this;lia
 | [_,_,_,_,_],_=>simp at this;lia
theorem gP{nm:Str}{ps:List Ky}{r:q0}{ls:List Ky}{R:List Rw}(h1:ps.length<=4)(h2:ls.length<=8)(h3:∀q∈ps++ls,cE q.1)(h4:((ps++ls).map (·.1)).Nodup)(h5:sS ps r)(h6:1<=R.length)(h7:R.length<=32):gB ⟨nm,ps,r,ls,R⟩:=⟨h1,h2,h3,h4,h5,h6,h7⟩
theorem Al:∀a b:List PV,aD a=true->aD b=true->aD (a++b)=true
 | [],b,_,hb=>hb
 | p::a,b,ha,hb=>by
  simp only[aD,aC]at ha;simp only[yl,aD,ha.1,Al a b ha.2 hb,Bool.and_self]
theorem HX{l:List PV}(h:aD l=true):noRef (.ag l)=true:=by rw[noRef];exact h
theorem Le(k:Nat){P:List Fd}(hP:∀F∈P,gB F)(hl:P.length<=6)(C:Int):∃(p:PV) (h':List aj),vB p/\hV h' p=some p/\run aG (k+2) "_law_small" [.ag (P.map fdP),.int C] []=some (.ok p,h'):=by
 obtain⟨xs,x1,x2,x3⟩:=my k (P.map (·.nm)) C;obtain⟨l,hL⟩:∃l,l=xs.filter λx=>!decide (x∈P.map (·.nm)):=⟨_,rfl⟩
 rw[<-hL]at x1;obtain⟨a0,a1,a2,a3,a4,a5,⟨t,ht⟩,hd,ho⟩:=ZN x1 (by rw[ah];exact hl)
 have fz:=dv (jq xs);have e2:(P.map fdP).length<=4000000:=by rw[ah];lia
 have e3:(xs.map PV.str).length<=4000000:=by rw[ah];lia
 have e4:=λh x=>qz (f:=λF:Fd=>F.nm) (h:=h) (x:=x) (l:=P)
 have y0:∀h,dI h (.lst (l.map .str)) (.int 0)=some (.str a0):=λh=>atI_nat (j:=0) (by rw[ht];rfl)
 have y1:∀h,dI h (.lst (l.map .str)) (.int 1)=some (.str a1):=λh=>atI_nat (j:=1) (by rw[ht];rfl)
 have y2:∀h,dI h (.lst (l.map .str)) (.int 2)=some (.str a2):=λh=>atI_nat (j:=2) (by rw[ht];rfl)
 have y3:∀h,dI h (.lst (l.map .str)) (.int 3)=some (.str a3):=λh=>atI_nat (j:=3) (by rw[ht];rfl)
 have y4:∀h,dI h (.lst (l.map .str)) (.int 4)=some (.str a4):=λh=>atI_nat (j:=4) (by rw[ht];rfl)
 have z6:∀h,rP h (some 1) (some 6) (.lst (l.map .str))=some (.lst [.str a1,.str a2,.str a3,.str a4,.str a5]):=λh=>by
  show some (PV.lst (ej (l.map .str) (some ((1:Nat):Int)) (some ((6:Nat):Int))))=_;rw[nK,ht];rfl
 have z4:∀h,rP h (some 1) (some 4) (.lst (l.map .str))=some (.lst [.str a1,.str a2,.str a3]):=λh=>by
  show some (PV.lst (ej (l.map .str) (some ((1:Nat):Int)) (some ((4:Nat):Int))))=_;rw[nK,ht];rfl
 have l5:[PV.str a1,.str a2,.str a3,.str a4,.str a5].length<=4000000:=by simp
 have l3:[PV.str a1,.str a2,.str a3].length<=4000000:=by simp
 have o0:=ho a0 (by simp)
 have o1:=ho a1 (by simp)
 have o2:=ho a2 (by simp)
 have o3:=ho a3 (by simp)
 simp only[dR,aF,bf,bg,not_or,jM,and_true,yc]at hd;rw[hL]at y0 y1 y2 y3 y4 z6 z4;rw[zP];have hr:C%7=0\/C%7=1\/C%7=2\/C%7=3\/C%7=4\/C%7=5\/C%7=6:=by lia
 rcases hr with hr | hr | hr | hr | hr | hr | hr
 ·refine⟨.ag [fdP ⟨a0,[],.own .nu,[(a1,.ow .nu)],[.eM a1]⟩],[],s9 (gP (by simp) (by simp) (by simp;exact o1) (by simp) trivial (by simp) (by simp)) o0 (.inl (by simp)),rfl,?_⟩
  simp only[↓aR,x3,fz,e2,e3,e4,y0,y1,y2,y3,y4,z6,z4,hr];rfl
 ·obtain⟨b,s,hM⟩:=Hm k (C/7);obtain⟨d,ZO⟩:∃d,∀h,dI h (.lst ((Ik b s).map cA)) (.int (1+C/7%7))=some (cA d):=by
   have hk:C/7%7=0\/C/7%7=1\/C/7%7=2\/C/7%7=3\/C/7%7=4\/C/7%7=5\/C/7%7=6:=by lia
   rcases hk with hk | hk | hk | hk | hk | hk | hk<;>rw[hk]<;>exact⟨_,λh=>rfl⟩
  obtain⟨d',rz,hne⟩:∃d',d'=(if d=.ow .nu then .ow .ow else d)/\d'≠.ow .nu:=⟨_,rfl,by split<;>simp_all⟩
  refine⟨.ag [fdP ⟨a0,[(a1,.ow .nu),(a2,d')],.aK,[],[.eM ""]⟩],[],s9 (gP (by simp) (by simp) (λq hq=>?_) (by simp;exact hd.2.1.1) trivial (by simp) (by simp)) o0 (.inr ⟨(a2,d'),by simp,hne⟩),rfl,?_⟩
  ·simp only[eZ,aF,bf,bg]at hq;rcases hq with rfl | rfl
   ·exact o1
   ·exact o2
  by_cases hz:d=.ow .nu
  ·rw[if_pos hz]at rz;subst rz;simp only[↓aR,x3,fz,e2,e3,e4,y0,y1,y2,y3,y4,hr,hM,ZO,Ht,aP hz];rfl
  ·rw[if_neg hz]at rz;subst rz;simp only[↓aR,x3,fz,e2,e3,e4,y0,y1,y2,y3,y4,hr,hM,ZO,Ht,aV hz];rfl
 ·have e7:∀h,rP h none (some 5) (.ag (P.map fdP))=some (.ag ((P.take 5).map fdP)):=λh=>ik (n:=5)
  have hk:∀q∈[(a1,pN),(a2,pN),(a3,pN),(a4,pN),(a5,pN)],Qt q.2:=λq hq=>by
   simp only[aF,bf,bg]at hq;rcases hq with rfl | rfl | rfl | rfl | rfl<;>exact qB
  have hn:∀q∈[(a1,pN),(a2,pN),(a3,pN),(a4,pN),(a5,pN)],cE q.1\/jb q.1:=λq hq=>by
   simp only[aF,bf,bg]at hq;rcases hq with rfl | rfl | rfl | rfl | rfl<;>exact .inl (ho _ (by simp))
  obtain⟨B,eB,hB⟩:∃B,B=PV.ag [.str a0,.ag ([(a1,pN),(a2,pN),(a3,pN),(a4,pN),(a5,pN)].map de),.aK,.ag [],HW]/\mP B:=⟨_,rfl,lG a0 hk hn (by simp) λh _ _ _=>by simp at h⟩
  have e8:=λh p=>Ah (a:=(P.take 5).map fdP) (p:=p) (h:=h) (by rw[ah,cY];lia)
  have hnB:aD [B]=true:=by rw[eB];rfl
  obtain⟨Q,hQ⟩:∃Q:List Fx,Q=(P.take 5).map Fx.g++[Fx.b B]:=⟨_,rfl⟩
  have mem:∀x∈Q,(∃F∈P,x=Fx.g F)\/x=Fx.b B:=λx hx=>by
   rw[hQ]at hx;rcases bK.mp hx with h | h
   ·obtain⟨F',h1,h2⟩:=bQ.mp h;exact .inl ⟨F',nZ h1,h2.symm⟩
   ·exact .inr (bc.mp h)
  have eQ:Q.map Hu=(P.take 5).map fdP++[B]:=by
   rw[hQ,bz,bS];rfl
  have Vr:vB (.ag (Q.map Hu)):=eN (λF hF=>by
   rcases mem _ hF with⟨F',h1,h2⟩ | h
   ·cases h2;exact hP _ h1
   ·cases h) (λp hp=>by
   rcases mem _ hp with⟨F',h1,h2⟩ | h
   ·cases h2
   ·cases h;exact hB) ⟨B,by rw[hQ];simp⟩ (by rw[hQ];simp;lia)
  refine⟨.ag (Q.map Hu),[],Vr,hW (HX (by rw[eQ];exact Al _ _ (cS sV _) hnB)),?_⟩
  rw[eQ];simp only[↓aR,x3,fz,e2,e3,e4,y0,y1,y2,y3,y4,z6,l5,hr,e7,e8];rw[eB];rfl
 ·obtain⟨x,bx,hx⟩:=kj (k+0) (C/21);have hx:run aG (k+1) "_law_bad_name" [.int (C/21)] []=_:=hx;have hj:C/7%3=0\/C/7%3=1\/C/7%3=2:=by lia
  have go:∀ps:List Kq,(∀q∈ps,q=(a1,pN)\/q=(a2,pN)\/q=(a3,pN)\/q=(x,pN))->(x,pN)∈ps->ps.length<=20->vB (.ag [.ag [.str a0,.ag (ps.map de),.aK,.ag [],HW]]):=λps h1 h2 h3=>tu (lG a0 (λq hq=>by rcases h1 q hq with rfl | rfl | rfl | rfl<;>exact qB) (λq hq=>by
   rcases h1 q hq with rfl | rfl | rfl | rfl
   ·exact .inl o1
   ·exact .inl o2
   ·exact .inl o3
   ·exact .inr bx) h3 λ_ _ h _=>zV (h _ h2) bx)
  rcases hj with hj | hj | hj
  ·refine⟨_,[⟨.lst,[de (x,pN),de (a1,pN),de (a2,pN),de (a3,pN)]⟩],go [(x,pN),(a1,pN),(a2,pN),(a3,pN)] (by simp) (by simp) (by simp),rfl,?_⟩
   simp only[↓aR,x3,fz,e2,e3,e4,y0,y1,y2,y3,y4,z4,l3,hr,hx,hj];rfl
  ·refine⟨_,[⟨.lst,[de (a1,pN),de (x,pN),de (a2,pN),de (a3,pN)]⟩],go [(a1,pN),(x,pN),(a2,pN),(a3,pN)] (by simp) (by simp) (by simp),rfl,?_⟩
   simp only[↓aR,x3,fz,e2,e3,e4,y0,y1,y2,y3,y4,z4,l3,hr,hx,hj];rfl
  ·refine⟨_,[⟨.lst,[de (a1,pN),de (a2,pN),de (x,pN),de (a3,pN)]⟩],go [(a1,pN),(a2,pN),(x,pN),(a3,pN)] (by simp) (by simp) (by simp),rfl,?_⟩
   simp only[↓aR,x3,fz,e2,e3,e4,y0,y1,y2,y3,y4,z4,l3,hr,hx,hj];rfl
 ·have hj:C/21%4=0\/C/21%4=1\/C/21%4=2\/C/21%4=3:=by lia
  obtain⟨x,hx,e7⟩:∃x,(x=a1\/x=a2\/x=a3)/\dI [⟨.lst,[.ag [.str a1,pN],.ag [.str a2,pN],.ag [.str a3,pN]]⟩] (.ref 0) (.int (C/7%3))=some (.ag [.str x,pN]):=by
   have hi:C/7%3=0\/C/7%3=1\/C/7%3=2:=by lia
   rcases hi with h | h | h<;>rw[h]
   ·exact⟨a1,.inl rfl,rfl⟩
   ·exact⟨a2,.inr (.inl rfl),rfl⟩
   ·exact⟨a3,.inr (.inr rfl),rfl⟩
  have ox:cE x:=by rcases hx with rfl | rfl | rfl<;>assumption
  have go:∀ps:List Kq,(∀q∈ps,q=(a1,pN)\/q=(a2,pN)\/q=(a3,pN)\/q=(x,pN))->ps.length<=20->((ps.map (·.1)).Nodup->False)->vB (.ag [.ag [.str a0,.ag (ps.map de),.aK,.ag [],HW]]):=λps h1 h3 h4=>tu (lG a0 (λq hq=>by rcases h1 q hq with rfl | rfl | rfl | rfl<;>exact qB) (λq hq=>by
   rcases h1 q hq with rfl | rfl | rfl | rfl
   ·exact .inl o1
   ·exact .inl o2
   ·exact .inl o3
   ·exact .inl ox) h3 λ_ _ _ h=>h4 h)
  rcases hj with hj | hj | hj | hj
  ·refine⟨_,[⟨.lst,[de (x,pN),de (a1,pN),de (a2,pN),de (a3,pN)]⟩],go [(x,pN),(a1,pN),(a2,pN),(a3,pN)] (by simp) (by simp) (by rcases hx with rfl | rfl | rfl<;>simp),rfl,?_⟩
   simp only[↓aR,x3,fz,e2,e3,e4,y0,y1,y2,y3,y4,z4,l3,hr,e7,hj];rfl
  ·refine⟨_,[⟨.lst,[de (a1,pN),de (x,pN),de (a2,pN),de (a3,pN)]⟩],go [(a1,pN),(x,pN),(a2,pN),(a3,pN)] (by simp) (by simp) (by rcases hx with rfl | rfl | rfl<;>simp),rfl,?_⟩
   simp only[↓aR,x3,fz,e2,e3,e4,y0,y1,y2,y3,y4,z4,l3,hr,e7,hj];rfl
  ·refine⟨_,[⟨.lst,[de (a1,pN),de (a2,pN),de (x,pN),de (a3,pN)]⟩],go [(a1,pN),(a2,pN),(x,pN),(a3,pN)] (by simp) (by simp) (by rcases hx with rfl | rfl | rfl<;>simp),rfl,?_⟩
   simp only[↓aR,x3,fz,e2,e3,e4,y0,y1,y2,y3,y4,z4,l3,hr,e7,hj];rfl
  ·refine⟨_,[⟨.lst,[de (a1,pN),de (a2,pN),de (a3,pN),de (x,pN)]⟩],go [(a1,pN),(a2,pN),(a3,pN),(x,pN)] (by simp) (by simp) (by rcases hx with rfl | rfl | rfl<;>simp),rfl,?_⟩
   simp only[↓aR,x3,fz,e2,e3,e4,y0,y1,y2,y3,y4,z4,l3,hr,e7,hj];rfl
 ·obtain⟨p,bp,hx⟩:=km (k+0) (C/21);have hx:run aG (k+1) "_law_bad_kind" [.int (C/21)] []=_:=hx;have hj:C/7%3=0\/C/7%3=1\/C/7%3=2:=by lia
  have go:∀ps:List Kq,(∀q∈ps,q=(a1,pN)\/q=(a2,pN)\/q=(a3,pN)\/(q.2=p/\cE q.1))->(∃x,(x,p)∈ps)->ps.length<=20->vB (.ag [fdP ⟨a0,[],.aK,[],[.eM ""]⟩,.ag [.str a4,.ag (ps.map de),.aK,.ag [],HW]]):=λps h1 h2 h3=>by
   have hB:mP (.ag [.str a4,.ag (ps.map de),.aK,.ag [],HW]):=lG a4 (λq hq=>by
    rcases h1 q hq with rfl | rfl | rfl | h
    ·exact qB
    ·exact qB
    ·exact qB
    ·exact .inr (h.1▸bp.kd)) (λq hq=>by
    rcases h1 q hq with rfl | rfl | rfl | h
    ·exact .inl o1
    ·exact .inl o2
    ·exact .inl o3
    ·exact .inl h.2) h3 λ_ h _ _=>by obtain⟨x,hx⟩:=h2;exact h _ hx bp.kd
   have hG:gB ⟨a0,[],.aK,[],[.eM ""]⟩:=gP (by simp) (by simp) (by simp) (by simp) trivial (by simp) (by simp)
   generalize PV.ag [.str a4,.ag (ps.map de),.aK,.ag [],HW]=B at hB ⊢
   generalize (⟨a0,[],.aK,[],[.eM ""]⟩:Fd)=G at hG ⊢
   refine eN (Q:=[Fx.g G,Fx.b B]) (λF hF=>?_) (λq hq=>?_) ⟨B,by simp⟩ (by simp)
   ·simp only[aF,Fx.g.injEq,bf,bg,reduceCtorEq]at hF;rw[hF];exact hG
   ·simp only[aF,Fx.b.injEq,bf,bg,reduceCtorEq,false_or]at hq;rw[hq];exact hB
  have np:=bp.nr;have fp:∀(h':List aj) (ps:List PV),aD ps=true->hV h' (.ag [fdP ⟨a0,[],.aK,[],[.eM ""]⟩,.ag [.str a4,.ag ps,.aK,.ag [],HW]])=some (.ag [fdP ⟨a0,[],.aK,[],[.eM ""]⟩,.ag [.str a4,.ag ps,.aK,.ag [],HW]]):=λh' ps hps=>hW (by simp only[noRef,aD,sV,hps,Bool.and_self])
  have Yq:∀h,dI h (.lst ((xs.filter λx=>!decide (x∈P.map (·.nm))).map .str)) (.int (1+0))=some (.str a1):=y1
  have Yr:∀h,dI h (.lst ((xs.filter λx=>!decide (x∈P.map (·.nm))).map .str)) (.int (1+1))=some (.str a2):=y2
  have Ys:∀h,dI h (.lst ((xs.filter λx=>!decide (x∈P.map (·.nm))).map .str)) (.int (1+2))=some (.str a3):=y3
  rcases hj with hj | hj | hj
  ·refine⟨_,[⟨.lst,[de (a1,p),de (a2,pN),de (a3,pN)]⟩],go [(a1,p),(a2,pN),(a3,pN)] (by simp[o1]) ⟨a1,by simp⟩ (by simp),fp _ _ (by simp[de,aD,noRef,np]),?_⟩
   simp only[↓aR,x3,fz,e2,e3,e4,y0,y1,y2,y3,Yq,Yr,Ys,y4,z4,l3,hr,hx,hj];rfl
  ·refine⟨_,[⟨.lst,[de (a1,pN),de (a2,p),de (a3,pN)]⟩],go [(a1,pN),(a2,p),(a3,pN)] (by simp[o2]) ⟨a2,by simp⟩ (by simp),fp _ _ (by simp[de,aD,noRef,np]),?_⟩
   simp only[↓aR,x3,fz,e2,e3,e4,y0,y1,y2,y3,Yq,Yr,Ys,y4,z4,l3,hr,hx,hj];rfl
  ·refine⟨_,[⟨.lst,[de (a1,pN),de (a2,pN),de (a3,p)]⟩],go [(a1,pN),(a2,pN),(a3,p)] (by simp[o3]) ⟨a3,by simp⟩ (by simp),fp _ _ (by simp[de,aD,noRef,np]),?_⟩
   simp only[↓aR,x3,fz,e2,e3,e4,y0,y1,y2,y3,Yq,Yr,Ys,y4,z4,l3,hr,hx,hj];rfl
 ·have ls:=x1.s;have lm:=x1.m;rw[ah]at ls;obtain⟨M,hM⟩:∃M:List PV,M=(l.map λx=>PV.ag [.str x,.ag [],.aK,.ag [],HW]).take (7-P.length):=⟨_,rfl⟩
  have Ml:M.length+P.length=7:=by
   rw[hM,cY,ah]
   lia
  have nM:aD M=true:=by
   rw[hM,<-jR];exact cS (λ_=>rfl) _
  have e7:(l.map PV.str).length<=4000000:=by rw[ah];lia
  have e8:∀h,rP h none (some (7-(P.length:Int))) (.lst (l.map λx=>.ag [.str x,.ag [],.aK,.ag [],HW]))=some (.lst M):=λh=>by
   rw[show(7:Int)-(P.length:Int)=((7-P.length:Nat):Int) by lia]
   show some (PV.lst (ej _ none (some ((7-P.length:Nat):Int))))=_;rw[mv,hM]
  have e9:=λh=>Aj (a:=P.map fdP) (b:=M) (h:=h) (by rw[ah];lia)
  have Qx:∀h,uF h [.lst M]=some (.ag M):=λh=>rfl
  have UA:=λh=>jr (f:=fdP) (L:=P) (h:=h)
  rw[hL]at e7 e8;refine⟨.ag (P.map fdP++M),[⟨.lst,[de (a1,pN),de (a2,pN),de (a3,pN)]⟩],sZ (.inr (by rw[bC,ah];lia)),hW (HX (Al _ _ (cS sV _) nM)),?_⟩
  simp only[↓aR,x3,fz,e2,e3,e4,y0,y1,y2,y3,y4,z4,l3,hr,e7,e8,e9,Qx,UA];rfl
end bZ
set_option maxHeartbeats 2000000
namespace bZ
open PySem L2 L2.U
theorem nj(k:Nat){ps:List Ky}{l:List Str}(hp:ps.length<=1000):run aG (k+2) "are_sources" [.ag (l.map .str),.ag (ps.map bY)] []=some (.ok (.bl (decide (l=(Hg ps).filter λx=>decide (x∈l)))),[]):=by
 have e1:(ps.map bY).length<=4000000:=by rw[ah];lia
 have e2:((ps.filter λq=>kz q.2).map λq=>PV.str q.1).length<=4000000:=by
  have:=nV (λq:Ky=>kz q.2) ps
  rw[ah]
  lia
 have e3:List.map (λx=>PV.str x.fst) (List.filter (λx=>decide (x.fst∈l)) (List.filter (λx=>kz x.snd) ps))=((Hg ps).filter λx=>decide (x∈l)).map PV.str:=by
  unfold Hg;rw[List.filter_map,bS];rfl
 rw[iu];simp only[↓aR,e1,e2,e3,gh,Bs,Br]
theorem Am(k:Nat){ps:List Ky}{l:List Str}(w:Bool)(s:Sx)(hp:ps.length<=1000):run aG (k+11) "is_result" [.ag [.str (lI w),fT s,.ag (l.map .str)],.ag (ps.map bY)] []=some (.ok (.bl (decide (l=(Hg ps).filter λx=>decide (x∈l)))),[]):=by
 have e1:∀k,run aG (k+9) "is_shape" [.ag [.str (lI w),fT s,.ag (l.map .str)]] []=some (.ok (.bl false),[]):=λk=>by cases w<;>kernel_rfl
 have e2:∀k,run aG (k+2) "is_tuple_of" [.ag [.str (lI w),fT s,.ag (l.map .str)],.int 3] []=some (.ok (.bl true),[]):=λk=>bt k _ _ rfl
 have e3:=λk=>nj k (l:=l) hp
 rw[eF];simp only[↓aR,e1,e2,e3,ez]
theorem An(k:Nat)(q:PV)(w:Bool){p:PV}(hp:HP p):run aG (k+11) "is_result" [.ag [.str (lI w),p,.ag []],q] []=some (.ok (.bl false),[]):=by
 have e1:∀k,run aG (k+9) "is_shape" [.ag [.str (lI w),p,.ag []]] []=some (.ok (.bl false),[]):=λk=>by cases w<;>kernel_rfl
 have e2:∀k,run aG (k+2) "is_tuple_of" [.ag [.str (lI w),p,.ag []],.int 3] []=some (.ok (.bl true),[]):=λk=>bt k _ _ rfl
 have e3:∀k,run aG (k+2) "is_tuple_of" [.ag [.str (lI w),p],.int 2] []=some (.ok (.bl true),[]):=λk=>bt k _ _ rfl
 have e4:=hp.sh;have e5:∀k,run aG (k+10) "is_holder_kind" [.ag [.str (lI w),p]] []=some (.ok (.bl false),[]):=λk=>by
  rw[dF];cases w<;>(simp only[lI,dE,cW,cu]at e3;simp only[↓aR,e3,e4])
 rw[eF];simp only[↓aR,e1,e2,e5]
noncomputable def Qy(n:Str):Fd:=⟨n,[],.aK,[],[.eM ""]⟩
noncomputable def vC(a b c:Str):List Ky:=[(a,.ho false .nu),(b,.ho true .nu),(c,.ow .nu)]
noncomputable def Qz(b d:Str):List Rw:=[.ig false d ⟨b,true,[],.aK⟩,.eM d]
def Mf(a b c d e:Str)(r:PV):Gh:=⟨.str e,xy (vC a b c),r,xy [(d,.ho false .nu)],(Qz b d).map bJ⟩
def Vs(a b c d e:Str)(l:List Str):Fd:=⟨e,vC a b c,.m5 false .nu l,[(d,.ho false .nu)],Qz b d⟩
section
variable {n a b c d e:Str} (hn:cE n) (hd:[a,b,c,d].Nodup) (ho:∀x∈[a,b,c,d,e],cE x) (hne:n≠e)
include hn hd ho hne
theorem Ao{r:PV}(h:∀k,run aG (k+11) "is_result" [r,.ag ((vC a b c).map bY)] []=some (.ok (.bl false),[])):vB (.ag [fdP (Qy n),DP (Mf a b c d e r)]):=by
 have hB:gB (Qy n):=gP (by simp) (by simp) (by simp) (by simp) trivial (by simp) (by simp)
 refine eN (Q:=[.g (Qy n),.b (DP (Mf a b c d e r))]) (λF hF=>?_) (λp hp=>?_) ⟨DP (Mf a b c d e r),by simp⟩ (by simp)
 ·simp only[aF,Fx.g.injEq,bf,bg,reduceCtorEq]at hF;rw[hF];exact hB
 ·simp only[aF,Fx.b.injEq,bf,bg,reduceCtorEq,false_or]at hp;rw[hp];have mem:∀q∈(Mf a b c d e r).ps++(Mf a b c d e r).ls,q=(a,cA (.ho false .nu))\/q=(b,cA (.ho true .nu))\/q=(c,cA (.ow .nu))\/q=(d,cA (.ho false .nu)):=λq hq=>by
   simpa[Mf,xy,vC]using hq
  refine PH _ (λq hq=>?_) (λq hq=>.inl ?_) (by simp[Mf,xy,vC]) (by simp[Mf,Qz]) (d:=false) (λk=>?_) ?_
  ·rcases mem q hq with rfl | rfl | rfl | rfl
   ·exact .inl ⟨.ho false .nu,rfl⟩
   ·exact .inl ⟨.ho true .nu,rfl⟩
   ·exact .inl ⟨.ow .nu,rfl⟩
   ·exact .inl ⟨.ho false .nu,rfl⟩
  ·rcases mem q hq with rfl | rfl | rfl | rfl<;>exact ho _ (by simp)
  ·show run aG (k+11) "is_result" [r,.ag ((xy (vC a b c)).map de)] []=_;rw[jt];exact h k
  ·rintro⟨_,_,_,_,_,h6,_⟩
   cases h6
theorem Lf{l:List Str}(hl:xo (vC a b c) l)(k:Nat):run aG (k+17) "is_right" [.ag [fdP (Qy n),fdP (Vs a b c d e l)]] []=some (.ok (.bl true),[]):=by
 have rz:=hd;simp only[dR,aF,bf,bg,not_or,jM,and_true,yc]at rz;obtain⟨⟨n1,n2,n3⟩,⟨n4,n5⟩,n6⟩:=rz;have hB:gB (Qy n):=gP (by simp) (by simp) (by simp) (by simp) trivial (by simp) (by simp)
 have hF:gB (Vs a b c d e l):=gP (by simp[vC]) (by simp) (λq hq=>by
  simp only[vC,yl,dS,aF,bf,bg]at hq;rcases hq with rfl | rfl | rfl | rfl<;>exact ho _ (by simp)) (by simpa[vC]using hd) hl (by simp[Qz]) (by simp[Qz])
 have ok:Hw [Qy n,Vs a b c d e l]:=by
  refine⟨by simp,by simp,λF h=>?_,λF h=>?_,?_,λF h=>?_,λF h=>?_,λF h=>?_⟩
  ·simp only[aF,bf,bg]at h;rcases h with rfl | rfl
   ·exact hB
   ·exact hF
  ·simp only[aF,bf,bg]at h;rcases h with rfl | rfl
   ·exact hn
   ·exact ho e (by simp)
  ·show [n,e].Nodup;simpa using hne
  ·cases h;exact⟨rfl,λq h=>by cases h⟩
  ·simp only[aF,bf,bg]at h;rcases h with rfl | rfl
   ·exact λ_=>rfl
   ·intro z;cases z
  ·simp only[aF,bf,bg]at h;rcases h with rfl | rfl
   ·intro r hr;rw[bc.mp hr];rfl
   ·intro r hr;have kd:cx (vC a b c++[(d,.ho false .nu)]) d=some (.ho false .nu):=by
     simp[vC,cx,n3,n5,n6]
    have kb:cx (vC a b c++[(d,.ho false .nu)]) b=some (.ho true .nu):=by
     simp[vC,cx,n1]
    simp only[Vs,Qz,aF,bf,bg]at hr;rcases hr with rfl | rfl
    ·exact⟨.ho true .nu,.nu,⟨kb,rfl,⟨0,bc.mpr rfl⟩,trivial⟩,rfl,(λz=>nomatch z),kd⟩
    ·exact kd
 have:=mx ok k;exact this
end
theorem DI(k:Nat){P:List Fd}(hP:Hw P)(C:Int):∃(p:PV) (h':List aj),(∀k,run aG (k+17) "is_right" [p] []=some (.ok (.bl (decide (C%15<4))),[]))/\hV h' p=some p/\run aG (k+2) "_law_sources" [.ag (P.map fdP),.int C] []=some (.ok p,h'):=by
 have hl:=hP.m;obtain⟨xs,x1,x2,x3⟩:=my k (P.map (·.nm)) (C/15);obtain⟨l,hL⟩:∃l,l=xs.filter λx=>!decide (x∈P.map (·.nm)):=⟨_,rfl⟩
 rw[<-hL]at x1;obtain⟨a,b,c,d,e,f,⟨t,ht⟩,hd,ho⟩:=ZN x1 (by rw[ah];exact hl)
 obtain⟨F0,h0⟩:∃F,P[0]?=some F:=⟨_,bB hP.l⟩
 have hn:=hP.n F0 (eV h0);have hne:F0.nm≠e:=λz=>(x1.o e (by rw[ht];simp)).2 (z▸iI (f:=(·.nm)) (eV h0))
 have Vt:[a,b,c,d].Nodup:=hd.sublist (by simp)
 have Vu:∀x∈[a,b,c,d,e],cE x:=λx hx=>ho x (by simp only[aF,bf,bg]at hx ⊢;rcases hx with h | h | h | h | h<;>simp[h])
 have fz:=dv (jq xs);have e2:(P.map fdP).length<=4000000:=by rw[ah];lia
 have e3:(xs.map PV.str).length<=4000000:=by rw[ah];lia
 have e4:=λh x=>qz (f:=λF:Fd=>F.nm) (h:=h) (x:=x) (l:=P)
 have e5:∀h,rP h none (some 5) (.lst (l.map .str))=some (.lst [.str a,.str b,.str c,.str d,.str e]):=λh=>by
  show some (PV.lst (ej (l.map .str) none (some ((5:Nat):Int))))=_;rw[mv,ht];rfl
 have e6:∀h,dI h (.ag (P.map fdP)) (.int 0)=some (fdP F0):=λh=>atI_nat (j:=0) (by rw[aX,h0];rfl)
 have na:("":Str)≠a/\("":Str)≠b:=⟨λz=>by have:=(ho a (by simp)).l;rw[<-z]at this;exact absurd this (by decide),λz=>by have:=(ho b (by simp)).l;rw[<-z]at this;exact absurd this (by decide)⟩
 have rz:=hd;simp only[dR,aF,bf,bg,not_or,jM,and_true,yc]at rz;obtain⟨⟨n1,n2,n3,n4,n5⟩,⟨n6,n7,n8,n9⟩,⟨n10,n11,n12⟩,⟨n13,n14⟩,n15⟩:=rz;obtain⟨src,e7,hs⟩:∃src:List Str,(∀h,dI h (.lst [.ag [],.ag [.str a],.ag [.str a,.str b],.ag [.str b],.ag [.str a,.str a],.ag [.str b,.str a],.ag [.str d],.ag [.str c],.ag [.str ""],.ag [.str a,.str c],.ag [.str e],.ag [.str a,.str b,.str b],.ag [.str b,.str c],.ag [.str a,.str b,.str d],.ag []]) (.int (C%15))=some (.ag (src.map .str)))/\(C%15≠14->decide (src=(Hg (vC a b c)).filter λx=>decide (x∈src))=decide (C%15<4)):=by
  have hr:C%15=0\/C%15=1\/C%15=2\/C%15=3\/C%15=4\/C%15=5\/C%15=6\/C%15=7\/C%15=8\/C%15=9\/C%15=10\/C%15=11\/C%15=12\/C%15=13\/C%15=14:=by lia
  have hh:Hg (vC a b c)=[a,b]:=rfl;rw[hh];rcases hr with hr | hr | hr | hr | hr | hr | hr | hr | hr | hr | hr | hr | hr | hr | hr<;>rw[hr]
  ·exact⟨[],λ_=>rfl,λ_=>by simp⟩
  ·exact⟨[a],λ_=>rfl,λ_=>by simp[List.filter,bj n1]⟩
  ·exact⟨[a,b],λ_=>rfl,λ_=>by simp[List.filter]⟩
  ·exact⟨[b],λ_=>rfl,λ_=>by simp[List.filter,n1]⟩
  ·exact⟨[a,a],λ_=>rfl,λ_=>by simp[List.filter,bj n1]⟩
  ·exact⟨[b,a],λ_=>rfl,λ_=>by simp[List.filter,bj n1]⟩
  ·exact⟨[d],λ_=>rfl,λ_=>by simp[List.filter,n3,n7]⟩
  ·exact⟨[c],λ_=>rfl,λ_=>by simp[List.filter,n2,n6]⟩
  ·exact⟨[""],λ_=>rfl,λ_=>by simp[List.filter,bj na.1,bj na.2]⟩
  ·exact⟨[a,c],λ_=>rfl,λ_=>by simp[List.filter,n6,bj n1]⟩
  ·exact⟨[e],λ_=>rfl,λ_=>by simp[List.filter,n4,n8]⟩
  ·exact⟨[a,b,b],λ_=>rfl,λ_=>by simp[List.filter]⟩
  ·exact⟨[b,c],λ_=>rfl,λ_=>by simp[List.filter,n1,n2]⟩
  ·exact⟨[a,b,d],λ_=>rfl,λ_=>by simp[List.filter]⟩
  ·exact⟨[],λ_=>rfl,λz=>absurd rfl z⟩
 rw[hL]at e5;rw[vc];by_cases Vv:C%15=14
 ·obtain⟨p,p1,p2⟩:=km k (C/45);have hf:decide (C%15<4)=false:=aV (by lia)
  rw[hf];by_cases h3:0<C/15%3
  ·obtain⟨w,hw⟩:∃w,∀h,dI h (.lst [.str "lent",.str "sole"]) (.int (C/15%3-1))=some (.str (lI w)):=by
    have:C/15%3=1\/C/15%3=2:=by lia
    rcases this with h | h<;>rw[h]
    ·exact⟨false,λ_=>rfl⟩
    ·exact⟨true,λ_=>rfl⟩
   refine⟨_,[],Ao hn Vt Vu hne λk=>An k _ w p1,rfl,?_⟩
   simp only[↓aR,x3,fz,e2,e3,e4,e5,e6,e7,cF,Vv,p2,aP h3,hw];rfl
  ·refine⟨_,[],Ao hn Vt Vu hne λk=>p1.rs k _,rfl,?_⟩
   simp only[↓aR,x3,fz,e2,e3,e4,e5,e6,e7,cF,Vv,p2,aV h3];rfl
 ·have hs:=hs Vv;have UD:(C%15==14)=false:=by simpa using Vv
  by_cases h4:C%15<4
  ·rw[aP h4]at hs ⊢;refine⟨_,[],Lf hn Vt Vu hne (l:=src) (by unfold xo;exact cX hs),rfl,?_⟩
   simp only[↓aR,x3,fz,e2,e3,e4,e5,e6,e7,cF,UD];rfl
  ·rw[aV h4]at hs ⊢;refine⟨_,[],Ao hn Vt Vu hne (r:=.ag [.str "lent",pN,.ag (src.map .str)]) λk=>by have:=Am k (ps:=vC a b c) (l:=src) false .nu (by simp[vC]);rw[hs]at this;exact this,rfl,?_⟩
   simp only[↓aR,x3,fz,e2,e3,e4,e5,e6,e7,cF,UD];rfl
end bZ
set_option maxHeartbeats 2000000
namespace bZ
open PySem L2 L2.U
theorem HY{xs:List Str}(hx:xs.length=16)(jA:xs.Nodup){Hs:List Hd}(h6:Hs.length<=6)(hh:∀i H,Hs[i]?=some H->dZ xs i H){H H0:Hd}{i n:Nat}(hi:Hs[i]?=some H)(h0:Hs[0]?=some H0)(hn:1<=n){q:Ky}(hq:q∈H.ls)(hk:q.2=.ow .nu)(C:Int):∀r∈mU q.1 H0.nm H0.ps.length C,cB (sg Hs H n) r/\ki r=false:=by
 have hS:vq (sg Hs H n):=Uw hx jA (hh i H hi);have hM:P0 Hs H n (sg Hs H n):=Mb (qy hx jA h6 hh);have kq:cx (sg Hs H n).K q.1=some (.ow .nu):=by
  rw[fI hS.nd (by rw[hM.K];exact bK.mpr (.inr hq)),hk]
 have sp:eu (sg Hs H n) ⟨q.1,false,[],.aK⟩ (.ow .nu) .nu:=⟨kq,rfl,⟨0,bc.mpr rfl⟩,trivial⟩;have oS:jz (sg Hs H n) (.s ⟨q.1,false,[],.aK⟩):=⟨_,_,sp,rfl⟩;have o1:jz (sg Hs H n) (.n 1):=by constructor<;>decide
 have o5:jz (sg Hs H n) (.n 5):=by constructor<;>decide
 have oC:jz (sg Hs H n) (.n (C%10^30)):=⟨dQ _ (by decide),gk _ (by decide)⟩
 obtain⟨z1,z2⟩:=(hh 0 H0 h0).z rfl;intro r hr;simp only[mU,aF,bf,bg]at hr;rcases hr with rfl | rfl | rfl | rfl | rfl | rfl | rfl | rfl
 ·exact⟨oC,rfl⟩
 ·exact⟨⟨o1,oS,Int.le_refl 0,by show(0:Int)<(n:Int);lia⟩,rfl⟩
 ·exact⟨⟨⟨_,_,sp,rfl,rfl⟩,o5⟩,rfl⟩
 ·exact⟨⟨⟨_,_,sp,rfl,rfl⟩,.inl rfl,o1,oS⟩,rfl⟩
 ·exact⟨⟨_,_,_,sp,rfl,rfl,sp,rfl,rfl⟩,rfl⟩
 ·exact⟨⟨_,_,_,sp,rfl,rfl,sp,rfl,rfl⟩,rfl⟩
 ·exact⟨⟨_,_,sp,rfl,rfl⟩,rfl⟩
 ·obtain⟨a,l,s,g1,g2⟩:=hM.heads H0 (eV h0);refine⟨⟨H0.ps,H0.res,a,l,s,g1,g2,by simp,by have:=(hh 0 H0 h0).p;lia,λz hz=>?_,by rw[z1];rfl⟩,rfl⟩
  have h1:=(List.mem_replicate.mp (lR hz).1).2;rw[h1,kq,z2 _ (lR hz).2]
theorem UE{α:Type}(f:α->PV)(L:List α)(m:Int)(h:0<L.length):∃p∈L,∀H:List aj,dI H (.ag (L.map f)) (.int (m%(L.length:Int)))=some (f p):=by
 obtain⟨p,h1,h2⟩:=pick f L m h;exact⟨p,h1,λH=>h2 H⟩
section
variable {xs:List Str} (hx:xs.length=16) (jA:xs.Nodup) (hn:∀x∈xs,cE x) {Hs:List Hd} (h1:1<=Hs.length) (h6:Hs.length<=6) (hh:∀i H,Hs[i]?=some H->dZ xs i H) {P:List Fd} (hP:Uy xs Hs P)
include hx jA hn h1 h6 hh hP
theorem HZ{i:Nat}{F:Fd}(hi:P[i]?=some F){r:Rw}(hr:cB (sg Hs (Hs[i]?.getD default) (F.rw.take 31++[r]).length) r)(hl:ki r=false):vB (qA P i (Md F ((F.rw.take 31++[r]).map bJ))):=by
 have pU:=(b8.mp hi).1;obtain⟨F',DR⟩:∃F':Fd,F'=⟨F.nm,F.ps,F.res,F.ls,F.rw.take 31++[r]⟩:=⟨_,rfl⟩
 have e:qA P i (Md F ((F.rw.take 31++[r]).map bJ))=.ag ((P.set i F').map fdP):=by
  unfold qA;rw[BI pU,Mc pU,DR];simp only[Md,DP,jt,fdP]
 rw[e];obtain⟨H,a1,a2,a3,a4,a5⟩:=hP.a i F hi;rw[a1,yr]at hr;have tl:(F.rw.take 31).length<=31:=by rw[cY];lia
 have hQ:Uy xs Hs (P.set i F'):=by
  refine⟨by rw[lS];exact hP.l,λj G hG=>?_⟩
  by_cases ij:i=j
  ·subst ij;rw[nS pU]at hG;cases hG;refine⟨H,a1,by rw[DR,a2];rfl,by rw[DR];simp,by rw[DR];simp;lia,λr' ZP=>?_⟩
   rw[DR]at ZP ⊢;rcases bK.mp ZP with h | h
   ·refine rw_tr (S:=sg Hs H F.rw.length) rfl rfl ?_ (a5 r' (nZ h)) λ_ f ps res q l s hl=>?_
    ·show F.rw.length<=(F.rw.take 31++[r]).length;rw[bC,cY,nT]
     lia
    ·refine⟨q,l,s,?_,hl⟩;obtain⟨G,hG,g1,g2⟩:=Ai (λG:Hd=>G.nm) (λG=>.ag [.str G.nm,.ag (G.ps.map bY),fG G.res,.aK,.aK]) hl
     have:=(vx (λG:Hd=>G.nm) (λG=>.ag [.str G.nm,.ag (G.ps.map bY),fG G.res,.aK,.aK]) (qy hx jA h6 hh) hG).1
     rw[g1]at this;exact this
   ·rw[bc.mp h];exact hr
  ·rw[iH ij]at hG;exact hP.a j G hG
 refine Ae (BF hx jA hn h6 hh hQ h1) ⟨F',List.mem_set pU _,?_⟩;unfold vw;rw[DR];simp[hl]
theorem DJ(k:Nat)(C:Int):∃(p:PV),vB p/\∃h':List aj,hV h' p=some p/\run aG (k+4) "_law_changed" [.ag (P.map fdP),.int C] []=some (.ok p,h'):=by
 have ok:=BF hx jA hn h6 hh hP h1;have hl:=ok.m;have l0:(0:Int)<(P.length:Nat):=by have:=ok.l;lia
 obtain⟨i,hi0,pU⟩:∃i:Nat,C/12%(P.length:Int)=(i:Int)/\i<P.length:=⟨(C/12%(P.length:Int)).toNat,by have:=dQ (C/12) (show(P.length:Int)≠0 by lia);lia,by have:=gk (C/12) l0;have:=dQ (C/12) (show(P.length:Int)≠0 by lia);lia⟩
 obtain⟨F,hi⟩:∃F,P[i]?=some F:=⟨_,bB pU⟩
 obtain⟨F0,h0⟩:∃F,P[0]?=some F:=⟨_,bB ok.l⟩
 have hF:=ok.h F (eV hi);obtain⟨H,a1,a2,a3,a4,a5⟩:=hP.a i F hi;obtain⟨H0,b1,b2,_⟩:=hP.a 0 F0 h0;have ZQ:=hh i H a1;have m1:∀h,uz h (.int (C/12)) (.int (P.length:Nat))=some (.int (i:Int)):=λh=>by rw[gO l0,hi0]
 have e1:∀h,dI h (.ag (P.map fdP)) (.int (i:Int))=some (fdP F):=λh=>atI_nat (by rw[aX,hi];rfl)
 have e2:=λh=>jr (f:=fdP) (L:=P) (h:=h)
 have hr:C%12=0\/C%12=1\/C%12=2\/C%12=3\/C%12=4\/C%12=5\/C%12=6\/C%12=7\/C%12=8\/(C%12==0)=false/\(C%12==1)=false/\(C%12==2)=false/\(C%12==3)=false/\(C%12==4)=false/\(C%12==5)=false/\(C%12==6)=false/\(C%12==7)=false/\(C%12==8)=false:=by
  simp only[fK];lia
 rw[vd];rcases hr with hr | hr | hr | hr | hr | hr | hr | hr | hr | hr
 ·obtain⟨x,bx,mF⟩:=kj (k+2) (C/72);obtain⟨p,h',p1,p2,p3⟩:=DG (k+2) pU hl ok.h ok.n bx;refine⟨p,p1,[],rfl,?_⟩;have fz:hV h' p=some p:=hW p2;simp only[↓aR,m1,e1,e2,hr,mF,p3,fz]
 ·obtain⟨x,bx,mF⟩:=kj (k+2) (C/72);have hL:=HR (k+2) hi hl (by have:=hF.l;lia) x pN
  refine⟨_,lE ok.h hl pU (lF hF (HQ F x pN) rfl rfl [(x,pN)] rfl (λq hq=>by rw[bc.mp hq];exact qB) (λq hq=>by rw[bc.mp hq];exact .inr bx) (by simp) (by show(F.rw.map bJ).length<=1000;rw[ah];lia) λ_ h _ _ _ _=>zV (h _ (bc.mpr rfl)) bx),[],rfl,?_⟩
  simp only[↓aR,m1,e1,e2,hr,mF,hL]
 ·obtain⟨q,hq,hp⟩:=UE bY (F.ps++F.ls) (C/72) (by obtain⟨z,hz,_⟩:=ZQ.nu;rw[a2];exact eU (bK.mpr (.inr hz)))
  have n0:(0:Int)<((F.ps++F.ls).length:Nat):=by have:=eU hq;lia
  have m2:=λh=>gO (h:=h) (i:=C/72) n0
  have e3:=λh=>Hf (f:=bY) (a:=F.ps) (b:=F.ls) (h:=h) (by have:=hF.p;have:=hF.l;lia)
  have e4:=λh=>jr (f:=bY) (L:=F.ps++F.ls) (h:=h)
  have hL:=HR (k+2) hi hl (by have:=hF.l;lia) q.1 (cA q.2)
  refine⟨_,lE ok.h hl pU (lF hF (HQ F q.1 (cA q.2)) rfl rfl [(q.1,cA q.2)] rfl (λz hz=>by rw[bc.mp hz];exact .inl ⟨_,rfl⟩) (λz hz=>by rw[bc.mp hz];exact .inl (hF.n q hq)) (by simp) (by show(F.rw.map bJ).length<=1000;rw[ah];lia) λ_ _ h _ _ _=>?_),[],rfl,?_⟩
  ·have h:=(lN.mp h).2.2 q.1 (iI (f:=(·.1)) hq) q.1 (by simp)
   exact h rfl
  ·simp only[↓aR,m1,m2,e1,e2,e3,e4,hr,hp,hL]
 ·obtain⟨l,l1,l2⟩:=BH (k+1) hF (C/72);obtain⟨p,bp,mF⟩:=km (k+2) (C/72);obtain⟨x,t,ht⟩:∃x t,l=x::t:=by
   cases l with
   | nil =>
    have ls:=l1.s;have:=hF.p;have:=hF.l;rw[show(Il F).length=F.ps.length+F.ls.length by unfold Il;simp,oB]at ls
    lia
   | cons x t=>exact⟨x,t,rfl⟩
  have hx0:∀h,dI h (.lst (l.map .str)) (.int 0)=some (.str x):=λh=>atI_nat (j:=0) (by rw[ht];rfl)
  have hL:=HR (k+2) hi hl (by have:=hF.l;lia) x p
  refine⟨_,lE ok.h hl pU (lF hF (HQ F x p) rfl rfl [(x,p)] rfl (λq hq=>by rw[bc.mp hq];exact .inr bp.kd) (λq hq=>by rw[bc.mp hq];exact .inl (l1.o x (by rw[ht];simp)).1) (by simp) (by show(F.rw.map bJ).length<=1000;rw[ah];lia) λh _ _ _ _ _=>h _ (bc.mpr rfl) bp.kd),[],rfl,?_⟩
  simp only[↓aR,m1,e1,e2,hr,l2,mF,hx0,hL]
 ·obtain⟨p,p1,p2⟩:=xA k hi hl ok.h (C/72);refine⟨p,p1,[],rfl,?_⟩;simp only[↓aR,m1,e1,e2,hr,p2]
 ·have bd:∀R:List PV,R.length<=1000->(1<=R.length->R.length<=32->False)->vB (qA P i (Md F R)):=λR WA h2'=>lE ok.h hl pU (lF hF (Md F R) rfl rfl [] (by simp[Md]) (λq hq=>by cases hq) (λq hq=>by cases hq) (by simp) WA λ_ _ _ _ h3 h4=>h2' h3 h4)
  obtain⟨z,hz⟩:∃z,F.rw.getLast?=some z:=by
   cases DR:F.rw with
   | nil=>rw[DR]at a3;simp at a3
   | cons a l=>exact⟨_,List.getLast?_cons⟩
  obtain⟨m,hm,ZG,U3⟩:∃m:Nat,(33:Int)-(F.rw.length:Int)=(m:Int)/\1<=m/\m+F.rw.length=33:=⟨33-F.rw.length,by lia,by lia,by lia⟩
  have c1:∀h,rP h none (some 0) (.ag (F.rw.map bJ))=some (.ag []):=λh=>by
   show some (PV.ag (ej (F.rw.map bJ) none (some ((0:Nat):Int))))=_;rw[mv];rfl
  have c2:∀h,rP h (some (-1)) none (.ag (F.rw.map bJ))=some (.ag [bJ z]):=λh=>by
   show some (PV.ag (ej (F.rw.map bJ) (some (-1)) none))=_;have e:∀(ps:List PV) (v:PV),ps.getLast?=some v->ej ps (some (-1)) none=[v]:=λps v hv=>by
    obtain⟨qs,rfl⟩:=List.getLast?_eq_some_iff.mp hv;have s:HT.dy (qs++[v]).length 0 (some (-1))=qs.length:=by
     show(if(-1:Int)<0 then((-1:Int)+((qs++[v]).length:Int)).toNat else min ((-1:Int)).toNat (qs++[v]).length)=_
     rw[if_pos (by decide),bC,nT]
     lia
    unfold ej;rw[HT.oX,s];simp
   rw[e _ _ (by rw[List.getLast?_map,hz];rfl)]
  have c3:∀h,fY h (.ag [bJ z]) (.int (33-(F.rw.length:Int)))=some (.ag ((List.replicate m z).map bJ)):=λh=>by
   rw[hm];show(if _ then some (PV.ag (List.replicate ((m:Int)).toNat [bJ z]).flatten)else none)=_
   rw[if_pos (by refine⟨by lia,by lia,?_,?_⟩<;>simp),iM]
   have:∀n,(List.replicate n [bJ z]).flatten=(List.replicate n z).map bJ:=λn=>by
    induction n with
    | zero=>rfl
    | succ n ih=>rw[dO,gS,dO,aA,ih];rfl
   rw[this]
  have c4:=λh=>Hf (f:=bJ) (a:=F.rw) (b:=List.replicate m z) (h:=h) (by rw[xS];lia)
  have c5:=λh=>jr (f:=bJ) (L:=F.rw) (h:=h)
  have h2:C/72%2=0\/C/72%2=1:=by lia
  rcases h2 with h2 | h2
  ·refine⟨_,bd [] (by simp) (λz=>by simp at z),[],rfl,?_⟩
   have hL:=Ak (k+2) hi hl [];simp only[↓aR,m1,e1,e2,hr,h2,c1,c2,c3,c4,c5,hL]
  ·have Rl:((F.rw++List.replicate m z).map bJ).length=33:=by rw[ah,bC,xS];lia
   refine⟨_,bd ((F.rw++List.replicate m z).map bJ) (by lia) (λ_ z=>by lia),[],rfl,?_⟩
   have hL:=Ak (k+2) hi hl ((F.rw++List.replicate m z).map bJ);simp only[↓aR,m1,e1,e2,hr,h2,c1,c2,c3,c4,c5,hL]
 ·obtain⟨q,qs,hq⟩:∃q qs,F.ls.filter (λq=>decide (q.2=.ow .nu))=q::qs:=by
   obtain⟨q,g1,g2⟩:=ZQ.nu;have:q∈F.ls.filter (λq=>decide (q.2=.ow .nu)):=cq.mpr ⟨by rw[a2];exact g1,by simp[g2]⟩
   cases h:F.ls.filter (λq=>decide (q.2=.ow .nu))with
   | nil=>rw[h]at this;cases this
   | cons a l=>exact⟨a,l,rfl⟩
  have Ib:q∈F.ls.filter (λq=>decide (q.2=.ow .nu)):=by rw[hq];exact cz
  have ZR:=cq.mp Ib;obtain⟨r,r1,h',r2⟩:=P8 (k+2) hi h0 (by lia) (by have:=hF.l;lia) (by have:=(ok.h F0 (eV h0)).p;lia) qs hq (C/72)
  have c1:∀h,rP h none (some 31) (.ag (F.rw.map bJ))=some (.ag ((F.rw.take 31).map bJ)):=λh=>ik (n:=31)
  have c2:=λh p=>Ah (a:=(F.rw.take 31).map bJ) (p:=p) (h:=h) (by rw[ah,cY];lia)
  have hL:=Ak (k+2) hi hl ((F.rw.take 31).map bJ++[bJ r]);have fz:hV h' (bJ r)=some (bJ r):=hW (Bv r);have ZT:cB (sg Hs H (F.rw.take 31++[r]).length) r/\ki r=false:=by
   rcases bK.mp r1 with h | h
   ·have e0:F0.nm=H0.nm/\F0.ps=H0.ps:=by rw[b2];exact⟨rfl,rfl⟩
    rw[e0.1,e0.2]at h;exact HY hx jA h6 hh a1 b1 (by simp) (by have:=ZR.1;rw[a2]at this;exact this) (cX ZR.2) _ r h
   ·have h:=cq.mp h;refine⟨rw_tr (S:=sg Hs H F.rw.length) rfl rfl ?_ (a5 r h.1) λhc=>?_,?_⟩
    ·show F.rw.length<=(F.rw.take 31++[r]).length;rw[bC,cY,nT]
     lia
    ·cases r<;>first | (have h2:=h.2;cases h2;done) | (cases hc;done)
    ·cases r<;>first | rfl | (have:=h.2;cases this)
  have Vr:=HZ hx jA hn h1 h6 hh hP hi (r:=r) (by rw[a1];exact ZT.1) ZT.2
  rw[bz]at Vr;refine⟨_,Vr,[],rfl,?_⟩;simp only[↓aR,m1,e1,e2,hr,r2,fz,c1,c2,hL];rfl
 ·obtain⟨F',DR⟩:∃F':Fd,F'=⟨F0.nm,F.ps,F.res,F.ls,F.rw⟩:=⟨_,rfl⟩
  have p1:P.take 1=[F0]:=by
   cases P with
   | nil=>cases h0
   | cons a l=>cases h0;rfl
  have c1:∀h,rP h none (some 1) (.ag (P.map fdP))=some (.ag ((P.take 1).map fdP)):=λh=>ik (n:=1)
  have c2:∀h,dI h (.ag (P.map fdP)) (.int 0)=some (fdP F0):=λh=>atI_nat (j:=0) (by rw[aX,h0];rfl)
  have c3:=λh=>ik (f:=fdP) (L:=P) (n:=i) (h:=h)
  have c4:=λh=>js (f:=fdP) (L:=P) (n:=i) (h:=h)
  have c5:=λh p=>Ah (a:=(P.take i).map fdP) (p:=p) (h:=h) (by rw[ah,cY];lia)
  have c6:=λh p=>Aj (a:=(P.take i).map fdP++[p]) (b:=(P.drop (i+1)).map fdP) (h:=h) (by simp;lia)
  have c7:=λh p=>Aj (a:=(P.take i).map fdP++[p]++(P.drop (i+1)).map fdP) (b:=(P.take 1).map fdP) (h:=h) (by simp;lia)
  have mem:∀G∈P.set i F'++P.take 1,gB G/\cE G.nm:=λG hG=>by
   rcases bK.mp hG with h | h
   ·rcases xH h with h | h
    ·exact⟨ok.h G h,ok.n G h⟩
    ·rw[h,DR];exact⟨⟨hF.p,hF.l,hF.n,hF.d,hF.r,hF.w,hF.x⟩,ok.n F0 (eV h0)⟩
   ·have:=nZ h;exact⟨ok.h G this,ok.n G this⟩
  refine⟨.ag ((P.set i F'++P.take 1).map fdP),mT (λG hG=>(mem G hG).1) (λG hG=>.inl (mem G hG).2) (by simp;lia) (λ_ hd=>?_),[],rfl,?_⟩
  ·rw[bz]at hd;have:=(lN.mp hd).2.2 F0.nm (bQ.mpr ⟨F',List.mem_set pU _,by rw[DR]⟩) F0.nm (by rw[p1];simp)
   exact this rfl
  ·rw[bz,Mc pU,DR];simp only[↓aR,m1,e1,e2,hr,c1,c2,c3,c4,c5,c6,c7,fdP]
 ·refine⟨.ag [],sZ (.inl rfl),[],rfl,?_⟩;simp only[↓aR,m1,e1,e2,hr]
 ·obtain⟨p,h',p1,p2,p3⟩:=Le (k+1) ok.h hl (C/72);refine⟨p,p1,[],rfl,?_⟩;obtain⟨g0,g1,g2,g3,g4,g5,g6,g7,g8⟩:=hr;simp only[↓aR,m1,e1,e2,cF,g0,g1,g2,g3,g4,g5,g6,g7,g8,p3,p2]
end
end bZ
set_option maxHeartbeats 4000000
namespace bZ
open PySem L2 L2.U
theorem UG{h:List aj}{b:Bool}:JD h (.bl b) (.bl b)=some (.bl false):=by cases b<;>rfl
section
variable {xs:List Str} (hx:xs.length=16) (jA:xs.Nodup) (hn:∀x∈xs,cE x) {Hs:List Hd} (h1:1<=Hs.length) (h6:Hs.length<=6) (hh:∀i H,Hs[i]?=some H->dZ xs i H) {P:List Fd} (hP:Uy xs Hs P)
include hx jA hn h1 h6 hh hP
theorem xB(k:Nat){x0 x1:Option PV}:∀(cs:List Int) (x3 x4 x5:Option PV),∃Uh Ho DA,ef (cO 3) (Bp (run aG (k+21))) (cs.map .int) ⟨[x0,x1,some (.ag (P.map fdP)),x3,x4,x5],[]⟩=some (.ok .nx,⟨[x0,x1,some (.ag (P.map fdP)),Uh,Ho,DA],[]⟩)
 | [],x3,x4,x5=>⟨x3,x4,x5,rfl⟩
 | C::cs,x3,x4,x5=>by
  have ok:=BF hx jA hn h6 hh hP h1;obtain⟨p,p1,h',p2,p3⟩:=DJ hx jA hn h1 h6 hh hP (k+17) (C*48271%2147483647);obtain⟨q,g',q1,q2,q3⟩:=DI (k+19) ok (C*69621%2147483629);obtain⟨y3,y4,y5,h⟩:=xB k (x0:=x0) (x1:=x1) cs (some (.int C)) (some (.int (C*69621%2147483629))) (some (.bl (decide (C*69621%2147483629%15<4))));have e1:∀h,fY h (.int C) (.int 48271)=some (.int (C*48271)):=λh=>DQ (.inr (by decide))
  have e2:∀h,fY h (.int C) (.int 69621)=some (.int (C*69621)):=λh=>DQ (.inr (by decide))
  have p1:=p1 (k+4);have q1:=q1 (k+4);refine⟨y3,y4,y5,?_⟩;rw[aA];refine du ?_;simp only[↓kB,e1,e2,p1,p2,p3,q1,q2,q3,UG,h]
end
theorem H9(ns:List Int)(h:ns.length<=63):Vg (run aG 22 "law" [zE ns] []):=by
 obtain⟨xs,Hs,x1,x2,x3,s1,s2,s3,s4⟩:=K8 18 ns;obtain⟨cs,c1,c2⟩:∃cs:List Int,cs.length<=63/\∀h,rP h (some 9) (some 72) (zE ns)=some (.lst (cs.map .int)):=by
  refine⟨(ns.take 72).drop 9,?_,λh=>?_⟩
  ·rw[tQ,cY];lia
  ·show some (PV.lst (ej (ns.map .int) (some ((9:Nat):Int)) (some ((72:Nat):Int))))=_;rw[nK,oF,jR]
 obtain⟨ds,c3⟩:∃ds:List Int,∀h,rP h (some 9) (some 33) (zE ns)=some (.lst (ds.map .int)):=by
  refine⟨(ns.take 33).drop 9,λh=>?_⟩
  show some (PV.lst (ej (ns.map .int) (some ((9:Nat):Int)) (some ((33:Nat):Int))))=_;rw[nK,oF,jR]
 obtain⟨f,h',f1,f3,f4⟩:=DE 7 x1 x2 s2 s3 c1;obtain⟨P,hP⟩:∃P,P=(List.range Hs.length).map f:=⟨_,rfl⟩
 rw[<-hP]at f3 f4;have eP:(List.range Hs.length).map (λi=>fdP (f i))=P.map fdP:=by rw[hP,bS];rfl
 have r0:run aG 21 "is_right" [.ag (P.map fdP)] []=some (.ok (.bl true),[]):=by
  have:=mx (BF x1 x2 x3 s2 s3 f3 s1) 4;rw[dn.mpr f4]at this;exact this
 have e8:∀h,uF h [.lst ((List.range Hs.length).map λi=>fdP (f i))]=some (.ag (P.map fdP)):=λh=>by rw[<-eP];rfl
 have e1:=Dw (n:=Hs.length) (by lia)
 have e2:(List.range Hs.length).length<=4000000:=by rw[gm];lia
 have e3:∀i∈List.range Hs.length,run aG 21 "_law_function" [.lst (Hs.map fV),.int (i:Int),.lst (cs.map .int)] []=some (.ok (fdP (f i)),h' i):=λi hi=>f1 i (dB.mp hi)
 have e5:∀i,hV (h' i) (fdP (f i))=some (fdP (f i)):=λi=>hW (sV _)
 obtain⟨y3,y4,y5,hl⟩:=xB x1 x2 x3 s1 s2 s3 f3 0 (x0:=some (zE ns)) (x1:=some (.lst (Hs.map fV))) ds none none none
 delta Bp kx at hl
 rw[show run aG 22 "law"=_ from KN 21]
 have go:∀o:Option (Rs PV×List aj),o=some (.ok (.bl true),[])->Vg o:=λo h=>⟨[],h⟩
 refine go _ ?_;simp only[↓aR,s4,c2,c3,bR,ah,e1,e2,e3,e5,e8,r0,hl]
end bZ
noncomputable section
namespace bZ
open PySem L2 L2.U
end bZ
open PySem PySem.W PyProof.Rows PySem.Calls
theorem PySem.Challenge.cw_lendrule_k17_heads_that_are_not_right_holds : PySem.Challenge.rw_lendrule_k17_heads_that_are_not_right.Holds := by
 exact bZ.iS λd h1 h2=>L2.U.GY (P:=bZ.aG) (N:=22) (st:=bZ.T6) (x:="_law_script") (l:=PySem.Challenge.rw_lendrule_k17_heads_that_are_not_right) (by kernel_rfl) (by kernel_rfl) rfl h1 h2 ⟨rfl,by decide,by decide⟩ (by kernel_rfl) (λw h Y=>Y) bZ.H9
end
