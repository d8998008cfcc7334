import PyProof.Rows.All
import KE.KSortTup
import KE.KDictOf
import KE.KNestM
import KE.KItemsList
import KE.KIsAll
import KE.KLam
import KE.KRevIter
import KE.KSortedM
import PyProof.StrWalks
import PyProof.SetKind
import PyProof.AttrMissHeap
import PyProof.DictUpdate
import KE.KUnpack
import PySem.Challenge.RW_lendrule_k19_whole_acts_fit_right_progra
set_option maxHeartbeats 0
set_option Elab.async false
set_option linter.all false
set_option maxRecDepth 100000
noncomputable section
section
open PySem PySem.Spec PyProof.Rows
def DR:=@List.findIdx?_eq_some_iff_getElem
def DS:=@List.eraseIdx_eq_take_drop_succ
def lD:=@PyProof.Rows.slot_tuple_getitem
def DT:=@PyProof.Rows.callWith_builtin1
def iF:=@List.eq_nil_of_length_eq_zero
def DU:=@PySem.F.slot_dict_setdefault
def DV:=@F.args_tuple_iterator_next_1
def DW:=@F.entry_tuple_iterator_next
def ej:=@PyProof.Rows.callWith_type1
def iG:=@List.getD_eq_getElem?_getD
def s9:=@F.slot_tuple_iterator_next
def DX:=@PySem.F.args_object_init_3
def DY:=@Calls.Name_function_global
def DZ:=@List.getElem?_append_right
def xW:=@F.slot_tuple_getattribute
def nV:=@List.getElem?_append_left
def b9:=@List.getElem?_eq_some_iff
def fH:=@List.getElem?_eq_none_iff
def nW:=@Array.getElem?_eq_getElem
def iH:=@AutoSeq1.wpAny_loadPart'
def td:=@List.filterMap_cons_none
def xX:=@F.slot_list_getattribute
def xY:=@PySem.F.args_tuple_mul_2
def xZ:=@PySem.F.args_tuple_add_2
def tf:=@List.filterMap_cons_some
def aR:=@List.getElem?_eq_getElem
def nX:=@PySem.F.plainAttrs_list
def x9:=@F.plain_set_update_loop
def ya:=@PySem.F.entry_tuple_mul
def yb:=@PySem.F.entry_tuple_add
def yc:=@List.filter_cons_of_pos
def yd:=@PySem.F.plainAttrs_dict
def ye:=@List.filter_cons_of_neg
def eX:=@wpAny_callSpecial?_slot
def gX:=@List.length_pos_of_mem
def gk:=@Option.map_eq_some_iff
def ax:=@Heap.get?_push_of_some
def iI:=@Heap.get?_update_other
def jH:=@Array.getElem?_eq_none
def tj:=@List.getElem?_set_self
def yf:=@PySem.F.slot_tuple_mul
def yg:=@PySem.F.slot_tuple_add
def lE:=@List.take_of_length_le
def ek:=@List.mem_append_right
def yh:=@wpAny_notOrdered_dict
def gY:=@List.getElem?_eq_none
def lF:=@List.getElem?_toArray
def iJ:=@Heap.get?_update_self
def yi:=@Nat.le_of_ble_eq_true
def lG:=@List.mem_iff_getElem?
def tm:=@builtinLookup_eq_fast
def yj:=@Array.getElem?_toList
def jI:=@Around.under_plainId
def bY:=@List.mem_cons_of_mem
def iK:=@List.mem_of_getElem?
def nY:=@Bool.and_eq_true_iff
def yk:=@wpAny_updateSeq_pair
def lH:=@List.getElem?_of_mem
def jJ:=@List.getElem?_set_ne
def yl:=@Obj.data_mapDictKeys
def nZ:=@List.mem_append_left
def ym:=@Heap.SameBut.update
def bc:=@Heap.get?_push_size
def n0:=@List.getElem?_range
def yn:=@List.filterMap_cons
def n4:=@List.mem_map_of_mem
def tq:=@F.plain_extend_loop
def er:=@PySem.mem_of_lookup
def gZ:=@List.replicate_succ
def lI:=@Array.length_toList
def g7:=@beq_eq_false_iff_ne
def iL:=@Int.emod_lt_of_pos
def n5:=@Nat.lt_of_le_of_lt
def dJ:=@Bool.false_ne_true
def jK:=@wpAny_setField_rec
def n6:=@tupleKind_room_in1
def yo:=@wpAny_pyIter_tuple
def bP:=@Nat.lt_of_lt_of_le
def cy:=@List.mem_cons_self
def iM:=@wpAny_Call_Name_kw
def cN:=@Bool.false_eq_true
def bF:=@List.mem_singleton
def cz:=@List.length_append
def n8:=@List.mem_filterMap
def yp:=@List.nodup_append
def fI:=@Function.comp_def
def jL:=@List.map_inj_left
def n9:=@List.take_sublist
def eY:=@of_decide_eq_true
def tu:=@List.reverse_cons
def yq:=@List.getElem?_inj
def tx:=@List.ext_getElem?
def yr:=@List.any_eq_false
def bg:=@List.getElem?_map
def yt:=@Bool.not_eq_true'
def lJ:=@Int.toNat_natCast
def jM:=@wpAny_newObj_type
def og:=@List.append_assoc
def iN:=@wpAny_truthy_bool
def yu:=@wpAny_dictEntries
def eZ:=@List.length_range
def lK:=@wpAny_pyIter_list
def bU:=@List.size_toArray
def jN:=@List.flatten_cons
def iO:=@decide_eq_true_eq
def lL:=@F.args_zip_next_1
def tD:=@List.take_length
def lM:=@List.length_take
def yv:=@List.getElem_mem
def yw:=@wpAny_pyIter_zip
def yx:=@List.mem_flatMap
def iP:=@beq_self_eq_true
def fg:=@wpAny_call_entry
def dY:=@List.all_eq_true
def yy:=@noFill_tuple_add
def bZ:=@List.length_cons
def oh:=@Option.bind_some
def yz:=@List.isEmpty_iff
def tF:=@wpAny_isInstance
def yA:=@Heap.IsList.push
def yB:=@Option.getD_none
def tH:=@List.any_eq_true
def oi:=@Around.in1_units
def tJ:=@List.length_drop
def lN:=@F.entry_zip_next
def yC:=@Nat.le_add_right
def tK:=@Heap.size_update
def lO:=@List.isEmpty_map
def lP:=@Nat.lt_succ_self
def yD:=@Option.getD_some
def jO:=@Nat.le_of_not_lt
def cY:=@List.not_mem_nil
def gm:=@List.lookup_cons
def aC:=@Bool.and_eq_true
def oj:=@wpAny_updateSeq
def om:=@List.forIn_cons
def tM:=@List.length_set
def iQ:=@codeAny_builtin
def yE:=@Heap.DictOf.new
def et:=@List.nil_append
def ah:=@List.length_map
def tN:=@Option.map_some
def cB:=@List.mem_append
def oo:=@List.find?_cons
def gq:=@List.nodup_cons
def tO:=@List.of_mem_zip
def oq:=@List.length_zip
def bQ:=@List.map_append
def jP:=@wpAny_passesOwn
def ot:=@wpAny_ite_false
def fj:=@F.slot_zip_next
def ou:=@List.cons.injEq
def cZ:=@List.mem_filter
def tP:=@List.length_nil
def bz:=@decide_eq_false
def fq:=@List.append_nil
def ox:=@Nat.min_eq_left
def bG:=@Option.some.inj
def tQ:=@typeLookup_type
def tU:=@wpAny_execs_nil
def gr:=@Int.emod_nonneg
def jQ:=@Bool.eq_iff_iff
def oy:=@List.foldl_cons
def yF:=@List.range_succ
def tV:=@List.forIn_nil
def tW:=@List.nodup_nil
def tY:=@isSubtype_stop
def fJ:=@wpAny_seqItems
def cH:=@List.mem_range
def tZ:=@Nat.mul_le_mul
def bf:=@decide_eq_true
def c6:=@Heap.size_push
def jR:=@plainId_quiet
def jS:=@wpAny_attempt
def t5:=@wpAny_onRaise
def bh:=@List.mem_cons
def gu:=@List.all_cons
def lQ:=@Bool.true_and
def t6:=@wpAny_standAt
def t7:=@List.map_take
def c7:=@wpAny_holding
def dM:=@Nat.lt_irrefl
def lR:=@List.any_cons
def aA:=@List.map_cons
def jT:=@Prod.mk.injEq
def iR:=@Paired.length
def lS:=@Nat.zero_add
def iS:=@Nat.le_of_eq
def aM:=@Nat.le_trans
def jU:=@wpAny_typeOf
def t8:=@Nat.le_of_lt
def g8:=@Nat.lt_trans
def az:=@Heap.lt_size
def lT:=@codeAny_mono
def cC:=@List.map_map
def cJ:=@List.mem_map
def bI:=@List.map_nil
def lU:=@Nat.ne_of_gt
def aO:=@Nat.ne_of_lt
def aq:=@Nat.le_refl
def fK:=@Nat.zero_le
def jV:=@sizeLine_eq
def cb:=@wpAny_field
def lV:=@wpAny_letGo
def ag:=@wpAny_pure
def oA:=@typeIs_int
def oB:=@strKind_is
def iT:=@wpAny_rule
def lW:=@beq_iff_eq
def af:=@wpAny_bind
def oC:=@wpAny_mono
def dN:=@call_meets
def aG:=@eq_of_beq
def c8:=@or_false
def lX:=@tail_any
def b6:=@if_false
def eu:=@congrArg
def bJ:=@Ne.symm
def dc:=@if_true
end
namespace Zu
end Zu
section
namespace L2
open PySem PySem.Spec PyProof.Rows
abbrev cL:=Sum Int Str
inductive V where
 | aV | bl (b:Bool) | int (i:Int) | str (x:Str) | PZ (b:Array UInt8) | Up (b:UInt64) | ref (a:Addr) | ty (n:String)
 deriving DecidableEq
def RelV:V->Value->Prop
 | .aV,u=>u=Value.none
 | .bl b,u=>u=Value.bool b
 | .int i,u=>∃t,u=Value.int i t
 | .str x,u=>∃t,u=Value.str x t
 | .PZ b,u=>∃t,u=Value.bytes b t
 | .Up b,u=>∃t,u=Value.float b t
 | .ref a,u=>u=Value.ref a
 | .ty n,u=>u=Value.type n
abbrev Vals:List V->List Value->Prop:=Paired RelV
noncomputable def kV:cL->V
 | .inl i=>.int i
 | .inr x=>.str x
inductive HO where
 /-- a list -/
 | lst (xs:List V)
 /-- a tuple (never Uq) -/
 | aj (xs:List V)
 /-- a dict La keys U9 ints and Qo;one La keys U9 tuples of ints and Qo (Lb empty one is Zv) -/
 | dK (kvs:List (cL×V)) | dT (xs:List (List cL×Addr×Value))
 /-- a set of ints: ak Ur,ak size -/
 | set (S:Int->Bool) (n:Nat)
 /-- an instance of Lb class at C,ak dict at dx,ak L9 -/
 | ins (C dx:Addr) (fs:List (Str×V))
 /-- Lb dict of Lb instance at x -/
 | own (x:Addr)
 /-- Lb dict of an P0 -/
 | xd (fs:List (Str×V))
 /-- a bound method,f of x -/
 | Us (f x:Addr)
 /-- a range D0 lo,lo+1,.. below hi -/
 | Ut (lo hi:Int)
 /-- a Qp Zw is X9 to Lb D0 (Lb Va;a dict while a loop Yb it): Zx,never written while it is so -/
 | vt (o:Obj) (u:HO)
 /-- a code Qq table -/
 | eO (q:Str)
 /-- any other Qp,by what is true of ak one D0 (a def of Yc own: Zy a S n:=HO.ext λh=>..) -/
 | ext (φ:Heap->Prop)
abbrev Hp:=Addr->Option HO
def Rd(H:Hp)(a:Addr)(u:HO):Prop:=H a=some u\/∃o,H a=some (.vt o u)
noncomputable def de:List Str:=["arrivals","empties","needs","held"]
def fx(K:W.Frag)(H:Hp)(a:Addr)(xs:List V):Prop :=
 Rd H a (.aj xs) \/
  ∃(o:Obj) (ak:Array Value) (n:Nat),K.lookup a=some o/\o.cls=.type "tuple"/\(o.data=.seq ak n/\o.dict=none)/\ak.size<=sizeLine/\Vals xs ak.toList
def gE(K:W.Frag)(H:Hp)(a:Addr)(xs:List V):Prop :=
 Rd H a (.lst xs)\/∃(ak:List Value) (n:Nat),K.lookup a=some {cls:=.type "list",data:=.seq ak.toArray n}/\ak.length<=sizeLine/\Vals xs ak
structure BL (K:W.Frag) (C:Addr):Prop where
 pg:W.plainGet K C Str.empty=true
 hd:W.hasDictIn K C=true
 po:W.plainOver K C=true
 sa:W.findIn K (.ref C) "__setattr__"=some (some (.builtin "object.__setattr__"))
def g9(K:W.Frag)(C:Addr)(f:Str):Prop:=W.findIn K (.ref C) f=some none
section
variable {X:Cx} {CX:D1} {k:Nat} {f C:Addr} {fd:FuncData} {ps:List Str} {sp:Sp} {Ld:List V} {ds:List Value} {E:XK} {x m:Str} {p pos kx:Pos} {e o:Expr} {es:List Expr} {ta:TE} {t:TA}
structure Mk (K:W.Frag) (C f:Addr):Prop where
 makes:W.makesIn K C=true
 init:W.findIn K (.ref C) "__init__"=some (some (.ref f))
 fn:W.isFn K (.ref f)=true
 kp:W.keepIn K (.ref C)=true
end
structure dn (N P:List Str) (sc:Scope):Prop where
 kind:sc.kind=.function
 co:sc.isCoroutine=false
 gen:sc.isGenerator=false
 nd:N.Nodup
 pre:N.take P.length=P
 par:∀x∈P,sc.names.lookup x=some .local\/sc.names.lookup x=some .cell
 nofree:∀y∈sc.names,y.2≠.free
noncomputable def gf(s:Stmt):Arguments:=match s with
 | .FunctionDef _ a _ _ _ _ _ _ _ _=>a
 | _=>{posonlyargs:=[],args:=[],vararg:=none,kwonlyargs:=[],kw_defaults:=[],kwarg:=none,defaults:=[]}
noncomputable def dq(s:Stmt):List Stmt:=match s with
 | .FunctionDef _ _ b _ _ _ _ _ _ _=>b
 | _=>[]
noncomputable def ay(s:Stmt):Scope:=match s with
 | .FunctionDef _ _ _ _ _ _ sc _ _ _=>sc
 | _=>{kind:=.function,names:=[],isGenerator:=false,isCoroutine:=false}
structure BM (K:W.Frag) (x qual:Str) (st:Stmt) (f:Addr) (fd:FuncData):Prop where
 ex:∃(oc:Value) (od:Option Addr) (kV doc pm:Value) (an:Option Addr) (eL ct:Value) (xN:Array (Option Value)),
  fd=W.fnOf x qual (gf st) (dq st) (ay st) .none kV doc pm an eL ct/\K.lookup f=some ⟨oc,od,.func fd,xN⟩/\W.codeIn K eL qual=true
 kp:W.keepIn K (.ref f)=true
section
variable {P:Program} {w:World} {K:W.Frag} {mg:Str->Option Value} {base:Heap}
def D2{st:Stmt}{oc:Value}{od an:Option Addr}{xN:Array (Option Value)}{kV doc pm eL ct:Value}(l:K.lookup f=some ⟨oc,od,.func (W.fnOf x qual (gf st) (dq st) (ay st) .none kV doc pm an eL ct),xN⟩)
  (c:W.codeIn K eL qual=true) (k:W.keepIn K (.ref f)=true):BM K x qual st f (W.fnOf x qual (gf st) (dq st) (ay st) .none kV doc pm an eL ct):=⟨⟨oc,od,kV,doc,pm,an,eL,ct,xN,rfl,l,c⟩,k⟩
end
section
variable {X:Cx} {ae:List (Addr×Obj)} {σ:St} {H:Hp} {s:Shared} {a b:Addr} {k:List cL} {v:V} {r:Value} {A:Around} {E:Value->Shared->Prop} {xs:List (List cL×Addr×Value)}
def ez(K:W.Frag)(H:Hp)(xs:List (List cL×Addr×Value)):Prop:=∀x∈xs,fx K H x.2.1 (x.1.map kV)
end
end L2
namespace L2.U
open PySem PySem.Spec PyProof.Rows
inductive Kd where
 | aj | lst | ins (C:Str) (ns:List Str) | eW (t:Bool) (ks:List (List cL))
inductive PV where
 | aV | bl (b:Bool) | int (i:Int) | str (x:Str) | ref (n:Nat) | fn (x:Str) | nd (k:Kd) (ps:List PV)
noncomputable abbrev PV.aj (ps:List PV):PV:=.nd .aj ps
structure Fz where
 F:Hp
 μ:List Addr
def ClsAt(K:W.Frag)(C:Str)(cls:Value):Prop:=W.nsIn K mainGlobals C=some (some cls)
def jW(K:W.Frag)(F H:Hp)(a:Addr)(x:Bool):Kd->List V->Prop
 | .aj,vs=>x=false/\fx K H a vs
 | .lst,vs=>if x=true then H a=some (.lst vs)else gE K H a vs
 | .ins C ns,vs=>∃Ca dx fs,ClsAt K C (.ref Ca)/\BL K Ca/\(∀f∈ns,g9 K Ca f)/\H a=some (.ins Ca dx fs)/\fs.map (·.1)=ns/\fs.map (·.2)=vs
 | .eW false ks,vs=>∃kvs:List (cL×V),H a=some (.dK kvs)/\kvs.map (λy=>[y.1])=ks/\kvs.map (·.2)=vs
 | .eW true ks,vs=>∃xs,H a=some (.dT xs)/\ez K F xs/\xs.map (·.1)=ks/\Vals vs (xs.map (·.2.2))
mutual
def aZ(K:W.Frag)(F:Fz):PV->V->Prop
 | .aV,v=>v=.aV
 | .bl b,v=>v=.bl b
 | .int i,v=>v=.int i
 | .str x,v=>v=.str x
 | .ref n,v=>∃a,F.μ[n]?=some a/\v=.ref a
 | .fn x,v=>∃a,v=.ref a/\W.nsIn K mainGlobals x=some (some (.ref a))
 | .nd k ps,v=>∃a vs,v=.ref a/\jW K F.F F.F a false k vs/\ao K F ps vs
def ao(K:W.Frag)(F:Fz):List PV->List V->Prop
 | [],vs=>vs=[]
 | p::ps,vs=>∃v r,vs=v::r/\aZ K F p v/\ao K F ps r
end
section
variable {K:W.Frag} {F F':Fz}
def ao.nil:ao K F [] []:=by simp[ao]
def ao.cons(h:aZ K F p v)(t:ao K F ps vs):ao K F (p::ps) (v::vs):=by
 simp only[ao];exact⟨v,vs,rfl,h,t⟩
def cG:aZ K F .aV v↔v=.aV:=by simp only[aZ]
def aS:aZ K F (.bl b) v↔v=.bl b:=by simp only[aZ]
def au:aZ K F (.int i) v↔v=.int i:=by simp only[aZ]
def bj:aZ K F (.str i) v↔v=.str i:=by simp only[aZ]
def hJ:aZ K F (.nd k ps) v↔∃a vs,v=.ref a/\jW K F.F F.F a false k vs/\ao K F ps vs:=by simp only[aZ]
def bt:aZ K F (.aj ps) v↔∃a vs,v=.ref a/\fx K F.F a vs/\ao K F ps vs :=
 hJ.trans ⟨(by rintro⟨a,vs,h1,h2,h3⟩;exact⟨a,vs,h1,h2.2,h3⟩),(by rintro⟨a,vs,h1,h2,h3⟩;exact⟨a,vs,h1,⟨rfl,h2⟩,h3⟩)⟩
end
structure Pg where
 defs:List (Str×Stmt)
 cons:List (Str×PV):=[]
 cD:List Str:=[]
 tabs:List (Str×List (Str×Str)):=[]
 dg:List (Str×List (Str×PV)):=[]
 cls:List (Str×Stmt):=[]
 flds:List Str:=[]
 qx:List Str:=[]
 Qr:List (Str×List (Str×Nat)):=[]
def params(st:Stmt):List Str:=(gf st).args.map λa=>a.arg
noncomputable def Qs:NameKind->Bool
 | .local=>true
 | .cell=>true
 | _=>false
def bV(st:Stmt):List Str:=params st++((ay st).names.filter λy=>Qs y.2&&!(params st).contains y.1).map λy=>y.1
structure D3 (K:W.Frag) (x:Str) (st:Stmt):Prop where
 ex:∃f fd,W.nsIn K mainGlobals x=some (some (.ref f))/\BM K x x st f fd/\∀us:List Value,us.length=(params st).length->bindArgs fd ⟨us,[]⟩=pure ((params st).zip us)
 sc:dn (bV st) (params st) (ay st)
def BN(K:W.Frag)(P:Params)(T:Str)(rows:List (Str×Str)):Prop :=
 ∃a es n,W.nsIn K mainGlobals T=some (some (.ref a))/\K.lookup a=some ⟨.type "dict",none,.dict es n,#[]⟩/\W.KeysLit P es.toList/\∀d∈rows,∃f,W.nsIn K a d.1=some (some (.ref f))/\W.nsIn K mainGlobals d.2=some (some (.ref f))
def Vb{K:W.Frag}{P:Params}{T:Str}{rows:List (Str×Str)}{a:Addr}{es:Array DictEntry}{n:Nat}(h1:W.nsIn K mainGlobals T=some (some (.ref a)))(h2:K.lookup a=some ⟨.type "dict",none,.dict es n,#[]⟩)(h3:W.KeysLit P es.toList)
  (h4:∀d∈rows,∃f,W.nsIn K a d.1=some (some (.ref f))/\W.nsIn K mainGlobals d.2=some (some (.ref f))):BN K P T rows:=⟨a,es,n,h1,h2,h3,h4⟩
noncomputable def Le:PV->Value->Bool
 | .int i,.int j _=>i==j
 | .str x,.str y _=>x==y
 | .bl a,.bool b=>a==b
 | .aV,.none=>true
 | _,_=>false
def t9:List PV->List Value->Bool
 | [],[]=>true
 | p::r,u::q=>Le p u&&t9 r q
 | _,_=>false
def Ma{K:W.Frag}{p:PV}{u:Value}(h:Le p u=true):∃v,RelV v u/\∀F,aZ K F p v:=by
 cases p<;>cases u<;>first | exact absurd h dJ | skip
 ·exact⟨.aV,rfl,λF=>cG.mpr rfl⟩
 ·cases aG h;exact⟨.bl _,rfl,λF=>aS.mpr rfl⟩
 ·cases aG h;exact⟨.int _,⟨_,rfl⟩,λF=>au.mpr rfl⟩
 ·cases aG h;exact⟨.str _,⟨_,rfl⟩,λF=>bj.mpr rfl⟩
def Ia{K:W.Frag}{ps:List PV}{us:List Value}(h:t9 ps us=true):∃vs,Vals vs us/\∀F,ao K F ps vs:=by
 induction ps generalizing us with
 | nil=>cases us;exact⟨[],.nil,λ_=>.nil⟩;cases h
 | cons p r ih =>
  cases us with
  | nil=>cases h
  | cons u q =>
   have h:=nY.mp h;obtain⟨v,a,b⟩:=Ma (K:=K) h.1;obtain⟨vs,h1,h2⟩:=ih h.2;exact⟨v::vs,.cons a h1,λF=>.cons (b F) (h2 F)⟩
def Ib{K:W.Frag}{g:Addr}{x:Str}{a:Addr}{ps:List PV}{us:List Value}{n:Nat}{sl:Array (Option Value)}(h1:W.nsIn K g x=some (some (.ref a)))(h2:K.lookup a=some ⟨.type "tuple",none,.seq us.toArray n,sl⟩)(h3:t9 ps us=true)(h4:us.length<=100) :
  ∃u v,W.nsIn K g x=some (some u)/\RelV v u/\∀F,aZ K F (.aj ps) v:=by
 obtain⟨vs,r,b⟩:=Ia h3;exact⟨_,.ref a,h1,rfl,λF=>bt.mpr ⟨a,vs,rfl,.inr ⟨_,us.toArray,n,h2,rfl,⟨rfl,rfl⟩,by rw[bU];exact aM h4 (by decide),by grind⟩,b F⟩⟩
def Ic{K:W.Frag}{g:Addr}{x:Str}{y:Str}{t:Tok}(a:W.nsIn K g x=some (some (.str y t))):∃u v,W.nsIn K g x=some (some u)/\RelV v u/\∀F,aZ K F (.str y) v:=⟨_,.str y,a,⟨t,rfl⟩,λF=>bj.mpr rfl⟩
def Ie{K:W.Frag}{g:Addr}{x:Str}{i:Int}{t:Tok}(a:W.nsIn K g x=some (some (.int i t))):∃u v,W.nsIn K g x=some (some u)/\RelV v u/\∀F,aZ K F (.int i) v:=⟨_,.int i,a,⟨t,rfl⟩,λF=>au.mpr rfl⟩
def vv(K:W.Frag)(P:Params)(T:Str)(rows:List (Str×PV)):Prop :=
 ∃a es n,(a==sysModules)=false/\W.nsIn K mainGlobals T=some (some (.ref a))/\K.lookup a=some ⟨.type "dict",none,.dict es n,#[]⟩/\W.KeysLit P es.toList/\∀d∈rows,∃u v,W.nsIn K a d.1=some (some u)/\RelV v u/\∀F,aZ K F d.2 v
def Mb(K:W.Frag)(C:Str)(st:Stmt)(flds:List Str):Prop:=∃Ca f fd,W.nsIn K mainGlobals C=some (some (.ref Ca))/\Mk K Ca f/\BL K Ca/\(∀g∈flds,g9 K Ca g)/\BM K "__init__" (C++".__init__") st f fd/\(∀us:List Value,us.length=(params st).length->bindArgs fd ⟨us,[]⟩=pure ((params st).zip us))/\dn (bV st) (params st) (ay st)
def Mc(K:W.Frag)(x:Str):Prop:=x∈de/\∃c T,W.tabIn K x=some (c,T)/\W.codeHdIn K c T=true
def D4(K:W.Frag):Prop:=∃bm o,W.nsIn K mainGlobals "__builtins__"=some (some (.ref bm))/\bm≠builtinsNs/\bm≠mainGlobals/\K.lookup bm=some o/\o.cls=.type "module"/\o.dict=some builtinsNs/\o.data=.plain
structure kz (K:W.Frag) (h:Heap):Prop where
 at_:∀x∈de,∀c T,W.tabIn K x=some (c,T)->W.codeHdIn K c T=true/\h.get? T=some {cls:=.none,data:=.fields #[]}/\K.lookup T=none
 nd:(de.filterMap λx=>(W.tabIn K x).map (·.2)).Nodup
def kz.keeps{K:W.Frag}{h h':Heap}(t:kz K h)(k:∀b o,h.get? b=some o->h'.get? b=some o):kz K h':=⟨λx hx c T e=>let ⟨h1,h2,h3⟩:=t.at_ x hx c T e;⟨h1,k _ _ h2,h3⟩,t.nd⟩
structure D5 (P:Pg) (w:World) (K:W.Frag):Prop where
 hd:∀d∈P.defs,D3 K d.1 d.2
 hc:∀d∈P.cons,∃u v,W.nsIn K mainGlobals d.1=some (some u)/\RelV v u/\∀F,aZ K F d.2 v
 hb:∀x∈P.cD,W.nsIn K mainGlobals x=some none
 ht:∀d∈P.tabs,BN K w.params d.1 d.2
 hcl:∀d∈P.cls,Mb K d.1 d.2 P.flds
 hct:∀d∈P.dg,vv K w.params d.1 d.2
 Yd:∀x∈P.qx,Mc K x
 hbm:P.qx≠[]->D4 K
noncomputable def vw:Value->List Addr
 | .ref a=>[a]
 | _=>[]
def q9:Option Obj->List Addr
 | some ⟨_,_,.dict es _,_⟩=>es.toList.flatMap λe=>vw e.val
 | some ⟨_,_,.func fd,_⟩=>vw fd.code
 | some ⟨_,_,.cls cd,_⟩=>cd.ns::cd.mro.flatMap vw
 | _=>[]
noncomputable def BO:Obj->Bool
 | ⟨.none,none,.fields vs,sl⟩=>vs.isEmpty&&sl.isEmpty
 | _=>false
def fragOf(h:Heap):List Addr->W.Frag
 | []=>[]
 | a::r=>match h.get? a with
  | some o=>if BO o=true then fragOf h r else(a,o)::fragOf h r
  | none=>fragOf h r
theorem fB(h:Heap):∀(as:List Addr) (b:Addr) (o:Obj),(fragOf h as).lookup b=some o->h.get? b=some o/\BO o=false
 | [],_,_,e=>nomatch e
 | a::r,b,o,e=>by
  unfold fragOf at e;split at e
  ·rename_i o' ho;split at e
   ·exact fB h r b o e
   ·rename_i ht;rw[gm]at e;cases z:b==a with
    | true =>
     rw[z]at e;cases e;rw[aG z];exact⟨ho,by simpa using ht⟩
    | false =>
     rw[z]at e;exact fB h r b o e
  ·exact fB h r b o e
theorem BP(h:Heap)(as:List Addr):(fragOf h as).In h:=λb o e=>(fB h as b o e).1
theorem Aw(h:Heap){b:Addr}{o:Obj}(h1:h.get? b=some o)(h2:BO o=false):∀as:List Addr,b∈as->(fragOf h as).lookup b=some o
 | a::r,hb=>by
  unfold fragOf;by_cases e:b=a
  ·subst e;rw[h1];show(if BO o=true then _ else _:W.Frag).lookup b=_
   rw[h2,if_neg dJ,gm,iP]
  ·have ih:=Aw h h1 h2 r ((bh.mp hb).resolve_left e);split
   ·split
    ·exact ih
    ·rw[gm,g7.mpr e];exact ih
   ·exact ih
theorem lY{h:Heap}{as bs:List Addr}{b:Addr}{o:Obj}(e:(fragOf h as).lookup b=some o)(hb:b∈bs):(fragOf h bs).lookup b=some o:=Aw h (fB h as b o e).1 (fB h as b o e).2 bs hb
noncomputable def Zz:Option Obj->List Addr
 | some ⟨_,_,.cls cd,_⟩=>[cd.ns]
 | _=>[]
def Md(h:Heap)(a:Addr):List Addr:=a::(q9 (h.get? a)++(Zz (h.get? a)).flatMap λb=>(q9 (h.get? b)).flatMap λc=>c::q9 (h.get? c))
def dQ(h:Heap):W.Frag:=fragOf h (mainGlobals::(q9 (h.get? mainGlobals)).flatMap (Md h))
noncomputable def Ig(K:W.Frag)(x:Str):Option FuncData:=match W.nsIn K mainGlobals x with
 | some (some (.ref f))=>(match K.lookup f with
  | some ⟨_,_,.func fd,_⟩=>(match W.codeIn K fd.code x with
   | true=>some {fd with kwdefaults:=.none,doc:=.none,pyModule:=.none,annotations:=none,code:=.none,closureTuple:=.none}
   | false=>none)
  | _=>none)
 | _=>none
def D6(h:Heap)(x:Str):Option FuncData:=match W.nsIn (fragOf h [mainGlobals]) mainGlobals x with
 | some (some (.ref f))=>(match(fragOf h [f]).lookup f with
  | some ⟨_,_,.func fd,_⟩=>(match W.codeIn (fragOf h (vw fd.code)) fd.code x with
   | true=>some {fd with kwdefaults:=.none,doc:=.none,pyModule:=.none,annotations:=none,code:=.none,closureTuple:=.none}
   | false=>none)
  | _=>none)
 | _=>none
def D7{h:Heap}{x:Str}{v:FuncData}(e:D6 h x=some v):Ig (dQ h) x=some v:=by
 unfold D6 at e;split at e
 ·rename_i f hf;split at e
  ·rename_i oc od fd xN hl;split at e
   ·rename_i hc;have hg:W.nsIn (dQ h) mainGlobals x=some (some (.ref f))/\f∈q9 (h.get? mainGlobals):=by
     unfold W.nsIn at hf ⊢;split at hf
     ·rename_i gc gd es gn gs hk;have k2:(dQ h).lookup mainGlobals=_:=lY hk cy;rw[k2,(fB _ _ _ _ hk).1];refine⟨hf,?_⟩;split at hf
      ·rename_i en ZA;have hv:en.val=.ref f:=bG (bG hf);exact yx.mpr ⟨en,List.mem_of_find?_eq_some ZA,by rw[hv];exact cy⟩
      ·split at hf<;>cases hf
     ·cases hf
    have mf:∀b∈Md h f,b∈mainGlobals::(q9 (h.get? mainGlobals)).flatMap (Md h):=λb hb=>bY _ (yx.mpr ⟨f,hg.2,hb⟩)
    have k3:(dQ h).lookup f=some ⟨oc,od,.func fd,xN⟩:=lY hl (mf f cy);have k4:W.codeIn (dQ h) fd.code x=true:=by
     unfold W.codeIn at hc ⊢;split at hc
     ·rename_i c DM;split at hc
      ·rename_i cc cdd vs csl hk;have:(dQ h).lookup c=_:=lY hk (mf c (bY _ (nZ _ (by rw[(fB _ _ _ _ hl).1];show c∈vw fd.code;rw[DM];exact cy))))
       rw[this];exact hc
      ·cases hc
     ·cases hc
    unfold Ig;rw[hg.1];dsimp only
    rw[k3];dsimp only
    rw[k4];exact e
   ·cases e
  ·cases e
 ·cases e
def D8(x:Str)(st:Stmt):FuncData:=W.fnOf x x (gf st) (dq st) (ay st) .none .none .none .none none .none .none
def Ih{K:W.Frag}{x:Str}{st:Stmt}(h:Ig K x=some (D8 x st)):∃f fd,W.nsIn K mainGlobals x=some (some (.ref f))/\BM K x x st f fd:=by
 unfold Ig at h;split at h
 ·rename_i f hf;split at h
  ·rename_i oc od fd xN hl;split at h
   ·rename_i hc;have h:=bG h;obtain⟨a1,a2,a3,a4,a5,a6,a7,a8,a9,ZC,ZD,ZE,ZF,ZG,ZH⟩:=fd;unfold D8 at h;simp only[FuncData.mk.injEq]at h;obtain⟨e1,e2,e3,e4,e5,e6,e7,e8,-,-,-,-,-,-,Vc⟩:=h;subst e1 e2 e3 e4 e5 e6 e7 e8 Vc;exact⟨f,_,hf,D2 hl hc (by unfold W.keepIn;dsimp only;rw[hl])⟩
   ·cases h
  ·cases h
 ·cases h
def Ax(K:W.Frag)(g:Addr)(d:Str×PV):Bool:=match W.nsIn K g d.1 with
 | some (some (.int j _))=>(match d.2 with | .int i=>i==j | _=>false)
 | some (some (.str y _))=>(match d.2 with | .str x=>x==y | _=>false)
 | some (some (.ref a))=>(match K.lookup a with
  | some ⟨.type t,none,.seq us _,_⟩=>(match d.2 with | .nd .aj ps=>(t=="tuple")&&(t9 ps us.toList&&decide (us.toList.length<=100)) | _=>false)
  | _=>false)
 | _=>false
def vx{K:W.Frag}{g:Addr}{x:Str}{p:PV}(h:Ax K g (x,p)=true):∃u v,W.nsIn K g x=some (some u)/\RelV v u/\∀F,aZ K F p v:=by
 unfold Ax at h;dsimp only at h
 split at h
 ·rename_i j t hn;split at h
  ·obtain rfl:=aG h;exact Ie hn
  ·cases h
 ·rename_i y t hn;split at h
  ·obtain rfl:=aG h;exact Ic hn
  ·cases h
 ·rename_i a hn;split at h
  ·rename_i t dd us n sl hl;split at h
   ·rw[aC,aC]at h;obtain⟨h1,h2,h3⟩:=h;obtain rfl:=aG h1;obtain⟨us⟩:=us;exact Ib hn hl h2 (eY h3)
   ·cases h
  ·cases h
 ·cases h
noncomputable def D9(K:W.Frag)(x:Str):Bool:=match W.nsIn K mainGlobals x with
 | some none=>true
 | _=>false
def Ea{K:W.Frag}{x:Str}(h:D9 K x=true):W.nsIn K mainGlobals x=some none:=by
 unfold D9 at h;split at h
 ·assumption
 ·cases h
abbrev OV:=Option (Option Value)
noncomputable def Ay(e:DictEntry):Option Str×Int:=(match e.key with
 | .str x _=>some x
 | _=>none,e.hash)
noncomputable def Eb(K:W.Frag)(a:Addr)(d:Str×Str):Bool:=match W.nsIn K a d.1,W.nsIn K mainGlobals d.2 with
 | some (some (.ref f)),some (some (.ref g))=>f==g
 | _,_=>false
def Ec(K:W.Frag)(T:Str)(rows:List (Str×Str)):Option (Value×Option Addr×Array (Option Value)×List (Option Str×Int)×Bool):=match W.nsIn K mainGlobals T with
 | some (some (.ref a))=>(match K.lookup a with
  | some ⟨c,dd,.dict es _,sl⟩=>some (c,dd,sl,es.toList.map Ay,rows.all (Eb K a))
  | _=>none)
 | _=>none
noncomputable def yG(P:Params)(rows:List (Str×Str)):Option (Value×Option Addr×Array (Option Value)×List (Option Str×Int)×Bool):=some (.type "dict",none,#[],rows.map (λd=>(some d.1,PyData.keyHash P d.1)),true)
theorem oE{β:Type}{P:Params}:∀{es:List DictEntry} {rows:List (Str×β)},es.map Ay=rows.map (λd=>(some d.1,PyData.keyHash P d.1))->W.KeysLit P es
 | [],_,_=>trivial
 | _::_,[],h=>by cases h
 | e::es,d::rows,h=>by
  rw[aA,aA,ou]at h;obtain⟨h1,h2⟩:=h;refine⟨?_,oE h2⟩;unfold Ay at h1;rw[jT]at h1;obtain⟨h3,h4⟩:=h1;split at h3
  ·grind
  ·cases h3
def Ed{K:W.Frag}{a:Addr}{d:Str×Str}(h:Eb K a d=true):∃f,W.nsIn K a d.1=some (some (.ref f))/\W.nsIn K mainGlobals d.2=some (some (.ref f)):=by
 unfold Eb at h;split at h
 ·grind
 ·cases h
def Ee{K:W.Frag}{P:Params}{T:Str}{rows:List (Str×Str)}(h:Ec K T rows=yG P rows):BN K P T rows:=by
 unfold Ec yG at h;split at h
 ·rename_i a hn;split at h
  ·rename_i c dd es n sl hl;have h:=bG h;simp only[jT]at h;obtain⟨rfl,rfl,rfl,h4,h5⟩:=h;exact Vb hn hl (oE h4) λd hd=>Ed (dY.mp h5 d hd)
  ·cases h
 ·cases h
abbrev Ij:=Option (Value×Option Addr×Array (Option Value)×List (Option Str×Int)×Bool)
noncomputable def yH(K:W.Frag)(f:Addr)(qual:Str):Option FuncData:=match K.lookup f with
 | some ⟨_,_,.func fd,_⟩=>(match W.codeIn K fd.code qual with
  | true=>some {fd with kwdefaults:=.none,doc:=.none,pyModule:=.none,annotations:=none,code:=.none,closureTuple:=.none}
  | false=>none)
 | _=>none
def Ef(x qual:Str)(st:Stmt):FuncData:=W.fnOf x qual (gf st) (dq st) (ay st) .none .none .none .none none .none .none
def BQ{K:W.Frag}{x qual:Str}{st:Stmt}{f:Addr}(h:yH K f qual=some (Ef x qual st)):∃fd,BM K x qual st f fd:=by
 unfold yH at h;split at h
 ·rename_i oc od fd xN hl;split at h
  ·rename_i hc;have h:=bG h;obtain⟨a1,a2,a3,a4,a5,a6,a7,a8,a9,ZC,ZD,ZE,ZF,ZG,ZH⟩:=fd;unfold Ef at h;simp only[FuncData.mk.injEq]at h;obtain⟨e1,e2,e3,e4,e5,e6,e7,e8,-,-,-,-,-,-,Vc⟩:=h;subst e1 e2 e3 e4 e5 e6 e7 e8 Vc;exact⟨_,D2 hl hc (by unfold W.keepIn;dsimp only;rw[hl])⟩
  ·cases h
 ·cases h
abbrev Me:=Option (Bool×OV×List OV×Option FuncData)
def Eg(K:W.Frag)(flds:List Str)(C:Str):Me:=match W.nsIn K mainGlobals C with
 | some (some (.ref a))=>(match W.findIn K (.ref a) "__init__" with
  | some (some (.ref f))=>some (W.makesIn K a&&(W.isFn K (.ref f)&&(W.keepIn K (.ref a)&&(W.plainGet K a Str.empty&&(W.hasDictIn K a&&W.plainOver K a)))),W.findIn K (.ref a) "__setattr__",flds.map (λg=>W.findIn K (.ref a) g),yH K f (C++".__init__"))
  | _=>none)
 | _=>none
def yI(flds:List Str)(C:Str)(st:Stmt):Me:=some (true,some (some (.builtin "object.__setattr__")),flds.map (λ_=>some none),some (Ef "__init__" (C++".__init__") st))
noncomputable def ua:List Str->Bool
 | []=>true
 | x::r=>!r.contains x&&ua r
theorem rf:∀{l:List Str},ua l=true->l.Nodup
 | [],_=>tW
 | x::r,h=>by
  simp only[ua,aC,yt,List.contains_eq_mem,decide_eq_false_iff_not]at h;exact gq.mpr ⟨h.1,rf h.2⟩
noncomputable def Vd:Option NameKind->Bool
 | some .local=>true
 | some .cell=>true
 | _=>false
noncomputable def Qt:NameKind->Bool
 | .free=>false
 | _=>true
noncomputable def Qu:ScopeKind->Bool
 | .function=>true
 | _=>false
def Ik(st:Stmt):Bool:=Qu (ay st).kind&&(!(ay st).isCoroutine&&(!(ay st).isGenerator&&(ua (bV st)&&((params st).all (λx=>Vd ((ay st).names.lookup x))&&(ay st).names.all λy=>Qt y.2))))
def Eh{st:Stmt}(h:Ik st=true):dn (bV st) (params st) (ay st):=by
 unfold Ik at h;rw[aC,aC,aC,aC,aC]at h;obtain⟨h1,h2,h3,h4,h5,h6⟩:=h;refine⟨?_,by grind,by grind,rf h4,?_,λx hx=>?_,λy hy=>?_⟩
 ·cases z:(ay st).kind<;>rw[z]at h1<;>first | rfl | cases h1
 ·exact List.take_left
 ·have k:=dY.mp h5 x hx;cases z:(ay st).names.lookup x with
  | none=>rw[z]at k;cases k
  | some b =>
   rw[z]at k;cases b<;>first | exact .inl rfl | exact .inr rfl | cases k
 ·have k:=dY.mp h6 y hy;intro z;rw[z]at k;cases k
def Az(P:Pg):Prop:=∀(kV doc pm:Value) (an:Option Addr) (eL ct:Value) (u:Nat->Value),
 P.defs.map (λd=>bindArgs (W.fnOf d.1 d.1 (gf d.2) (dq d.2) (ay d.2) .none kV doc pm an eL ct) ⟨(List.range (params d.2).length).map u,[]⟩)=P.defs.map λd=>pure ((params d.2).zip ((List.range (params d.2).length).map u))
def vy{us:List Value}{n:Nat}(h:us.length=n):(List.range n).map (λi=>us.getD i .none)=us:=by
 subst h;apply List.ext_getElem
 ·simp
 ·intro i h1 h2;simp[h2]
def Mf{K:W.Frag}{x:Str}{st:Stmt}{f:Addr}{fd:FuncData}{P:Pg}(hb:Az P)(hd:(x,st)∈P.defs)(F:BM K x x st f fd)(us:List Value)(hl:us.length=(params st).length):bindArgs fd ⟨us,[]⟩=pure ((params st).zip us):=by
 obtain⟨oc,od,kV,doc,pm,an,eL,ct,xN,rfl,lk,DM⟩:=F.ex;have k:=jL.mp (hb kV doc pm an eL ct λi=>us.getD i .none) (x,st) hd
 dsimp only at k
 rw[vy hl]at k;exact k
def Il(P:Pg):Prop:=∀(kV doc pm:Value) (an:Option Addr) (eL ct:Value) (u:Nat->Value),
 P.cls.map (λd=>bindArgs (W.fnOf "__init__" (d.1++".__init__") (gf d.2) (dq d.2) (ay d.2) .none kV doc pm an eL ct) ⟨(List.range (params d.2).length).map u,[]⟩)=P.cls.map λd=>pure ((params d.2).zip ((List.range (params d.2).length).map u))
def Ei{K:W.Frag}{P:Pg}{C:Str}{st:Stmt}(Mg:Ik st=true)(hb:Il P)(hd:(C,st)∈P.cls)(h:Eg K P.flds C=yI P.flds C st):Mb K C st P.flds:=by
 unfold Eg yI at h;split at h
 ·rename_i a hn;split at h
  ·rename_i f hf;have h:=bG h;simp only[jT,aC]at h;obtain⟨⟨h1,h2,h3,h4,h5,h6⟩,h7,h8,h9⟩:=h;obtain⟨fd,F⟩:=BQ h9;refine⟨a,f,fd,hn,⟨h1,hf,h2,h3⟩,⟨h4,h5,h6,h7⟩,λg hg=>jL.mp h8 g hg,F,λus hl=>?_,Eh Mg⟩
   obtain⟨oc,od,kV,doc,pm,an,eL,ct,xN,rfl,lk,DM⟩:=F.ex;have k:=jL.mp (hb kV doc pm an eL ct λi=>us.getD i .none) (C,st) hd
   dsimp only at k
   rw[vy hl]at k;exact k
  ·cases h
 ·cases h
def yJ(K:W.Frag)(h:Heap)(x:Str):Bool:=match W.tabIn K x with
 | none=>true
 | some (c,T)=>W.codeHdIn K c T&&(match h.get? T with
  | some o=>BO o
  | _=>false)
noncomputable def Mh(K:W.Frag):Bool:=match W.nsIn K mainGlobals "__builtins__" with
 | some (some (.ref bm))=>!(bm==builtinsNs)&&(!(bm==mainGlobals)&&(match K.lookup bm with
  | some ⟨.type m,some d,.plain,_⟩=>(m=="module")&&(d==builtinsNs)
  | _=>false))
 | _=>false
def Ej(P:Pg)(K:W.Frag)(h:Heap):Bool:=de.all (yJ K h)&&(decide (de.filterMap λx=>(W.tabIn K x).map (·.2)).Nodup&&((P.qx.isEmpty || Mh K)&&P.qx.all λx=>de.contains x&&(W.tabIn K x).isSome))
def rg{h:Heap}{x:Str}{c T:Addr}(e:yJ (dQ h) h x=true)(t:W.tabIn (dQ h) x=some (c,T)):W.codeHdIn (dQ h) c T=true/\h.get? T=some {cls:=.none,data:=.fields #[]}/\(dQ h).lookup T=none:=by
 unfold yJ at e;rw[t]at e;simp only[aC]at e;obtain⟨h1,h3⟩:=e;split at h3
 ·rename_i o ho;refine⟨h1,?_,?_⟩
  ·unfold BO at h3;split at h3
   ·grind
   ·cases h3
  ·cases k:(dQ h).lookup T with
   | none=>rfl
   | some o' =>
    obtain⟨k1,k2⟩:=fB _ _ _ _ k;rw[ho]at k1;cases k1;rw[h3]at k2;cases k2
 ·cases h3
def Im{K:W.Frag}(e:Mh K=true):D4 K:=by
 unfold Mh at e;split at e
 ·rename_i bm hb;simp only[aC]at e;obtain⟨h1,h2,h3⟩:=e;split at h3
  ·rename_i m d sl z;rw[aC]at h3;obtain rfl:=aG h3.1;obtain rfl:=aG h3.2;exact⟨bm,_,hb,by grind,by grind,z,rfl,rfl,rfl⟩
  ·cases h3
 ·cases e
def El{P:Pg}{h:Heap}(e:Ej P (dQ h) h=true):kz (dQ h) h/\(∀x∈P.qx,Mc (dQ h) x)/\(P.qx≠[]->D4 (dQ h)):=by
 unfold Ej at e;simp only[aC]at e;obtain⟨h1,h2,h3,h4⟩:=e;have all:=dY.mp h1;refine⟨⟨λx hx c T t=>rg (all x hx) t,eY h2⟩,λx hx=>?_,λz=>?_⟩
 ·have:=dY.mp h4 x hx;rw[aC]at this;have hm:x∈de:=by grind
  cases t:W.tabIn (dQ h) x with
  | none=>rw[t]at this;cases this.2
  | some cT=>exact⟨hm,cT.1,cT.2,t,(rg (all x hm) t).1⟩
 ·rcases Bool.or_eq_true_iff.mp h3 with y | y
  ·grind
  ·exact Im y
def yK(K:W.Frag)(T:Str)(rows:List (Str×PV)):Ij:=match W.nsIn K mainGlobals T with
 | some (some (.ref a))=>(match K.lookup a with
  | some ⟨c,dd,.dict es _,sl⟩=>some (c,dd,sl,es.toList.map Ay,!(a==sysModules)&&rows.all (Ax K a))
  | _=>none)
 | _=>none
noncomputable def ub(P:Params)(rows:List (Str×PV)):Ij:=some (.type "dict",none,#[],rows.map (λd=>(some d.1,PyData.keyHash P d.1)),true)
def BR{K:W.Frag}{P:Params}{T:Str}{rows:List (Str×PV)}(h:yK K T rows=ub P rows):vv K P T rows:=by
 unfold yK ub at h;split at h
 ·rename_i a hn;split at h
  ·rename_i c dd es n sl hl;have h:=bG h;simp only[jT]at h;obtain⟨rfl,rfl,rfl,h4,h5⟩:=h;rw[aC,yt]at h5;exact⟨a,es,n,h5.1,hn,hl,oE h4,λd hd=>vx (dY.mp h5.2 d hd)⟩
  ·cases h
 ·cases h
abbrev Mi:=List (Option FuncData)×Bool×List Ij×List Me×List Ij
def yL(P:Pg)(K:W.Frag)(hp:Heap):Mi:=(P.defs.map (λd=>D6 hp d.1),P.cons.all (Ax K mainGlobals)&&(P.cD.all (D9 K)&&Ej P K hp),P.tabs.map (λd=>Ec K d.1 d.2),P.cls.map (λd=>Eg K P.flds d.1),P.dg.map λd=>yK K d.1 d.2)
def yM(P:Pg)(w:World):Mi:=(P.defs.map (λd=>some (D8 d.1 d.2)),true,P.tabs.map (λd=>yG w.params d.2),P.cls.map (λd=>yI P.flds d.1 d.2),P.dg.map λd=>ub w.params d.2)
def BS{P:Pg}{w:World}(Mg:P.defs.all (λd=>Ik d.2)=true)(Qv:Az P)(Em:P.cls.all (λd=>Ik d.2)=true)(En:Il P){hp:Heap}(h:yL P (dQ hp) hp=yM P w):D5 P w (dQ hp)/\kz (dQ hp) hp:=by
 unfold yL yM at h;simp only[jT]at h;obtain⟨h1,h2,h5,h6,h7⟩:=h;rw[aC,aC]at h2;obtain⟨l1,l2,l3⟩:=El h2.2.2;refine⟨⟨λd hd=>?_,λd hd=>vx (dY.mp h2.1 d hd),λx hx=>Ea (dY.mp h2.2.1 x hx),λd hd=>Ee (jL.mp h5 d hd),λd hd=>Ei (dY.mp Em d hd) En hd (jL.mp h6 d hd),λd hd=>BR (jL.mp h7 d hd),l2,l3⟩,l1⟩
 obtain⟨f,fd,a,F⟩:=Ih (D7 (jL.mp h1 d hd));exact⟨⟨f,fd,a,F,λus hl=>Mf Qv hd F us hl⟩,Eh (dY.mp Mg d hd)⟩
def Io(P:Pg)(Mg:P.defs.all (λd=>Ik d.2)=true)(Qv:Az P)(Em:P.cls.all (λd=>Ik d.2)=true)(En:Il P):W.Hook :=
 ⟨Mi,λs=>yL P (dQ s.heap) s.heap,λw=>yM P w,λw h=>∃K:W.Frag,K.In h/\D5 P w K/\kz K h,λw s e=>⟨_,BP _ _,BS Mg Qv Em En e⟩,λ_ _ _ ⟨K,a,b,c⟩ k=>⟨K,a.keeps k,b,c.keeps k⟩⟩
noncomputable def BU(p:Program)(row:String)(b:Bool)(N:Nat)(w:World):Option Shared:=(W.fencedOpening treeTable p w N).bind λs₀=>W.topFrom treeTable p (w.withFollow row b) N s₀
def BV{p q:Program}{loose:List Str}{Xt:Shared->Bool}{α:Type}{Yf:Shared->α}{Ya:World->α}{N:Nat}{g0:Bool}(row:String)
  (h1:∀w,(BU p row false N w).map (W.openSeen q loose (importedModules p.main.body) Xt g0)=some (W.openGood q loose)) (h2:∀w,(BU p row true N w).map (W.openSeen q loose (importedModules p.main.body) Xt g0)=some (W.openGood q loose))
  (h3:∀w,(BU p row false N w).map Yf=some (Ya (w.withFollow row false))) (h4:∀w,(BU p row true N w).map Yf=some (Ya (w.withFollow row true))):W.LeftO p q loose Xt Yf Ya N g0:=by
 refine W.LeftO.of_split row λw=>?_
 obtain⟨sA,a1,a2⟩:=gk.mp (h1 w);obtain⟨sB,b1,b2⟩:=gk.mp (h2 w);obtain⟨sC,c1,c2⟩:=gk.mp (h3 w);obtain⟨sD,d1,d2⟩:=gk.mp (h4 w);rw[a1]at c1;rw[b1]at d1;cases c1;cases d1;obtain⟨s0,f0,tA⟩:=Option.bind_eq_some_iff.mp a1;obtain⟨s1,f1,tB⟩:=Option.bind_eq_some_iff.mp b1;rw[f0]at f1;cases f1;rw[f0,tN,tA,tB,tN,tN,a2,b2,c2,d2]
end L2.U
noncomputable section
namespace L2.U
open PySem PySem.W
def topQ(p:Program)(w:World)(m:Nat)(P1:Option Value):Nat->SharedT->Thread->Option SharedT
 | 0,_,_=>none
 | n+1,s,t=>match through t with
  | true=>some s
  | false=>match Fast.tw6613529449190102663 m P1 t with
   | false=>none
   | true=>match Fast.tw10156331382660048174 (Fast.tw11892475500146522536 Fast.tw14364793385576792824) p w s t with
    | some (s',t')=>topQ p w m P1 n s' t'
    | none=>none
theorem topQ_of{p:Program}{w:World}{m:Nat}{P1:Option Value}:∀{n:Nat} {s r:SharedT} {t:Thread},topQ p w m P1 n s t=some r->topRun treeTable p w m P1 n s.abs t=some r.abs
 | 0,_,_,_,h=>by cases h
 | n+1,s,r,t,h=>by
  unfold topQ at h;unfold topRun;rw[<-Fast.te6613529449190102663,<-Fast.te10156331382660048174,<-Fast.te11892475500146522536,<-Fast.te14364793385576792824]at h;cases a:through t with
  | true=>rw[a]at h;cases h;rfl
  | false =>
   rw[a]at h;cases b:stepOk m P1 t with
   | false=>rw[b]at h;cases h
   | true =>
    rw[b]at h;cases c:stepT (denote treeTable) p w s t with
    | none=>rw[c]at h;cases h
    | some y=>rw[c]at h;rw[stepT_spec c];exact topQ_of h
noncomputable def Qw(l:List Obj):BT:=(l.foldl (fun(x:BT×Nat) o=>(x.1.ins x.2 o,x.2+1)) (.nil,0)).1
theorem Ip(P:Params):absHeap (Qw (boot_heap P).objs.toList) (boot_heap P).objs.size (boot_heap P).life=boot_heap P:=by kernel_rfl
theorem Iq(P:Params):(boot_heap P).isNs mainGlobals=true:=by kernel_rfl
def Eo(p:Program)(row:String)(b:Bool)(N:Nat)(w:World)(os:OsState):Option SharedT :=
 topQ p (w.withFollow row b) (boot_heap w.params).objs.size ((boot_heap w.params).nsMap mainGlobals "__annotations__") N ⟨Qw (boot_heap w.params).objs.toList,(boot_heap w.params).objs.size,(boot_heap w.params).life,.mk [],boot_drawn,boot_toks,os⟩ (topStub p)
def P2(p:Program)(w:World)(s:SharedT):Bool:=staticsOk (importedModules p.main.body) (boot_heap w.params) s.abs.heap&&namesBound p s.abs.heap&&gensDone s.abs&&laidKept (boot_heap w.params) s.abs.heap
theorem nE{p:Program}{row:String}{b:Bool}{N:Nat}{w:World}{α:Type}{g:Shared->α}{a:α}(e:opening p=plainProg p.main.scope.names)(hN:Nat.ble 600 N=true)(f:∀s,fenceModules? p s=some s)
 (h:∀os,(Eo p row b N w os).map (λs=>(P2 p w s,g s.abs))=some (true,a)):(BU p row b N w).map g=some a:=by
 obtain⟨⟨hp,gs,d,k,os⟩,h1,h2⟩:=gk.mp (boot_open e hN f w);obtain⟨rfl,rfl,rfl,rfl⟩:hp=boot_heap w.params/\gs=.mk []/\d=boot_drawn/\k=boot_toks:=by simpa using h2
 obtain⟨s,h3,h4⟩:=gk.mp (h os);have h5:=topQ_of h3;unfold SharedT.abs at h5;rw[Ip]at h5;unfold BU;rw[h1];show Option.map g (topFrom treeTable p (w.withFollow row b) N _)=_;unfold topFrom;dsimp only
 rw[Iq,h5];have h6:=(Prod.mk.inj h4).1;unfold P2 SharedT.abs at h6;show Option.map g (match staticsOk (importedModules p.main.body) (boot_heap w.params) (absHeap s.tree s.n s.life)&&namesBound p (absHeap s.tree s.n s.life)&&gensDone ⟨absHeap s.tree s.n s.life,s.gens,s.drawn,s.toks,s.os⟩&&laidKept (boot_heap w.params) (absHeap s.tree s.n s.life)with | true=>_ | false=>_)=_
 rw[h6];exact eu some (Prod.mk.inj h4).2
theorem Mj{p q:Program}{loose:List Str}{Xt:Shared->Bool}{α:Type}{Yf:Shared->α}{Ya:World->α}{N:Nat}{g0:Bool}(row:String)(e:opening p=plainProg p.main.scope.names)(hN:Nat.ble 600 N=true)(f:∀s,fenceModules? p s=some s)
 (h0:∀w os,(Eo p row false N w os).map (λs=>(P2 p w s,openSeen q loose (importedModules p.main.body) Xt g0 s.abs,Yf s.abs))=some (true,openGood q loose,Ya (w.withFollow row false)))
 (h1:∀w os,(Eo p row true N w os).map (λs=>(P2 p w s,openSeen q loose (importedModules p.main.body) Xt g0 s.abs,Yf s.abs))=some (true,openGood q loose,Ya (w.withFollow row true))):LeftO p q loose Xt Yf Ya N g0:=by
 have fs:∀{β γ δ:Type} {o:Option δ} {a:δ->β} {b:δ->γ} {x:β} {y:γ},o.map (λs=>(a s,b s))=some (x,y)->o.map a=some x/\o.map b=some y:=λ{_ _ _ o _ _ _ _} h=>by
  cases o with
  | none=>cases h
  | some s=>cases h;exact⟨rfl,rfl⟩
 exact BV row (λw=>(fs (nE e hN f λos=>h0 w os)).1) (λw=>(fs (nE e hN f λos=>h1 w os)).1) (λw=>(fs (nE e hN f λos=>h0 w os)).2) λw=>(fs (nE e hN f λos=>h1 w os)).2
end L2.U
namespace bS
open PySem L2 L2.U
noncomputable def top(i:Nat):Stmt:=PySem.Challenge.pw_lendrule_k19_whole_acts_fit_right_progra.main.body.getD i (.Pass ⟨0,0,0,0⟩)
def ZI(i j:Nat):Stmt:=match top i with | .ClassDef _ _ _ b _ _ _ _ _ _ _=>b.getD j (.Pass ⟨0,0,0,0⟩) | s=>s
abbrev Ir:Stmt:=ZI 30 0
def fL:List (Str×Str):=[("put","put_acts"),("set","set_acts"),("fill","put_acts"),("copy","copy_acts"),("move","move_acts"),("drop","drop_acts"),("lend","lend_acts"),("sole","lend_acts"),("call","call_acts"),("if","if_acts"),("go","go_acts"),("say","say_acts"),("give","give_acts")]
def aD:Pg where
 defs:=([("is_whole",9),("is_shape",10),("count_leaves",11),("count_in_parts",12),("leaves",13),("check_part",14),("part",15),("first",16),("paths",17),("is_copied",18),("kind_of",28),("is_right",29),("is_tuple_from",31),("is_tuple_of",32),("is_name",33),("are_apart",34),("is_holder_kind",35),("is_kind",36),("is_holder",37),("shape_of",38),("has_kind",39),("is_head",40),("are_named",41),("is_result",42),("are_sources",43),("may_be_run",44),("is_spot",45),("is_path",46),("spot_shape",47),("is_at",48),("is_number_spot",49),("is_part_spot",50),("is_owned_part",51),("is_written_part",52),("may_be_written",53),("is_operand",54),("are_rows",55),("is_row",56),("is_put",57),("is_target",58),("is_set",59),("is_fill",60),("is_copy",61),("are_alike",62),("is_move",63),("is_drop",64),("is_lend",65),("is_sole",66),("is_call",67),("takes_back",68),("is_if",69),("is_jump",70),("is_go",71),("is_say",72),("is_give",73),("acts",79),("touch",80),("touch_whole",81),("at_acts",82),("operand_acts",83),("target_acts",84),("put_acts",85),("set_acts",86),("copy_acts",87),("move_acts",88),("drop_acts",89),("lend_acts",90),("call_acts",91),("arg_act",92),("owner_act",93),("if_acts",94),("go_acts",95),("say_acts",96),("give_acts",97),("_law_cell_at",100),("_law_mixed",101),("_law_names",102),("_law_many",103),("_law_table",104),("_law_held",105),("_law_spots",106),("_law_menu",107),("_law_picked",108),("_law_numbers",109),("_law_operand",110),("_law_result",111),("_law_back",112),("_law_head",113),("_law_heads",114),("_law_call",115),("_law_lends",116),("_law_copied",117),("_law_things",118),("_law_plain_row",119),("_law_row",120),("_law_give",121),("_law_function",122),("_law_stretch",123),("_law_lending",124),("_law_touch",125),("_law_untouched",126),("_law_called",127),("_law_acts_fit",128),("law",129)]:List (String×Nat)).map λd=>(d.1,top d.2)
 cons:=[("MOST_DEEP",.int 3),("MOST_LEAVES",.int 8),("MOST_PARTS",.int 4),("LONGEST_STRIP",.int 8),("MOST_SIGNS",.int 8),("MOST_FUNCTIONS",.int 6),("MOST_PARAMS",.int 4),("MOST_LETS",.int 8),("MOST_ROWS",.int 32),("HOLDER_WORDS",.aj [(.str "lent"),(.str "sole")]),("SIGNS",.aj [(.str "+"),(.str "-"),(.str "*")]),("NUM",.aj [(.str "num")]),("REST",.aj [(.str "rest"),(.str ""),(.bl false),(.int 0),(.int 0),(.str "")]),("HAND",.aj [(.str "hand"),(.str ""),(.bl false),(.int 0),(.int 0),(.str "")])]
 cD:=["all","bool","dict","enumerate","int","isinstance","len","list","range","set","str","sum","tuple","zip"]
 tabs:=[("CHECKS",[("put","is_put"),("set","is_set"),("fill","is_fill"),("copy","is_copy"),("move","is_move"),("drop","is_drop"),("lend","is_lend"),("sole","is_sole"),("call","is_call"),("if","is_if"),("go","is_go"),("say","is_say"),("give","is_give")]),("MAKERS",fL)]
 cls:=[("Scene",Ir)]
 flds:=["kinds","result","size","heads"]
 dg:=[("LENGTHS",[("put",.int 3),("set",.int 5),("fill",.int 3),("copy",.int 3),("move",.int 3),("drop",.int 2),("lend",.int 3),("sole",.int 3),("call",.int 4),("if",.int 4),("go",.int 2),("say",.int 2),("give",.int 2)])]
 qx:=[]
 Qr:=[("leaves",[("told",1)]),("paths",[("told",1)]),("acts",[("told",1)]),("call_acts",[("told",1)]),("_law_names",[("_law_found",1)]),("_law_spots",[("_law_found",1)]),("_law_picked",[("_law_found",1)]),("_law_numbers",[("_law_found",1)]),("_law_result",[("_law_sources",1)]),("_law_call",[("_law_args",1)]),("_law_lends",[("_law_found",1)]),("_law_function",[("_law_rows",1)]),("_law_stretch",[("_law_some",1)])]
section
end
end bS
set_option maxHeartbeats 0
namespace bS
open PySem L2 L2.U
end bS
set_option maxHeartbeats 0
set_option maxHeartbeats 0
set_option maxHeartbeats 0
set_option maxHeartbeats 0
set_option maxHeartbeats 0
set_option maxHeartbeats 0
set_option maxHeartbeats 0
set_option maxHeartbeats 0
set_option maxHeartbeats 0
namespace bS
open PySem L2 L2.U
end bS
set_option maxHeartbeats 2000000
set_option maxHeartbeats 2000000
set_option maxHeartbeats 2000000
set_option maxHeartbeats 2000000
set_option maxHeartbeats 2000000
set_option maxHeartbeats 4000000
set_option maxHeartbeats 2000000
set_option maxHeartbeats 2000000
set_option maxHeartbeats 2000000
set_option maxHeartbeats 2000000
set_option maxHeartbeats 2000000
set_option maxHeartbeats 2000000
set_option maxHeartbeats 2000000
set_option maxHeartbeats 4000000
noncomputable section
namespace bS
open PySem L2 L2.U
theorem Mg:aD.defs.all (λd=>Ik d.2)=true:=by kernel_rfl
theorem Qv:Az aD:=by
 intro kV doc pm an eL ct u;kernel_rfl
theorem Em:aD.cls.all (λd=>Ik d.2)=true:=by kernel_rfl
theorem En:Il aD:=by
 intro kV doc pm an eL ct u;kernel_rfl
noncomputable abbrev pp:Program:=W.OpenLaw.prog PySem.Challenge.rw_lendrule_k19_whole_acts_fit_right_progra
def qv:Program:=W.view pp [129]
def lo:List Str:=pp.boundNames.filter (· != "law")
def Xt(s:Shared):Bool:=W.xlAt qv [] s&&W.recOk (W.RowW.records (W.OpenRow.toRowW (W.OpenLaw.row PySem.Challenge.rw_lendrule_k19_whole_acts_fit_right_progra))) s
abbrev hk:W.Hook:=Io aD Mg Qv Em En
theorem ZJ(w:World)(os:OsState):(Eo pp "special-get-raises" false 5000 w os).map (λs=>(P2 pp w s,W.openSeen qv lo (importedModules pp.main.body) Xt true s.abs,W.Hook.obs hk s.abs))=some (true,W.openGood qv lo,W.Hook.val hk (w.withFollow "special-get-raises" false)):=by kernel_rfl
theorem ZK(w:World)(os:OsState):(Eo pp "special-get-raises" true 5000 w os).map (λs=>(P2 pp w s,W.openSeen qv lo (importedModules pp.main.body) Xt true s.abs,W.Hook.obs hk s.abs))=some (true,W.openGood qv lo,W.Hook.val hk (w.withFollow "special-get-raises" true)):=by kernel_rfl
theorem ZL:(W.OpenLaw.row PySem.Challenge.rw_lendrule_k19_whole_acts_fit_right_progra).wellSaid=true:=by kernel_rfl
theorem ws:W.OpenLaw.wellSaid PySem.Challenge.rw_lendrule_k19_whole_acts_fit_right_progra=true:=by
 unfold W.OpenLaw.wellSaid;rw[ZL];kernel_rfl
end bS
open PySem PySem.W PyProof.Rows PySem.Calls
set_option maxRecDepth 100000 in
set_option maxHeartbeats 0 in
theorem bS.iU(hc:∀d:DefRec,d.name="law"->d.params.defaults=[]->W.WalkO bS.qv bS.lo (XL bS.qv []) (Hook.says bS.hk) (W.OpenRow.toRowW (W.OpenLaw.row PySem.Challenge.rw_lendrule_k19_whole_acts_fit_right_progra)) d [] (λf vs=>PySem.call f vs)):PySem.Challenge.rw_lendrule_k19_whole_acts_fit_right_progra.Holds:=by
 w_on;refine W.holds_law bS.ws λZM=>?_
 refine W.holds_open (q:=bS.qv) (loose:=bS.lo) (Xt:=bS.Xt) (XP:=XL bS.qv []) (Yf:=Hook.obs bS.hk) (Ya:=Hook.val bS.hk) (YP:=Hook.says bS.hk) (N:=5000) (L2.U.Mj "special-get-raises" (by kernel_rfl) (by decide) (λ_=>rfl) bS.ZJ bS.ZK) (Hook.of _) (Hook.keeps _) (λs e=>xl_of s (nY.mp e).1) XL.keeps (by rfl) (by rfl) (by rfl) (λs e=>recFacts_of (nY.mp e).2) (by rfl) (by first | assumption | decide +kernel) (by decide +kernel) ⟨rfl,rfl,rfl,rfl,rfl,by decide +kernel⟩ ?hw (hc _ rfl rfl)
 case hw=>w_witness2
end
namespace L2
open PySem PySem.Spec PyProof.Rows
noncomputable def rh:cL->Value->Bool
 | .inl k,v=>Value.isInt k v
 | .inr x,v=>Value.isStrOf x v
noncomputable def Ve(w:World):cL->Int
 | .inl k=>hashInt k
 | .inr x=>hashStr w x
theorem cq:∀{k:cL} {v:Value},rh k v=true->(∃i t,k=Sum.inl i/\v=Value.int i t)\/(∃x t,k=Sum.inr x/\v=Value.str x t)
 | .inl i,v,h=>by
  obtain⟨t,e⟩:=Value.isInt_shape h;exact .inl ⟨i,t,rfl,e⟩
 | .inr x,v,h=>by
  obtain⟨t,e⟩:=Value.isStrOf_shape h;exact .inr ⟨x,t,rfl,e⟩
def BW(i:Int)(t:Tok):rh (.inl i) (.int i t)=true:=by simp[rh,Value.isInt]
def BX(x:Str)(t:Tok):rh (.inr x) (.str x t)=true:=by simp[rh,Value.isStrOf]
def Ml(a b:Int):decide ((Sum.inl a:cL)=Sum.inl b)=(a==b):=by
 grind
def Mm(a b:Str):decide ((Sum.inr a:cL)=Sum.inr b)=decide (a=b):=by
 grind
def Mn(a:Int)(b:Str):decide ((Sum.inl a:cL)=Sum.inr b)=false:=by grind
def Mo(a:Str)(b:Int):decide ((Sum.inr a:cL)=Sum.inl b)=false:=by grind
def bA(prog:Program)(w:World):PySem.KeyKind prog w cL where
 is:=rh
 hash:=Ve w
 inj:=λv a b ha hb=>by
  rcases cq ha with⟨i,t,rfl,rfl⟩ | ⟨x,t,rfl,rfl⟩
  ·rcases cq hb with⟨j,u,rfl,e⟩ | ⟨y,u,rfl,e⟩
   ·injection e with e1 _;rw[e1]
   ·exact nomatch e
  ·rcases cq hb with⟨j,u,rfl,e⟩ | ⟨y,u,rfl,e⟩
   ·exact nomatch e
   ·injection e with e1 _;rw[e1]
 byValue:=λk v h=>by
  rcases cq h with⟨i,t,rfl,rfl⟩ | ⟨x,t,rfl,rfl⟩<;>rfl
 pyHash:=λhv h=>by
  rcases cq hv with⟨i,t,rfl,rfl⟩ | ⟨x,t,rfl,rfl⟩
  ·exact wpAny_pyHash_int h
  ·exact wpAny_pyHash_str h
 eqBool:=λhu hv h=>by
  rcases cq hu with⟨i,t,rfl,rfl⟩ | ⟨x,t,rfl,rfl⟩
  ·rcases cq hv with⟨j,u,rfl,rfl⟩ | ⟨y,u,rfl,rfl⟩
   ·rw[Ml]at h;exact wpAny_eqBool_int h
   ·rw[Mn]at h;exact SeqAt.EqAt.int_str i t y u _ _ _ _ h
  ·rcases cq hv with⟨j,u,rfl,rfl⟩ | ⟨y,u,rfl,rfl⟩
   ·rw[Mo]at h;exact SeqAt.EqAt.str_int x t j u _ _ _ _ h
   ·rw[Mm]at h;exact wpAny_eqBool_str h
 «strs» := λk x t v h=>by
  rcases cq h with⟨i,u,rfl,e⟩ | ⟨y,u,rfl,e⟩
  ·exact nomatch e
  ·injection e with e1 _
   subst e1;cases v<;>rfl
def vz(prog:Program)(w:World)(i:Int)(t:Tok):(bA prog w).is (.inl i) (.int i t)=true:=BW i t
def vA(prog:Program)(w:World)(x:Str)(t:Tok):(bA prog w).is (.inr x) (.str x t)=true:=BX x t
def Vals.length(r:Vals xs us):xs.length=us.length:=iR r
theorem Vals.get:∀{xs:List V} {us:List Value} {i:Nat} {x:V},Vals xs us->xs[i]?=some x->∃u,us[i]?=some u/\RelV x u
 | _,_,_,_,.nil,e=>by simp at e
 | _,_,0,_,.cons r _,e=>by grind
 | _,_,i+1,x,.cons _ t,e=>by
  obtain⟨u,h1,h2⟩:=Vals.get t (by simpa using e)
  exact⟨u,by grind,h2⟩
theorem Vals.set(r:RelV x u):∀{xs:List V} {us:List Value} (i:Nat),Vals xs us->Vals (xs.set i x) (us.set i u)
 | _,_,_,.nil=>.nil
 | _,_,0,.cons _ t=>.cons r t
 | _,_,i+1,.cons q t=>.cons q (Vals.set r i t)
theorem Vals.append:∀{xs ys:List V} {us ws:List Value},Vals xs us->Vals ys ws->Vals (xs++ys) (us++ws)
 | _,_,_,_,.nil,s=>s
 | _,_,_,_,.cons r t,s=>.cons r (Vals.append t s)
theorem Vals.take:∀{xs:List V} {us:List Value} (n:Nat),Vals xs us->Vals (xs.take n) (us.take n)
 | _,_,0,_=>.nil
 | _,_,_+1,.nil=>.nil
 | _,_,n+1,.cons r t=>.cons r (Vals.take n t)
theorem Vals.drop:∀{xs:List V} {us:List Value} (n:Nat),Vals xs us->Vals (xs.drop n) (us.drop n)
 | _,_,0,r=>r
 | _,_,_+1,.nil=>.nil
 | _,_,n+1,.cons _ t=>Vals.drop n t
def Vals.none_of:∀{xs:List V} {us:List Value} {i:Nat},Vals xs us->xs[i]?=none->us[i]?=none:=λ{xs us i} r e=>by
 have h1:=r.length;have h2:=fH.mp e;exact fH.mpr (by lia)
def uc:Option V->Option Value->Prop
 | some v,some u=>RelV v u
 | none,none=>True
 | _,_=>False
def KV{κ:Type}:List (κ×V)->List (κ×Value)->Prop:=Paired fun(p:κ×V) (q:κ×Value)=>p.1=q.1/\RelV p.2 q.2
noncomputable def cj(H:Hp)(a:Addr)(o:HO):Hp:=λb=>if b=a then some o else H b
def ar:cj H a o a=some o:=by unfold cj;rw[if_pos rfl]
def aH(h:b≠a):cj H a o b=H b:=by unfold cj;rw[if_neg h]
def cO{H:Hp}{a b:Addr}{o:HO}(h:H a=some o)(h':H b=none):a≠b:=by
 grind
def mV(h:Heap)(a:Addr)(ak:Array Value):Prop:=∃o,h.get? a=some o/\o.cls=.type "tuple"/\(∃n,o.data=.seq ak n)/\o.dict=none
def mV.new(h:Heap)(ak:Array Value):mV (h.push {cls:=.type "tuple",data:=.seq ak}) h.objs.size ak:=⟨_,bc _ rfl,rfl,⟨_,rfl⟩,rfl⟩
def mV.is(t:mV h a ak):IsTup h a ak:=let ⟨o,e,c,n,_⟩:=t;⟨o,e,c,n⟩
section
variable (P:Program) (w:World)
def eQ(H:Hp)(h:Heap)(a:Addr):HO->Prop
 | .lst xs=>xs.length<=sizeLine/\∃(ak:List Value) (n:Nat),Vals xs ak/\h.get? a=some {cls:=.type "list",data:=.seq ak.toArray n}
 | .aj xs=>xs.length<=sizeLine/\∃ak:List Value,Vals xs ak/\mV h a ak.toArray
 | .dK kvs=>kvs.length<=sizeLine/\(a==sysModules)=false/\∃vs,KV kvs vs/\h.DictOf (bA P w) a vs
 | .dT xs=>xs.length<=sizeLine/\(a==sysModules)=false/\∃o es ep,h.get? a=some o/\o.ExactDict/\o.data=.dict es ep/\es.toList=xs.map (entryOfKey (tupleKind (bA P w)))/\(xs.map (·.1)).Nodup
 | .set S n=>h.SetOf (intKind P w) a S n
 | .ins C dx fs=>H dx=some (.own a)/\fs.length<=1000/\dx≠a/\h.get? a=some (W.instObj C dx) /\
   ∃mA,h.Ns1 dx mA/\(∀f,uc (fs.lookup f) (mA f))/\PySem.Within mA (fs.map (·.1))
 | .own _=>∃o,h.get? a=some o
 | .xd fs=>∃mA,h.Ns1 a mA/\∀f,uc (fs.lookup f) (mA f)
 | .Ut lo hi=>∃t u v,h.get? a=some {cls:=.type "range",data:=.fields #[.int lo t,.int hi u,.int 1 v]}
 | .vt o u=>h.get? a=some o/\eQ H h a u
 | .eO q=>∃ps:Array Value,h.get? a=some {cls:=.none,data:=.fields ps}/\TriplesOk ps.toList/\∀(pos:Pos) (cv:Value),codeAmong pos ps.toList=some cv ->
   ∃(c:Addr) (oc:Obj) (u:HO) (vs:Array Value) (t:Tok),cv=.ref c/\H c=some (.vt oc u)/\oc.data=.fields vs/\vs[1]?=some (.str q t)
 | .Us f x=>h.get? a=some (W.methodObj (.ref f) (.ref x))
 | .ext φ=>φ h/\(∃o,h.get? a=some o)/\∀h1 h2:Heap,φ h1->(∀o,h1.get? a=some o->h2.get? a=some o)->φ h2
def kq(H:Hp)(h:Heap):Prop:=∀a o,H a=some o->eQ P w H h a o
end
section
variable {P:Program} {w:World} {H H':Hp} {h h':Heap} {a:Addr} {o:HO}
def eQ.lt(x:eQ P w H h a o):a<h.objs.size:=by
 cases o with
 | lst xs=>obtain⟨_,_,_,_,e⟩:=x;exact az e
 | aj xs=>obtain⟨_,_,_,p⟩:=x;exact p.is.lt
 | dK kvs=>obtain⟨_,_,_,_,o,_,_,e,_⟩:=x;exact az e
 | dT kvs=>obtain⟨_,_,o,_,_,e,_⟩:=x;exact az e
 | set S n=>obtain⟨o,_,_,_,e,_⟩:=x;exact az e
 | ins C dx fs=>obtain⟨_,_,_,e,_⟩:=x;exact az e
 | own y=>obtain⟨_,e⟩:=x;exact az e
 | xd fs=>obtain⟨_,⟨_,_,_,e,_⟩,_⟩:=x;exact az e
 | Ut lo hi=>obtain⟨_,_,_,e⟩:=x;exact az e
 | vt ob u=>obtain⟨e,_⟩:=x;exact az e
 | eO q=>obtain⟨_,e,_⟩:=x;exact az e
 | Us f y=>exact az (x)
 | ext φ=>obtain⟨_,⟨_,e⟩,_⟩:=x;exact az e
def eQ.vB(x:eQ P w H h a o)(k:∀b u,(b=a\/H b=some (.own a))->h.get? b=some u->h'.get? b=some u)
  (ho:∀b,H b=some (.own a)->H' b=some (.own a)) (ht:∀b xs,H b=some (.aj xs)->H' b=some (.aj xs)) (hz:∀b ob u,H b=some (.vt ob u)->H' b=some (.vt ob u)):eQ P w H' h' a o:=by
 induction o with
 | lst xs=>obtain⟨z,ak,n,r,e⟩:=x;exact⟨z,ak,n,r,k _ _ (.inl rfl) e⟩
 | aj xs=>obtain⟨z,ak,r,ob,e,c⟩:=x;exact⟨z,ak,r,ob,k _ _ (.inl rfl) e,c⟩
 | dK kvs=>obtain⟨z,y,vs,r,ob,es,ep,e,c⟩:=x;exact⟨z,y,vs,r,ob,es,ep,k _ _ (.inl rfl) e,c⟩
 | dT kvs=>obtain⟨z,y,ob,es,ep,e,c⟩:=x;exact⟨z,y,ob,es,ep,k _ _ (.inl rfl) e,c⟩
 | set S n=>obtain⟨ob,es,ep,t,e,c⟩:=x;exact⟨ob,es,ep,t,k _ _ (.inl rfl) e,c⟩
 | ins C dx fs =>
  obtain⟨d,z,ne,e,mA,⟨od,es,ep,e2,c⟩,r⟩:=x;exact⟨ho _ d,z,ne,k _ _ (.inl rfl) e,mA,⟨od,es,ep,k _ _ (.inr d) e2,c⟩,r⟩
 | own y=>obtain⟨ob,e⟩:=x;exact⟨ob,k _ _ (.inl rfl) e⟩
 | xd fs=>obtain⟨mA,⟨od,es,ep,e,c⟩,r⟩:=x;exact⟨mA,⟨od,es,ep,k _ _ (.inl rfl) e,c⟩,r⟩
 | Ut lo hi=>obtain⟨t,u,v,e⟩:=x;exact⟨t,u,v,k _ _ (.inl rfl) e⟩
 | vt ob u ih=>obtain⟨e,q⟩:=x;exact⟨k _ _ (.inl rfl) e,ih q⟩
 | eO q =>
  obtain⟨ps,e,t,c⟩:=x;exact⟨ps,k _ _ (.inl rfl) e,t,λpos cv z=>let ⟨c,oc,u,vs,tk,h1,h2,h3⟩:=c pos cv z;⟨c,oc,u,vs,tk,h1,hz _ _ _ h2,h3⟩⟩
 | Us f y =>
  have e:=x;exact k a _ (.inl rfl) e
 | ext φ=>obtain⟨p,⟨o,e⟩,st⟩:=x;exact⟨st _ _ p λo q=>k _ _ (.inl rfl) q,⟨o,k _ _ (.inl rfl) e⟩,st⟩
def kq.lt(x:kq P w H h)(e:H a=some o):a<h.objs.size:=(x a o e).lt
def kq.fresh(x:kq P w H h)(e:h.objs.size<=a):H a=none:=by
 cases q:H a with
 | none=>rfl
 | some u=>exact absurd (bP (x.lt q) e) (dM _)
def kq.kept(x:kq P w H h)(k:∀b u,h.get? b=some u->h'.get? b=some u):kq P w H h':=λa o e =>
 (x a o e).vB (λb u _ q=>k b u q) (λ_ q=>q) (λ_ _ q=>q) λ_ _ _ q=>q
def kq.laid(x:kq P w H h)(k:∀b u,h.get? b=some u->h'.get? b=some u)(hp:h.objs.size<=a)(new:eQ P w (cj H a o) h' a o):kq P w (cj H a o) h':=λb u e=>by
 have hn:=x.fresh hp;by_cases hb:b=a
 ·subst hb;rw[ar]at e;cases e;exact new
 ·rw[aH hb]at e;exact(x b u e).vB (λc v _ q=>k c v q) (λc q=>by rw[aH (cO q hn)];exact q) (λc xs q=>by rw[aH (cO q hn)];exact q) λc ob v q=>by rw[aH (cO q hn)];exact q
end
def Rd.ok(r:Rd H a u)(x:kq P w H h):eQ P w H h a u:=by
 rcases r with r | ⟨o,r⟩
 ·exact x a u r
 ·obtain⟨_,q⟩:=x a _ r;exact q
def Uu:Option HO->Prop
 | some (.lst _)=>True
 | some (.dK _)=>True
 | some (.dT _)=>True
 | some (.set _ _)=>True
 | some (.ins _ _ _)=>True
 | some (.ext _)=>True
 | _=>False
section
variable {P:Program} {w:World} {H:Hp} {h h':Heap} {x e:Addr} {o':HO}
def kq.write(ok:kq P w H h)(mu:Uu (H x))(he:e=x\/H e=some (.own x))(k:∀b u,b≠e->h.get? b=some u->h'.get? b=some u)(P4:∃u,h'.get? e=some u)
  (new:eQ P w (cj H x o') h' x o'):kq P w (cj H x o') h':=λb u q=>by
 have Qx:∀c y,H c=some (.own y)->c≠x:=λc y r z=>by subst z;rw[r]at mu;exact mu
 have Vf:∀c xs,H c=some (.aj xs)->c≠x:=λc xs r z=>by subst z;rw[r]at mu;exact mu
 have Vg:∀c ob v,H c=some (.vt ob v)->c≠x:=λc ob v r z=>by subst z;rw[r]at mu;exact mu
 by_cases hb:b=x
 ·subst hb;rw[ar]at q;cases q;exact new
 ·rw[aH hb]at q;by_cases Mp:b=e
  ·have q':H b=some (.own x):=by
    rcases he with z | z
    ·exact absurd (Mp.trans z) hb
    ·rw[Mp];exact z
   rw[q]at q';cases q';obtain⟨v,hv⟩:=P4;exact⟨v,by rw[Mp];exact hv⟩
  ·refine(ok b u q).vB (λc v hc r=>k c v ?_ r) (λc r=>by rw[aH (Qx c b r)];exact r) (λc xs r=>by rw[aH (Vf c xs r)];exact r) λc ob v r=>by rw[aH (Vg c ob v r)];exact r
   rcases hc with rfl | hc
   ·exact Mp
   ·rintro rfl
    rcases he with z | z
    ·exact Qx c b hc z
    ·rw[hc]at z;cases z;exact hb rfl
end
structure Un (fs ex:List Addr) (H H':Hp) (h h':Heap):Prop where
 keep:∀b o,h.get? b=some o->H b=none->b∉fs->b∉ex->h'.get? b=some o
 slot:∀b o,h.get? b=some o->H b=none->b∈fs->b∉ex->∃sl,h'.get? b=some {o with slots:=sl}
 free:∀b o,h.get? b=some o->H b=none->b∉ex->H' b=none
 there:∀b o,h.get? b=some o->b∉ex->∃o',h'.get? b=some o'
 tups:∀b xs,H b=some (.aj xs)->H' b=some (.aj xs)
 frzs:∀b o u,H b=some (.vt o u)->H' b=some (.vt o u)
 tbls:∀b q,H b=some (.eO q)->H' b=some (.eO q)
section
variable {fs ZN ex ex':List Addr} {H H1 H2:Hp} {h h1 h2 h':Heap} {a x e:Addr} {o:HO}
def Un.any(u:Un fs ex H H1 h h1)(q:h.get? b=some ob)(n:H b=none)(hx:b∉ex):∃sl,h1.get? b=some {ob with slots:=sl}:=by
 by_cases hb:b∈fs
 ·exact u.slot b ob q n hb hx
 ·exact⟨ob.slots,u.keep b ob q n hb hx⟩
def Un.trans(a:Un fs ex H H1 h h1)(b:Un fs ex H1 H2 h1 h2):Un fs ex H H2 h h2 where
 keep:=λc ob q n hc hx=>b.keep c ob (a.keep c ob q n hc hx) (a.free c ob q n hx) hc hx
 slot:=λc ob q n hc hx=>by
  obtain⟨sl,e1⟩:=a.slot c ob q n hc hx;obtain⟨Qy,e2⟩:=b.slot c _ e1 (a.free c ob q n hx) hc hx;exact⟨Qy,e2⟩
 free:=λc ob q n hx=>by
  obtain⟨o',e1⟩:=a.there c ob q hx;exact b.free c o' e1 (a.free c ob q n hx) hx
 there:=λc ob q hx=>by
  obtain⟨o',e1⟩:=a.there c ob q hx;exact b.there c o' e1 hx
 tups:=λc xs q=>b.tups c xs (a.tups c xs q)
 frzs:=λc ob xs q=>b.frzs c ob xs (a.frzs c ob xs q)
 tbls:=λc q e=>b.tbls c q (a.tbls c q e)
def Un.kept(k:∀b u,h.get? b=some u->h'.get? b=some u):Un fs ex H H h h' :=
 ⟨λb ob q _ _ _=>k b ob q,λb ob q _ _ _=>⟨ob.slots,k b ob q⟩,λ_ _ _ n _=>n,λb ob q _=>⟨ob,k b ob q⟩,λ_ _ q=>q,λ_ _ _ q=>q,λ_ _ q=>q⟩
def Un.refl:Un fs ex H H h h:=Un.kept λ_ _ q=>q
def Un.laid(k:∀b u,h.get? b=some u->h'.get? b=some u)(hp:h.objs.size<=a)(hn:H a=none):Un fs ex H (cj H a o) h h' where
 keep:=λb u q _ _ _=>k b u q
 slot:=λb u q _ _ _=>⟨u.slots,k b u q⟩
 free:=λb u q n _=>by rw[aH (aO (bP (az q) hp))];exact n
 there:=λb u q _=>⟨u,k b u q⟩
 tups:=λb xs q=>by rw[aH (cO q hn)];exact q
 frzs:=λb u xs q=>by rw[aH (cO q hn)];exact q
 tbls:=λb ps q=>by rw[aH (cO q hn)];exact q
def Un.write(mu:Uu (H x))(he:e=x\/H e=some (.own x))(k:∀b u,b≠e->h.get? b=some u->h'.get? b=some u)(P4:∃u,h'.get? e=some u):Un fs ex H (cj H x o) h h':=by
 have hx:∀b,H b=none->b≠x:=λb n z=>by subst z;rw[n]at mu;exact mu
 have hb:∀b,H b=none->b≠e:=λb n z=>by
  subst z;rcases he with r | r
  ·exact hx b n r
  ·rw[n]at r;cases r
 have hm:∀b u,H b=some u->¬Uu (some u)->b≠x:=λb u q nm z=>by subst z;rw[q]at mu;exact nm mu
 refine⟨λb u q n _ _=>k b u (hb b n) q,λb u q n _ _=>⟨u.slots,k b u (hb b n) q⟩,λb u q n _=>by rw[aH (hx b n)];exact n,λb u q _=>?_,
  λb xs q=>by rw[aH (hm b _ q λz=>z)];exact q,λb u xs q=>by rw[aH (hm b _ q λz=>z)];exact q,λb ps q=>by rw[aH (hm b _ q λz=>z)];exact q⟩
 by_cases Mp:b=e
 ·subst Mp;exact P4
 ·exact⟨u,k b u Mp q⟩
end
noncomputable def Uv(h:Heap)(H:Hp):List Addr:=(List.range h.objs.size).filter λa=>(H a).isSome
def vC(h:Heap)(H:Hp):Heap:=W.hideAll h (Uv h H)
def BY(h:Heap)(H:Hp):(vC h H).objs.size=h.objs.size:=W.hideAll_size _ _
def hidT_get(e:h.get? b=some o)(n:H b=none):(vC h H).get? b=some o :=
 W.hideAll_get _ e λhm=>by
  have q:=(cZ.mp hm).2;rw[n]at q;simp at q
def of_hidT(e:(vC h H).get? b=some o):h.get? b=some o/\H b=none:=by
 have e':=W.of_hideAll (Uv h H) e;refine⟨e',?_⟩;cases q:H b with
 | none=>rfl
 | some x =>
  have hm:b∈Uv h H:=cZ.mpr ⟨cH.mpr (az e'),by simp[q]⟩
  have z:(vC h H).get? b=none:=W.hideAll_none (Uv h H) hm;rw[z]at e;cases e
structure Mod (K:W.Frag) (mg:Str->Option Value) (base:Heap):Prop where
 kin:K.In base
 glob:base.Ns mainGlobals mg
 blt:∃mb,base.Ns builtinsNs mb/\∀x:Str,x≠"__name__"->mb x=bootBuiltins x
 nolimit:base.NoLimit
structure Cx where
 prog:Program
 w:World
 K:W.Frag
 mg:Str->Option Value
 base:Heap
 A:Around
 N:List Str
 s₀:Shared
 aa:Hp
 env:Env
 aB:List Env
 stack:List Env
 ex:List Addr
 fn:Str->Bool
 calm:Bool
 pn:List (Addr×Obj)
 xe:Value->Shared->Prop
noncomputable def kA(l:List Env):List Addr:=l.filterMap (·.frame)
abbrev Cx.fs(X:Cx):List Addr:=kA X.aB
def Qz(sc:Scope)(x:Str):Prop:=sc.names.lookup x=some .local\/sc.names.lookup x=some .cell\/sc.names.lookup x=some .free
def Lf(sc:Scope)(x:Str):Prop:=sc.names.lookup x=some .local\/sc.names.lookup x=some .cell
def Look(env:Env)(h:Heap)(m:Str->Option Value)(x:Str)(u:Value):Prop :=
 (env.kindOf x=some .local/\m x=some u)\/((env.kindOf x=some .cell\/env.kindOf x=some .free)/\∃c,env.cells.lookup x=some c/\h.IsCell c (some u))
noncomputable def Iu(x:Str):Str:=x++".<locals>."++"<lambda>"
def oF(K:W.Frag)(H:Hp):Prop:=∀x∈de,∀c T,W.tabIn K x=some (c,T)->H T=some (.eO (Iu x))
structure Cx.Ok (X:Cx):Prop where
 mod:Mod X.K X.mg X.base
 kind:X.env.scope.kind=.function
 glob:X.env.globals=mainGlobals
 blt:X.env.builtins=builtinsNs
 above:X.s₀.heap.objs.size<=X.env.locals
 inj:∀x y c,X.env.cells.lookup x=some c->X.env.cells.lookup y=some c->x=y
 has:∀x,(X.env.kindOf x=some .cell\/X.env.kindOf x=some .free)->∃c,X.env.cells.lookup x=some c
 cab:∀x c,X.fn x=true->X.env.cells.lookup x=some c->X.s₀.heap.objs.size<=c
 hd:X.calm=true->X.A.handled=none
 frames:X.A.frames=some X.stack
 stk:X.stack=X.aB\/(X.stack=X.env::X.aB/\X.env.frame=some X.env.locals)
 exf:∀b∈X.ex,b≠X.env.locals/\∀x c,X.env.cells.lookup x=some c->c≠b
 bs:∀b o,X.base.get? b=some o->X.s₀.heap.get? b=some o/\X.aa b=none
 bsz:X.base.objs.size<=X.s₀.heap.objs.size
 noex:∀b o,X.base.get? b=some o->b∉X.ex
 exfs:∀b∈X.ex,b∉X.fs
 funs:X.s₀.heap.FunFrames X.base X.aB
 frf:∀b∈X.fs,X.aa b=none
 tabs:oF X.K X.aa
structure Inv (X:Cx) (ae:List (Addr×Obj)) (σ:List (Option V)) (H:Hp) (s:Shared):Prop where
 ok:X.Ok
 os:s.os=X.s₀.os
 bare:AllBare s.gens
 base:Un X.fs X.ex X.aa H X.s₀.heap s.heap
 loc:∃m,s.heap.Ns X.env.locals m/\∀(i:Nat) (x:Str) (v:V),X.N[i]?=some x->σ[i]?=some (some v)->Qz X.env.scope x->∃u,RelV v u/\Look X.env s.heap m x u
 cell:∀x c,X.env.cells.lookup x=some c->∃v,s.heap.IsCell c v
 free:H X.env.locals=none
 freeC:∀x c,X.env.cells.lookup x=some c->H c=none
 pin:∀p∈X.pn++ae,s.heap.get? p.1=some p.2/\H p.1=none/\p.1≠X.env.locals/\p.1∉X.fs/\∀v,p.2.data≠.cell v
 hok:kq X.prog X.w H s.heap
 len:σ.length=X.N.length
section
variable {X:Cx} {ae:List (Addr×Obj)} {σ:List (Option V)} {H H':Hp} {s:Shared} {h':Heap}
def Cx.Ok.Vh(ok:X.Ok)(e:X.base.get? b=some o):b∉X.fs:=λhb=>by
 have:=(ok.funs.mem hb).1;rw[e]at this;cases this
def Inv.bs(I:Inv X ae σ H s):∀b o,X.base.get? b=some o->s.heap.get? b=some o/\H b=none:=λb o e =>
 ⟨I.base.keep b o (I.ok.bs b o e).1 (I.ok.bs b o e).2 (I.ok.Vh e) (I.ok.noex b o e),I.base.free b o (I.ok.bs b o e).1 (I.ok.bs b o e).2 (I.ok.noex b o e)⟩
def Inv.bk(I:Inv X ae σ H s):∀b o,X.base.get? b=some o->s.heap.get? b=some o:=λb o e=>(I.bs b o e).1
def Inv.mod(I:Inv X ae σ H s):Mod X.K X.mg X.base:=I.ok.mod
def Inv.oG(I:Inv X ae σ H s):X.K.In s.heap:=I.ok.mod.kin.keeps I.bk
def Inv.fr(I:Inv X ae σ H s):∃m,Fr X.base X.env.locals s.heap m :=
 let ⟨m,hn,_⟩:=I.loc
 ⟨m,hn,I.bk,aM I.ok.bsz I.ok.above⟩
def Inv.lt(I:Inv X ae σ H s):X.env.locals<s.heap.objs.size:=let ⟨_,hn,_⟩:=I.loc;hn.lt
def Inv.sz(I:Inv X ae σ H s):X.s₀.heap.objs.size<=s.heap.objs.size:=aM I.ok.above (t8 I.lt)
def Inv.Vi(I:Inv X ae σ H s){a:Addr}(h:s.heap.objs.size<=a):a∉X.fs:=λhb=>by
 obtain⟨_,o,ho,_⟩:=I.ok.funs.mem hb;exact absurd (bP (az ho) (aM I.sz h)) (dM _)
def Inv.Mq(I:Inv X ae σ H s):∀x c,X.env.cells.lookup x=some c->c≠X.env.locals:=λx c e z=>by
 obtain⟨v,o,ho,hd⟩:=I.cell x c e;obtain⟨m,⟨o',es,ep,oH,Iv,_⟩,_⟩:=I.loc;rw[z,oH]at ho;cases ho;rw[Iv]at hd;cases hd
def Inv.funs(I:Inv X ae σ H s):s.heap.FunFrames X.base X.aB:=by
 have all:∀l,(∀b∈kA l,b∈X.fs)->X.s₀.heap.FunFrames X.base l->s.heap.FunFrames X.base l:=by
  intro l;induction l with
  | nil=>intro _ _;trivial
  | cons env r ih =>
   intro hs hl;obtain⟨hk,⟨L,o,hf,hn,ho,hd⟩,hr⟩:=hl;have hL:=hs L (by unfold kA;rw[yn,hf];exact cy)
   obtain⟨sl,e⟩:=I.base.slot L o ho (I.ok.frf L hL) hL λz=>I.ok.exfs L z hL
   exact⟨hk,⟨L,_,hf,hn,e,hd⟩,ih (λb hb=>hs b (by unfold kA;rw[yn,hf];exact bY _ hb)) hr⟩
 exact all X.aB (λ_ hb=>hb) I.ok.funs
def Inv.stack(I:Inv X ae σ H s):s.heap.FunFrames X.base X.stack:=by
 rcases I.ok.stk with e | ⟨e,hf⟩
 ·rw[e];exact I.funs
 ·rw[e];obtain⟨m,hn,_⟩:=I.loc;refine .cons (by rw[I.ok.kind];decide) hf hn ?_ I.funs
  exact Heap.get?_none_of_le (aM I.ok.bsz I.ok.above)
def Inv.ud(I:Inv X ae σ H s):∀b∈kA X.stack,b∈X.env.locals::X.fs:=λb hb=>by
 rcases I.ok.stk with e | ⟨e,hf⟩
 ·rw[e]at hb;exact bY _ hb
 ·rw[e]at hb;unfold kA at hb;rw[yn,hf]at hb;exact hb
def Inv.ue(I:Inv X ae σ H s):∀b∈kA X.stack,H b=none:=λb hb=>by
 rcases bh.mp (I.ud b hb)with e | hb
 ·rw[e];exact I.free
 ·obtain⟨_,o,ho,_⟩:=I.ok.funs.mem hb;exact I.base.free b o ho (I.ok.frf b hb) λz=>I.ok.exfs b z hb
def Inv.tabs(I:Inv X ae σ H s):oF X.K H:=λx hx c T e=>I.base.tbls T _ (I.ok.tabs x hx c T e)
def Inv.step{g':Array GenState}{t':Nat}{d':Drawn}{ch:List Addr}(I:Inv X ae σ H s)
  (Lg:∀b∈ch,(b∈X.ex\/X.s₀.heap.objs.size<=b)/\b≠X.env.locals/\(∀x c,X.env.cells.lookup x=some c->c≠b)/\∀p∈X.pn++ae,p.1≠b)
  (keep:∀b o,b≠X.env.locals->b∉X.fs->b∉ch->s.heap.get? b=some o->H b=none->h'.get? b=some o)
  (slot:∀b o,b≠X.env.locals->b∈X.fs->b∉ch->s.heap.get? b=some o->H b=none->∃sl,h'.get? b=some {o with slots:=sl}) (free:∀b o,b∉ch->s.heap.get? b=some o->H b=none->H' b=none)
  (there:∀b o,b∉ch->s.heap.get? b=some o->∃o',h'.get? b=some o')
  (tups:∀b xs,H b=some (.aj xs)->H' b=some (.aj xs)) (frzs:∀b o u,H b=some (.vt o u)->H' b=some (.vt o u)) (tbls:∀b q,H b=some (.eO q)->H' b=some (.eO q))
  (ns:∀m,s.heap.Ns X.env.locals m->h'.Ns X.env.locals m) (hok:kq X.prog X.w H' h') (hg:AllBare g') :
  Inv X ae σ H' {s with heap:=h',gens:=g',drawn:=d',toks:=t'}:=by
 have Ye:∀b o,X.s₀.heap.get? b=some o->b≠X.env.locals:=λb o e=>aO (bP (az e) I.ok.above)
 have Uw:∀b o,X.s₀.heap.get? b=some o->b∉X.ex->b∉ch:=λb o e hx hb=>by
  rcases(Lg b hb).1 with z | z
  ·exact hx z
  ·exact absurd (bP (az e) z) (dM _)
 have cellK:∀x c,X.env.cells.lookup x=some c->∀v,s.heap.IsCell c v->h'.IsCell c v:=by
  rintro x c e v ⟨o,ho,hd⟩
  have QA:c∉ch:=by grind
  by_cases hc:c∈X.fs
  ·obtain⟨sl,q⟩:=slot c o (I.Mq x c e) hc QA ho (I.freeC x c e);exact⟨_,q,hd⟩
  ·exact⟨o,keep c o (I.Mq x c e) hc QA ho (I.freeC x c e),hd⟩
 refine⟨I.ok,I.os,hg,⟨λb o e n hb hx=>?_,λb o e n hb hx=>?_,λb o e n hx=>?_,λb o e hx=>?_,λb xs e=>tups b xs (I.base.tups b xs e),λb o xs e=>frzs b o xs (I.base.frzs b o xs e),λb ps e=>?_⟩,?_,λx c e=>?_,?_,λx c e=>?_,λp hp=>?_,hok,I.len⟩
 ·exact keep b o (Ye b o e) hb (Uw b o e hx) (I.base.keep b o e n hb hx) (I.base.free b o e n hx)
 ·obtain⟨sl,e1⟩:=I.base.slot b o e n hb hx;obtain⟨Qy,e2⟩:=slot b _ (Ye b o e) hb (Uw b o e hx) e1 (I.base.free b o e n hx);exact⟨Qy,e2⟩
 ·obtain⟨o',e1⟩:=I.base.there b o e hx;exact free b o' (Uw b o e hx) e1 (I.base.free b o e n hx)
 ·obtain⟨o',e1⟩:=I.base.there b o e hx;exact there b o' (Uw b o e hx) e1
 ·exact tbls b ps (I.base.tbls b ps e)
 ·obtain⟨m,hn,hl⟩:=I.loc;refine⟨m,ns m hn,λi x v e1 e2 e3=>?_⟩
  obtain⟨u,r,l⟩:=hl i x v e1 e2 e3;refine⟨u,r,?_⟩;rcases l with l | ⟨k,c,e,z⟩
  ·exact .inl l
  ·exact .inr ⟨k,c,e,cellK x c e _ z⟩
 ·obtain⟨v,z⟩:=I.cell x c e;exact⟨v,cellK x c e v z⟩
 ·obtain⟨m,⟨o,_,_,ho,_⟩,_⟩:=I.loc;exact free _ o (λz=>(Lg _ z).2.1 rfl) ho I.free
 ·obtain⟨v,o,ho,hd⟩:=I.cell x c e;exact free c o (λz=>(Lg c z).2.2.1 x c e rfl) ho (I.freeC x c e)
 ·obtain⟨e,n,ne,nf,d⟩:=I.pin p hp;have QA:p.1∉ch:=by grind
  exact⟨keep p.1 p.2 ne nf QA e n,free p.1 p.2 QA e n,ne,nf,d⟩
def Inv.un{t':Nat}(I:Inv X ae σ H s)(u:Un X.fs [] H H' s.heap h')(hok:kq X.prog X.w H' h'):Inv X ae σ H' {s with heap:=h',toks:=t'}:=by
 obtain⟨m,⟨o,es,ep,ho,r⟩,_⟩:=id I.loc;obtain⟨sl,hL⟩:=u.any ho I.free (by simp)
 exact I.step (ch:=[]) (λ_ z=>nomatch z) (λb o _ hb _ e n=>u.keep b o e n hb (by simp)) (λb o _ hb _ e n=>u.slot b o e n hb (by simp)) (λb o _ e n=>u.free b o e n (by simp)) (λb o _ e=>u.there b o e (by simp)) u.tups u.frzs u.tbls (λm' hm=>by
  obtain⟨o',Lh,Vj,oH,r'⟩:=hm;rw[ho]at oH;cases oH;exact⟨_,Lh,Vj,hL,r'⟩) hok I.bare
def Inv.call{g':Array GenState}{t':Nat}{d':Drawn}{ch:List Addr}(I:Inv X ae σ H s)(u:Un (kA X.stack) ch H H' s.heap h')(hok:kq X.prog X.w H' h')(hg:AllBare g')
  (Lg:∀b∈ch,(b∈X.ex\/X.s₀.heap.objs.size<=b)/\b≠X.env.locals/\(∀x c,X.env.cells.lookup x=some c->c≠b)/\∀p∈X.pn++ae,p.1≠b) :
  Inv X ae σ H' {s with heap:=h',gens:=g',drawn:=d',toks:=t'}:=by
 obtain⟨m,⟨o,es,ep,ho,r⟩,_⟩:=id I.loc;obtain⟨sl,hL⟩:=u.any ho I.free λz=>(Lg _ z).2.1 rfl
 exact I.step Lg (λb o hL hb hc e n=>u.keep b o e n (λz=>(bh.mp (I.ud b z)).elim hL hb) hc) (λb o _ _ hc e n=>u.any e n hc) (λb o hc e n=>u.free b o e n hc) (λb o hc e=>u.there b o e hc) u.tups u.frzs u.tbls (λm' hm=>by
  obtain⟨o',Lh,Vj,oH,r'⟩:=hm;rw[ho]at oH;cases oH;exact⟨_,Lh,Vj,hL,r'⟩) hok hg
def Inv.turned{t':Nat}(I:Inv X ae σ H s)(k:∀b o,b≠it->s.heap.get? b=some o->h'.get? b=some o)(hn:H it=none)(hL:it≠X.env.locals)
  (h1:it∈X.ex\/X.s₀.heap.objs.size<=it) (h2:∀x c,X.env.cells.lookup x=some c->c≠it) (h3:∀p∈X.pn++ae,p.1≠it):Inv X ae σ H {s with heap:=h',toks:=t'}:=by
 have QB:∀b u,H b=some u->b≠it:=λb u e z=>by rw[z,hn]at e;cases e
 refine I.step (ch:=[it]) (λb hb=>?_) (λb o _ _ hc e _=>k b o (λz=>hc (by simp[z])) e) (λb o _ _ hc e _=>⟨o.slots,k b o (λz=>hc (by simp[z])) e⟩) (λ_ _ _ _ n=>n)
  (λb o hc e=>⟨o,k b o (λz=>hc (by simp[z])) e⟩) (λ_ _ e=>e) (λ_ _ _ e=>e) (λ_ _ e=>e) (λm hm=>?_) (λb u e=>?_) I.bare
 ·have e:b=it:=by simpa using hb
  subst e;exact⟨h1,hL,h2,h3⟩
 ·obtain⟨o,es,ep,ho,r⟩:=hm;exact⟨o,es,ep,k _ o (bJ hL) ho,r⟩
 ·refine(I.hok b u e).vB (λc v hc q=>k c v ?_ q) (λ_ q=>q) (λ_ _ q=>q) λ_ _ _ q=>q
  rcases hc with z | z
  ·rw[z];exact QB b u e
  ·exact QB c _ z
def Inv.tok(I:Inv X ae σ H s)(t:Nat):Inv X ae σ H {s with toks:=t}:=I.un Un.refl I.hok
def Inv.kept(I:Inv X ae σ H s)(k:∀b u,s.heap.get? b=some u->h'.get? b=some u):Inv X ae σ H {s with heap:=h',toks:=t'}:=I.un (Un.kept k) (I.hok.kept k)
def Inv.laid{a:Addr}{o:HO}{t':Nat}(I:Inv X ae σ H s)(k:∀b u,s.heap.get? b=some u->h'.get? b=some u)(hp:s.heap.objs.size<=a)(new:eQ X.prog X.w (cj H a o) h' a o) :
  Inv X ae σ (cj H a o) {s with heap:=h',toks:=t'}:=I.un (Un.laid k hp (I.hok.fresh hp)) (I.hok.laid k hp new)
def Inv.write(I:Inv X ae σ H s)(mu:Uu (H x))(he:e=x\/H e=some (.own x))(k:∀b u,b≠e->s.heap.get? b=some u->h'.get? b=some u)(P4:∃u,h'.get? e=some u)
  (new:eQ X.prog X.w (cj H x o) h' x o):Inv X ae σ (cj H x o) {s with heap:=h',toks:=t'}:=I.un (Un.write mu he k P4) (I.hok.write mu he k P4 new)
def Inv.kB(I:Inv X ae σ H s)(h:∀p∈QC,s.heap.get? p.1=some p.2/\H p.1=none/\p.1≠X.env.locals/\p.1∉X.fs/\∀v,p.2.data≠.cell v):Inv X QC σ H s :=
 ⟨I.ok,I.os,I.bare,I.base,I.loc,I.cell,I.free,I.freeC,λp hp=>(cB.mp hp).elim (λz=>I.pin p (nZ _ z)) (h p),I.hok,I.len⟩
def vD{N:List Str}(hN:N.Nodup){i j:Nat}(a:N[i]?=some x)(b:N[j]?=some x):i=j:=by
 obtain⟨h1,e1⟩:=b9.mp a;obtain⟨h2,e2⟩:=b9.mp b;exact(List.getElem_inj hN).mp (e1.trans e2.symm)
def store_ok2{M:Model}{A:Around}{E:Value->Shared->Prop}{i:Nat}{v:V}{u:Value}{Q:Unit->Shared->Prop}(I:Inv X ae σ H s)(hN:X.N.Nodup)(hi:X.N[i]?=some x)(hx:Lf X.env.scope x)(r:RelV v u)
  (h:∀s',Inv X ae (σ.set i (some v)) H s'->(∃a,Heap.SameBut a s.heap s'.heap/\(a=X.env.locals\/X.env.cells.lookup x=some a))->Q () s') (hf:X.fn x=true\/X.env.scope.names.lookup x=some .local:=by first | exact .inl rfl | exact .inr rfl | assumption):wpAny M A (storeName X.env x u) Q E s:=by
 obtain⟨m,hn,hl⟩:=id I.loc;have Vk:(X.env.scope.kind==.class || (X.env.scope.kind==.module&&X.env.locals != X.env.globals))=false:=by rw[I.ok.kind];rfl
 have QD:i<σ.length:=by rw[I.len];exact(b9.mp hi).1
 have Mq:=I.Mq;have AA:∀{a:Addr} {h':Heap},(∃o,s.heap.get? a=some o/\H a=none)->Heap.SameBut a s.heap h'->kq X.prog X.w H h':=λ{a h'} ha hs b ob e=>by
  obtain⟨_,_,vE⟩:=ha;refine(I.hok b ob e).vB (λc w' hc q=>(hs.2 c ?_).trans q) (λ_ q=>q) (λ_ _ q=>q) λ_ _ _ q=>q
  rintro rfl
  rcases hc with rfl | hc
  ·grind
  ·grind
 rcases hx with hk | hk
 ·refine wpAny_storeName_local hk hn (λh' ZO hs=>?_) Vk
  obtain⟨oL,_,_,ZP,_⟩:=id hn;refine h _ ⟨I.ok,I.os,I.bare,⟨λb o e n hb hx=>?_,λb o e n hb hx=>?_,I.base.free,λb o e hx=>?_,I.base.tups,I.base.frzs,I.base.tbls⟩,⟨_,ZO,λj y v' e1 e2 e3=>?_⟩,λy c e=>?_,I.free,I.freeC,λp hp=>?_,AA ⟨oL,ZP,I.free⟩ hs,by simpa using I.len⟩ ⟨_,hs,.inl rfl⟩
  ·exact(hs.2 b (aO (bP (az e) I.ok.above))).trans (I.base.keep b o e n hb hx)
  ·obtain⟨sl,e1⟩:=I.base.slot b o e n hb hx;exact⟨sl,(hs.2 b (aO (bP (az e) I.ok.above))).trans e1⟩
  ·obtain⟨o',e1⟩:=I.base.there b o e hx;exact⟨o',(hs.2 b (aO (bP (az e) I.ok.above))).trans e1⟩
  ·by_cases hj:j=i
   ·subst hj;rw[hi]at e1;cases e1;rw[tj QD]at e2;cases e2;exact⟨u,r,.inl ⟨hk,by simp⟩⟩
   ·rw[jJ (bJ hj)]at e2;obtain⟨u',r',q⟩:=hl j y v' e1 e2 e3;refine⟨u',r',?_⟩;rcases q with⟨k,e⟩ | ⟨k,c,e,z⟩
    ·refine .inl ⟨k,?_⟩;have:y≠x:=λe=>hj (vD hN e1 (e▸hi))
     simp[this,e]
    ·exact .inr ⟨k,c,e,z.sameBut hs (Mq y c e)⟩
  ·obtain⟨w',z⟩:=I.cell y c e;exact⟨w',z.sameBut hs (Mq y c e)⟩
  ·obtain⟨e,n,ne,nf,d⟩:=I.pin p hp;exact⟨(hs.2 p.1 ne).trans e,n,ne,nf,d⟩
 ·have Mr:X.fn x=true:=by
   grind
  obtain⟨c,hc⟩:=I.ok.has x (.inl hk);obtain⟨w',z⟩:=I.cell x c hc;refine wpAny_storeName_cell I.ok.kind hk hc z (λh' DN hs=>?_)
  obtain⟨oc,Yg,ZQ⟩:=id z;refine h {s with heap:=h'} ⟨I.ok,I.os,I.bare,⟨λb o e n hb hx=>?_,λb o e n hb hx=>?_,I.base.free,λb o e hx=>?_,I.base.tups,I.base.frzs,I.base.tbls⟩,⟨m,hn.sameBut hs (bJ (Mq x c hc)),λj y v' e1 e2 e3=>?_⟩,λy c' e=>?_,I.free,I.freeC,λp hp=>?_,AA ⟨oc,Yg,I.freeC x c hc⟩ hs,by simpa using I.len⟩ ⟨c,hs,.inr hc⟩
  ·exact(hs.2 b (aO (bP (az e) (I.ok.cab x c Mr hc)))).trans (I.base.keep b o e n hb hx)
  ·obtain⟨sl,e1⟩:=I.base.slot b o e n hb hx;exact⟨sl,(hs.2 b (aO (bP (az e) (I.ok.cab x c Mr hc)))).trans e1⟩
  ·obtain⟨o',e1⟩:=I.base.there b o e hx;exact⟨o',(hs.2 b (aO (bP (az e) (I.ok.cab x c Mr hc)))).trans e1⟩
  ·by_cases hj:j=i
   ·subst hj;rw[hi]at e1;cases e1;rw[tj QD]at e2;cases e2;exact⟨u,r,.inr ⟨.inl hk,c,hc,DN⟩⟩
   ·rw[jJ (bJ hj)]at e2;obtain⟨u',r',q⟩:=hl j y v' e1 e2 e3;refine⟨u',r',?_⟩;rcases q with q | ⟨k,c',e,z'⟩
    ·exact .inl q
    ·refine .inr ⟨k,c',e,z'.sameBut hs ?_⟩
     rintro rfl
     exact hj (vD hN e1 (I.ok.inj _ _ _ e hc▸hi))
  ·by_cases P5:c'=c
   ·grind
   ·obtain⟨w2,z2⟩:=I.cell y c' e;exact⟨w2,z2.sameBut hs P5⟩
  ·obtain⟨e,n,ne,nf,d⟩:=I.pin p hp;refine⟨(hs.2 p.1 ?_).trans e,n,ne,nf,d⟩;intro q;rw[q,Yg]at e;have q':=bG e;exact d w' (by grind)
def oI(I:Inv X ae σ H s)(hN:X.N.Nodup)(hi:X.N[i]?=some x)(hx:Lf X.env.scope x)(r:RelV v u)
  (h:∀s',Inv X ae (σ.set i (some v)) H s'->Q () s') (hf:X.fn x=true\/X.env.scope.names.lookup x=some .local:=by first | exact .inl rfl | exact .inr rfl | assumption):wpAny M A (storeName X.env x u) Q E s :=
 store_ok2 I hN hi hx r (λs' I' _=>h s' I') hf
def Inv.Li(I:Inv X ae σ H s)(ho:s'.os=s.os)(u:Un (kA X.stack) ch H H' s.heap s'.heap)(hok:kq X.prog X.w H' s'.heap)(hg:AllBare s'.gens)
  (Lg:∀b∈ch,(b∈X.ex\/X.s₀.heap.objs.size<=b)/\b≠X.env.locals/\(∀x c,X.env.cells.lookup x=some c->c≠b)/\∀p∈X.pn++ae,p.1≠b):Inv X ae σ H' s':=by
 obtain⟨h',g',d',t',o'⟩:=s';have e:=ho;subst e;exact I.call u hok hg Lg
end
abbrev XK:=Value->Option Addr->Hp->Prop
abbrev St:=List (Option V)
abbrev VK:=V->Hp->Prop
abbrev TE:=St->Hp->VK->Prop
abbrev TT:=St->Hp->(Bool->Hp->Prop)->Prop
abbrev TA:=St->Hp->(List V->Hp->Prop)->Prop
structure vF where
 nx:St->Hp->Prop
 rt:VK
 bk:St->Hp->Prop:=λ_ _=>False
 ct:St->Hp->Prop:=λ_ _=>False
abbrev TS:=vF->St->Hp->Prop
def EP(X:Cx)(ae:List (Addr×Obj))(σ:St)(Q:VK)(u:Value)(s':Shared):Prop:=∃v H',Inv X ae σ H' s'/\RelV v u/\Q v H'
def TP(X:Cx)(ae:List (Addr×Obj))(σ:St)(Q:Bool->Hp->Prop)(b:Bool)(s':Shared):Prop:=∃H',Inv X ae σ H' s'/\Q b H'
def AP(X:Cx)(ae:List (Addr×Obj))(σ:St)(Q:List V->Hp->Prop)(us:List Value)(s':Shared):Prop:=∃vs H',Inv X ae σ H' s'/\Vals vs us/\Q vs H'
def SP(X:Cx)(ae:List (Addr×Obj))(D:vF)(f:Flow)(s':Shared):Prop :=
 match f with
 | .next=>∃bu H',Inv X ae bu H' s'/\D.nx bu H'
 | .brk=>∃bu H',Inv X ae bu H' s'/\D.bk bu H'
 | .cont=>∃bu H',Inv X ae bu H' s'/\D.ct bu H'
 | .ret u=>∃v bu H',Inv X ae bu H' s'/\RelV v u/\D.rt v H'
def PE(X:Cx)(e:Expr)(t:TE):Prop :=
 ∀(ae:List (Addr×Obj)) (s:Shared) (σ:St) (H:Hp) (Q:VK),Inv X ae σ H s->t σ H Q->wpAny (model X.prog X.w) X.A (eval e X.env) (EP X ae σ Q) X.xe s
def PT(X:Cx)(e:Expr)(t:TT):Prop :=
 ∀(ae:List (Addr×Obj)) (s:Shared) (σ:St) (H:Hp) (Q:Bool->Hp->Prop),Inv X ae σ H s->t σ H Q->wpAny (model X.prog X.w) X.A (isTrue e X.env (eval e X.env)) (TP X ae σ Q) X.xe s
def PW(X:Cx)(e:Expr)(t:TT):Prop :=
 ∀(iu:Sem Value) (ae:List (Addr×Obj)) (s:Shared) (σ:St) (H:Hp) (Q:Bool->Hp->Prop),Inv X ae σ H s->t σ H Q->wpAny (model X.prog X.w) X.A (isTrue e X.env iu) (TP X ae σ Q) X.xe s
def PW.pt(h:PW X e t):PT X e t:=h _
def PA(X:Cx)(es:List Expr)(t:TA):Prop :=
 ∀(pos:Pos) (ae:List (Addr×Obj)) (s:Shared) (σ:St) (H:Hp) (Q:List V->Hp->Prop),Inv X ae σ H s->t σ H Q->wpAny (model X.prog X.w) X.A (spliced (backTo pos (starEach es X.env))) (AP X ae σ Q) X.xe s
def PS(X:Cx)(st:Stmt)(t:TS):Prop :=
 ∀(ae:List (Addr×Obj)) (s:Shared) (σ:St) (H:Hp) (D:vF),Inv X ae σ H s->t D σ H->wpAny (model X.prog X.w) X.A (exec st X.env) (SP X ae D) X.xe s
def PSs(X:Cx)(st:List Stmt)(t:TS):Prop :=
 ∀(ae:List (Addr×Obj)) (s:Shared) (σ:St) (H:Hp) (D:vF),Inv X ae σ H s->t D σ H->wpAny (model X.prog X.w) X.A (execs st X.env) (SP X ae D) X.xe s
def thn{α:Type}{t:Sem α}{Q Q':α->Shared->Prop}{M:Model}{A:Around}{E:Value->Shared->Prop}(h:wpAny M A t Q E s)(hQ:∀a s,Q a s->Q' a s):wpAny M A t Q' E s:=oC h hQ λ_ _ x=>x
section
variable {X:Cx}
def Ms(i:Nat):TE:=λσ H Q=>∃v,σ[i]?=some (some v)/\Q v H
def tC(v:V):TE:=λ_ H Q=>Q v H
def pe_var{i:Nat}{x:Str}{pos:Pos}(hN:X.N[i]?=some x)(hv:Qz X.env.scope x)(hd:(x==("__debug__":Str))=false:=by decide)(DM:(x==("__classdict__":Str))=false:=by decide):PE X (.Name x pos) (Ms i):=by
 intro ae s σ H Q I h;obtain⟨v,e,h⟩:=h;obtain⟨m,hn,hl⟩:=I.loc;obtain⟨u,r,l⟩:=hl i x v hN e hv;have iU:EP X ae σ Q u s:=⟨v,H,I,r,h⟩;rcases l with⟨hk,hm⟩ | ⟨hk,c,hc,rj⟩
 ·exact wpAny_Name (wpAny_loadName_local I.ok.kind hk hn hm iU) hd
 ·rcases hk with hk | hk
  ·exact wpAny_Name (wpAny_loadName_cell I.ok.kind hk hc rj iU) hd
  ·exact wpAny_Name (wpAny_loadName_free I.ok.kind hk hc rj iU DM) hd
def Mt{i j pos}:PE X (.Constant (.int i) j pos) (tC (.int i)):=λ_ _ _ H _ I h=>wpAny_Constant_int ⟨.int i,H,I.tok _,⟨_,rfl⟩,h⟩
def QE{b j pos}:PE X (.Constant (.bool b) j pos) (tC (.bl b)):=λ_ _ _ H _ I h=>Constant_bool ⟨.bl b,H,I,rfl,h⟩
def Mu{j pos}:PE X (.Constant .none j pos) (tC .aV):=λ_ _ _ H _ I h=>Constant_none ⟨.aV,H,I,rfl,h⟩
def Mv{x j pos}:PE X (.Constant (.str x) j pos) (tC (.str x)):=λ_ _ _ H _ I h=>Calls.Constant_str ⟨.str x,H,I.tok _,⟨_,rfl⟩,h⟩
def Gl(X:Cx)(x:Str):Prop:=X.env.kindOf x=some .globalImplicit
def ld_glob{E:Value->Shared->Prop}{ae:List (Addr×Obj)}{s:Shared}{σ:St}{H:Hp}{x:Str}{u:Value}{pos:Pos}{Q:Value->Shared->Prop}(I:Inv X ae σ H s)(hg:Gl X x)(hm:X.mg x=some u)(h:Q u s)
  (hd:(x==("__debug__":Str))=false:=by decide):wpAny (model X.prog X.w) X.A (eval (.Name x pos) X.env) Q E s :=
 DY I.ok.kind hg (Calls.loadGlobal_global (by rw[I.ok.glob];exact I.mod.glob.keeps I.bk) hm h) hd
def ld_blt{E:Value->Shared->Prop}{ae:List (Addr×Obj)}{s:Shared}{σ:St}{H:Hp}{x:Str}{u:Value}{pos:Pos}{Q:Value->Shared->Prop}(I:Inv X ae σ H s)(hg:Gl X x)(hm:X.mg x=none)(hv:bootBuiltins x=some u)(h:Q u s)
  (hn:x≠"__name__":=by decide) (hd:(x==("__debug__":Str))=false:=by decide):wpAny (model X.prog X.w) X.A (eval (.Name x pos) X.env) Q E s:=by
 obtain⟨mb,h1,h2⟩:=I.mod.blt;exact DY I.ok.kind hg (Calls.loadGlobal_builtin (by rw[I.ok.glob];exact I.mod.glob.keeps I.bk) hm (by rw[I.ok.blt];exact h1.keeps I.bk) ((h2 x hn).trans hv) h) hd
def kC(hg:Gl X x)(hm:X.mg x=some u)(r:RelV v u)(hd:(x==("__debug__":Str))=false:=by decide):PE X (.Name x pos) (tC v) :=
 λ_ _ _ H _ I h=>ld_glob I hg hm ⟨v,H,I,r,h⟩ hd
def Iw{x:Str}{v:V}{u:Value}{pos:Pos}(hg:Gl X x)(hm:X.mg x=none)(hv:bootBuiltins x=some u)(r:RelV v u)(hn:x≠"__name__":=by decide)(hd:(x==("__debug__":Str))=false:=by decide):PE X (.Name x pos) (tC v) :=
 λ_ _ _ H _ I h=>ld_blt I hg hm hv ⟨v,H,I,r,h⟩ hn hd
variable {a b:Expr} {ta tb:TE} {pos:Pos}
variable {tA Ux:TT} {rest:List Expr}
def Vl(t u:TT):TT:=λσ H Q=>t σ H λc H1=>if c=true then u σ H1 Q else Q false H1
def ZR(t u:TT):TT:=λσ H Q=>t σ H λc H1=>if c=true then Q true H1 else u σ H1 Q
def Vm(t:TT):TT:=λσ H Q=>t σ H λc H1=>Q (!c) H1
def Iy(ha:PT X a tA):PW X (.BoolOp .And [a] pos) tA:=by
 intro wh ae s σ H Q I h;refine isTrue_and (thn (ha ae s σ H Q I h) λc s1 e=>?_)
 cases c with
 | true=>exact isTrue_and_nil e
 | false=>exact e
def Mw(ha:PT X a tA):PW X (.BoolOp .Or [a] pos) tA:=by
 intro wh ae s σ H Q I h;refine isTrue_or (thn (ha ae s σ H Q I h) λc s1 e=>?_)
 cases c with
 | false=>exact isTrue_or_nil e
 | true=>exact e
def Mx(ha:PT X a tA)(hb:PW X (.BoolOp .And (b::rest) pos) Ux):PW X (.BoolOp .And (a::b::rest) pos) (Vl tA Ux):=by
 intro wh ae s σ H Q I h;refine isTrue_and (thn (ha ae s σ H _ I h) λc s1 ⟨H1,I1,q1⟩=>?_)
 cases c with
 | true=>exact hb wh ae s1 σ H1 Q I1 q1
 | false=>exact⟨H1,I1,q1⟩
def QF(ha:PT X a tA)(hb:PW X (.BoolOp .Or (b::rest) pos) Ux):PW X (.BoolOp .Or (a::b::rest) pos) (ZR tA Ux):=by
 intro wh ae s σ H Q I h;refine isTrue_or (thn (ha ae s σ H _ I h) λc s1 ⟨H1,I1,q1⟩=>?_)
 cases c with
 | true=>exact⟨H1,I1,q1⟩
 | false=>exact hb wh ae s1 σ H1 Q I1 q1
def My(ha:PT X a tA):PT X (.UnaryOp .Not a pos) (Vm tA):=by
 intro ae s σ H Q I h;exact isTrue_not (ha ae s σ H (λc H1=>Q (!c) H1) I h)
def QG(ta:TE):TE:=λσ H Q=>ta σ H λx H1=>∃c,x=.bl c/\Q (.bl (!c)) H1
def Ep{op}(h:PE X a t):PE X (.BoolOp op [a] pos) t:=λae s σ H Q I hw=>BoolOp_one (h ae s σ H Q I hw)
def Mz(ha:PE X a ta):PE X (.UnaryOp .Not a pos) (QG ta):=by
 intro ae s σ H Q I h;refine UnaryOp_ (thn (ha ae s σ H _ I h) λv s1 ⟨x,H1,I1,r1,q1⟩=>?_)
 obtain⟨c,rfl,q1⟩:=q1;cases r1;exact not_of (iN ⟨.bl (!c),H1,I1,rfl,q1⟩)
def ZT(t:TT)(ta tb:TE):TE:=λσ H Q=>t σ H λc H1=>if c=true then ta σ H1 Q else tb σ H1 Q
def Er(hc:PT X c tA)(ha:PE X a ta)(hb:PE X b tb):PE X (.IfExp c a b pos) (ZT tA ta tb):=by
 intro ae s σ H Q I h;refine wpAny_IfExp (thn (hc ae s σ H _ I h) λd s1 ⟨H1,I1,q1⟩=>?_)
 cases d with
 | true=>exact ha ae s1 σ H1 Q I1 q1
 | false=>exact hb ae s1 σ H1 Q I1 q1
end
def uf(K:W.Frag)(H:Hp)(a:Addr)(xs:List V):Prop :=
 Rd H a (.lst xs) \/
  ∃(o:Obj) (ak:Array Value) (n:Nat),K.lookup a=some o/\o.cls=.type "list"/\o.dict=none/\o.data=.seq ak n/\ak.size<=sizeLine/\Vals xs ak.toList
def gE.sq{K:W.Frag}{H:Hp}{a:Addr}{xs:List V}(h:gE K H a xs):uf K H a xs:=by
 rcases h with h | ⟨ak,n,e,z,r⟩
 ·exact .inl h
 ·exact .inr ⟨_,ak.toArray,n,e,rfl,rfl,rfl,by grind,by grind⟩
noncomputable def Vn:Value->Option V
 | .none=>some .aV
 | .bool b=>some (.bl b)
 | .int i _=>some (.int i)
 | .str x _=>some (.str x)
 | .bytes b _=>some (.PZ b)
 | .float b _=>some (.Up b)
 | .ref a=>some (.ref a)
 | .type n=>some (.ty n)
 | _=>none
def RelV.abs(r:RelV x u):Vn u=some x:=by
 cases x with
 | aV=>cases r;rfl
 | bl _=>cases r;rfl
 | int _=>obtain⟨t,rfl⟩:=r;rfl
 | str _=>obtain⟨t,rfl⟩:=r;rfl
 | PZ _=>obtain⟨t,rfl⟩:=r;rfl
 | Up _=>obtain⟨t,rfl⟩:=r;rfl
 | ref _=>cases r;rfl
 | ty _=>cases r;rfl
def RelV.inj(r:RelV x u)(q:RelV y u):x=y:=bG (r.abs.symm.trans q.abs)
theorem Vals.inj:∀{xs ys:List V} {us:List Value},Vals xs us->Vals ys us->xs=ys
 | _,_,_,.nil,.nil=>rfl
 | _,_,_,.cons r t,.cons r' t'=>by rw[r.inj r',Vals.inj t t']
section
variable {X:Cx} {ae:List (Addr×Obj)} {σ:St} {H:Hp} {s:Shared} {a:Addr} {xs ys:List V}
def fx.of{K:W.Frag}(h:H a=some (.aj xs)):fx K H a xs:=.inl (.inl h)
def Inv.list(I:Inv X ae σ H s)(h:uf X.K H a xs):∃ak:List Value,Vals xs ak/\PlainL s.heap a ak.toArray/\xs.length<=sizeLine:=by
 rcases h with h | ⟨o,ak,n,hk,hc,hd,hs,hz,r⟩
 ·obtain⟨z,ak,n,r,e⟩:=h.ok I.hok;exact⟨ak,r,⟨_,n,e,rfl,rfl,rfl⟩,z⟩
 ·refine⟨ak.toList,r,⟨o,n,I.oG a o hk,hc,hd,by simp_all⟩,?_⟩
  have e:=r.length;simp only[lI]at e
  lia
def Inv.Es(I:Inv X ae σ H s)(h:fx X.K H a xs):∃ak:List Value,Vals xs ak/\mV s.heap a ak.toArray/\xs.length<=sizeLine:=by
 rcases h with h | ⟨o,ak,n,hk,hc,⟨hs,hd⟩,hz,r⟩
 ·obtain⟨z,ak,r,p⟩:=h.ok I.hok;exact⟨ak,r,p,z⟩
 ·refine⟨ak.toList,r,⟨o,I.oG a o hk,hc,⟨n,by simp_all⟩,hd⟩,?_⟩
  have e:=r.length;simp only[lI]at e
  lia
def Inv.tuple(I:Inv X ae σ H s)(h:fx X.K H a xs):∃ak:List Value,Vals xs ak/\IsTup s.heap a ak.toArray/\xs.length<=sizeLine:=by
 obtain⟨ak,r,p,z⟩:=I.Es h;exact⟨ak,r,p.is,z⟩
def Inv.kD(I:Inv X ae σ H s)(h:uf X.K H a xs)(h':uf X.K H a ys):xs=ys:=by
 obtain⟨ak,r,⟨o,n,e,_,_,d⟩,_⟩:=I.list h;obtain⟨mW,r',⟨o',n',e',_,_,d'⟩,_⟩:=I.list h';rw[e]at e';cases e';rw[d]at d';injection d' with d1 _
 have:ak=mW:=by grind
 subst this;exact r.inj r'
def Inv.ji(I:Inv X ae σ H s)(h:fx X.K H a xs)(h':fx X.K H a ys):xs=ys:=by
 obtain⟨ak,r,⟨o,e,_,n,d⟩,_⟩:=I.tuple h;obtain⟨mW,r',⟨o',e',_,n',d'⟩,_⟩:=I.tuple h';rw[e]at e';cases e';rw[d]at d';injection d' with d1 _
 have:ak=mW:=by grind
 subst this;exact r.inj r'
end
section
variable {X:Cx} {st:Stmt} {rest:List Stmt} {t u:TS} {e:Expr} {te:TE} {pos:Pos}
def Lj:TS:=λD σ H=>D.nx σ H
def Vo(t u:TS):TS:=λD σ H=>t {D with nx:=u D} σ H
def Iz:PSs X [] Lj:=λ_ _ σ H _ I h=>tU ⟨σ,H,I,h⟩
def Et(h1:PS X st t)(h2:PSs X rest u):PSs X (st::rest) (Vo t u):=by
 intro ae s σ H D I h;refine wpAny_execs_cons (thn (h1 ae s σ H {D with nx:=u D} I h) λf s1 q=>?_)
 cases f with
 | next =>
  obtain⟨bu,H',I',q⟩:=q;exact h2 ae s1 bu H' D I' q
 | ret v=>exact q
 | brk=>exact q
 | cont=>exact q
def IA(h1:PS X st t):PSs X [st] t:=by
 intro ae s σ H D I h;refine wpAny_execs_cons (thn (h1 ae s σ H D I h) λf s1 q=>?_)
 cases f with
 | next=>exact tU q
 | ret v=>exact q
 | brk=>exact q
 | cont=>exact q
def MA:TS:=λD σ H=>D.bk σ H
def QH:TS:=λD σ H=>D.ct σ H
def IB:PS X (.Pass pos) Lj:=λ_ _ σ H _ I h=>wpAny_Pass ⟨σ,H,I,h⟩
def Eu:PS X (.Break pos) MA:=λ_ _ σ H _ I h=>wpAny_Break ⟨σ,H,I,h⟩
def vG:PS X (.Continue pos) QH:=λ_ _ σ H _ I h=>wpAny_Continue ⟨σ,H,I,h⟩
def Inv.quiet{ae:List (Addr×Obj)}{σ:St}{H:Hp}{s:Shared}(I:Inv X ae σ H s):interactive X.env=false:=by simp[interactive,I.ok.kind]
def QI(te:TE):TS:=λD σ H=>te σ H λ_ H1=>D.nx σ H1
def IC(he:PE X e te)(hs:swapsWith e none pos.line X.env=pure false:=by rfl):PS X (.Expr e pos) (QI te):=by
 intro ae s σ H D I h;exact wpAny_Expr_any (thn (he ae s σ H _ I h) (by rintro v s1 ⟨x,H1,I1,r1,q1⟩;exact⟨σ,H1,I1,q1⟩)) I.quiet hs
def Vp(te:TE):TS:=λD σ H=>te σ H D.rt
def MB(he:PE X e te):PS X (.Return (some e) pos) (Vp te):=by
 intro ae s σ H D I h;exact wpAny_Return_some (thn (he ae s σ H _ I h) (by rintro v s1 ⟨x,H1,I1,r1,q1⟩;exact⟨x,σ,H1,I1,r1,q1⟩))
def QJ:TS:=λD _ H=>D.rt .aV H
def ID:PS X (.Return none pos) QJ:=λ_ _ σ H _ I h=>wpAny_Return_none ⟨.aV,σ,H,I,rfl,h⟩
def Vq(c:TT)(t u:TS):TS:=λD σ H=>c σ H λb H1=>if b=true then t D σ H1 else u D σ H1
def QK(hc:PT X c tc)(ha:PSs X a t)(hb:PSs X b u):PS X (.If c a b pos) (Vq tc t u):=by
 intro ae s σ H D I h;refine wpAny_If (thn (hc ae s σ H _ I h) λd s1 ⟨H1,I1,q1⟩=>?_)
 cases d with
 | true=>exact ha ae s1 σ H1 D I1 q1
 | false=>exact hb ae s1 σ H1 D I1 q1
end
abbrev TG:=V->St->Hp->(St->Hp->Prop)->Prop
abbrev Lk:=List V->St->Hp->(St->Hp->Prop)->Prop
def PG(X:Cx)(target:Expr)(t:TG):Prop :=
 ∀(ae:List (Addr×Obj)) (s:Shared) (σ:St) (H:Hp) (v:V) (u:Value) (Q:St->Hp->Prop),Inv X ae σ H s->RelV v u->t v σ H Q ->
  wpAny (model X.prog X.w) X.A (assign target X.env u) (λ_ s'=>∃bu H',Inv X ae bu H' s'/\Q bu H') X.xe s
def PGs(X:Cx)(ts:List Expr)(t:Lk):Prop :=
 ∀(ae:List (Addr×Obj)) (s:Shared) (σ:St) (H:Hp) (vs:List V) (us:List Value) (Q:St->Hp->Prop),Inv X ae σ H s->Vals vs us->t vs σ H Q ->
  wpAny (model X.prog X.w) X.A (assignInOrder ((assignEach ts X.env).map (·.2)) us) (λ_ s'=>∃bu H',Inv X ae bu H' s'/\Q bu H') X.xe s
abbrev Ew:=V->V->V->Hp->(Hp->Prop)->Prop
def Ex(X:Cx)(t:Ew):Prop :=
 ∀(ae:List (Addr×Obj)) (s:Shared) (σ:St) (H:Hp) (o i v:V) (ov iv u:Value) (Q:Hp->Prop),Inv X ae σ H s->RelV o ov->RelV i iv->RelV v u->t o i v H Q ->
  wpAny (model X.prog X.w) X.A (setItem ov iv u) (λ_ s'=>∃H',Inv X ae σ H' s'/\Q H') X.xe s
abbrev Yh:=V->V->Hp->VK->Prop
def ZU(X:Cx)(op:Operator)(t:Yh):Prop :=
 ∀(ae:List (Addr×Obj)) (s:Shared) (σ:St) (H:Hp) (x y:V) (v u:Value) (Q:VK),Inv X ae σ H s->RelV x v->RelV y u->t x y H Q ->
  wpAny (model X.prog X.w) X.A (inplaceOp op v u) (EP X ae σ Q) X.xe s
section
variable {X:Cx} {pos:Pos}
def gName(i:Nat):TG:=λv σ H Q=>Q (σ.set i (some v)) H
def IE(hN:X.N.Nodup)(hi:X.N[i]?=some x)(hx:Lf X.env.scope x)(hf:X.fn x=true\/X.env.scope.names.lookup x=some .local:=by first | exact .inl rfl | exact .inr rfl | assumption):PG X (.Name x pos) (gName i):=by
 intro ae s σ H v u Q I r h;exact wpAny_assign_Name (oI I hN hi hx r (λs' I'=>⟨_,H,I',h⟩) hf)
def Vr:Lk:=λvs σ H Q=>vs=[]/\Q σ H
def QL(t:TG)(u:Lk):Lk:=λvs σ H Q=>∃v r,vs=v::r/\t v σ H λbu H'=>u r bu H' Q
def IF:PGs X [] Vr:=by
 intro ae s σ H vs us Q I r h;obtain⟨e,h⟩:=h;subst e;cases r;exact assignInOrder_nil ⟨σ,H,I,h⟩
def Ey(h1:PG X e t)(h2:PGs X es u)
  (hs:(assignEach (e::es) X.env).map (·.2)=assign e X.env::(assignEach es X.env).map (·.2):=by rfl):PGs X (e::es) (QL t u):=by
 intro ae s σ H vs us Q I r h;obtain⟨v,vr,e1,h⟩:=h;subst e1;cases r with
 | cons r rr =>
  rw[hs];refine assignInOrder_cons (thn (h1 ae s σ H _ _ _ I r h) λ_ s1 ⟨hV,H1,I1,q1⟩=>?_)
  exact h2 ae s1 hV H1 _ _ Q I1 rr q1
def Vs(K:W.Frag)(n:Nat)(t:Lk):TG:=λv σ H Q=>∃a xs,v=.ref a/\fx K H a xs/\xs.length=n/\t xs σ H Q
def MC{es:List Expr}{k:Nat}{t:Lk}{n:Nat}(hc:X.calm=true)(h:PGs X es t)
  (hn:(assignEach es X.env).length=n:=by rfl) (kr:(assignEach es X.env).findIdx? (·.1)=none:=by rfl):PG X (.Tuple es k pos) (Vs X.K n t):=by
 intro ae s σ H v u Q I r hw;obtain⟨a,xs,e1,hq,hl,hw⟩:=hw;subst e1;cases r;obtain⟨ak,rv,ht,hz⟩:=I.tuple hq;refine assign_Tuple_tuple (I.ok.hd hc) ht (by simp[hn,<-hl,rv.length]) kr λh' hx=>?_
 have I1:=I.kept (t':=s.toks) λb o e=>hx b o (aO (az e)) e
 exact h ae _ σ H xs _ Q I1 (by grind) hw
def Vt(to ti:TE)(t:Ew):TG:=λv σ H Q=>to σ H λo H1=>ti σ H1 λi H2=>t o i v H2 λH3=>Q σ H3
def MD(ho:PE X o to)(hi:PE X i ti)(hs:Ex X t)
  (ha:∀v,assign (.Subscript o i pos) X.env v=(do
   let ov <-holding [v] (eval o X.env)
   let iv <-holding [v,ov] (eval i X.env)
   standAt pos
   holding [v,ov,iv] (setItem ov iv v)
   release [v,ov,iv] []):=by intro _;rfl):PG X (.Subscript o i pos) (Vt to ti t):=by
 intro ae s σ H v u Q I r h;rw[ha];refine af (c7 (thn (ho ae s σ H _ I h) λov s1 ⟨x,H1,I1,r1,q1⟩=>?_))
 refine af (c7 (thn (hi ae s1 σ H1 _ I1 q1) λiv s2 ⟨y,H2,I2,r2,q2⟩=>?_))
 refine af (t6 (af (c7 (thn (hs ae s2 σ H2 x y v ov iv u _ I2 r1 r2 r q2) λ_ s3 ⟨H3,I3,q3⟩=>?_))))
 exact wpAny_release ⟨σ,H3,I3,q3⟩
def IG(te:TE)(g:TG):TS:=λD σ H=>te σ H λx H1=>g x σ H1 D.nx
def Ez(he:PE X e te)(hg:PG X tg g)(hs:swapsWithSole [tg] e pos.line X.env=pure false:=by rfl)(hw:swappedStores [tg] e X.env=pure none:=by rfl)
  (h1:(assignEach [tg] X.env).map (·.2)=[assign tg X.env]:=by rfl):PS X (.Assign [tg] e pos) (IG te g):=by
 intro ae s σ H D I h;refine wpAny_Assign_stores (thn (he ae s σ H _ I h) λv s1 ⟨x,H1,I1,r1,q1⟩=>?_) hs hw
 rw[h1];exact thn (hg ae s1 σ H1 x v _ I1 r1 q1) λ_ s2 q=>q
def ME(hN:X.N.Nodup)(hi:X.N[i]?=some x)(hx:Lf X.env.scope x)(he:PE X e te)(hs:swapsWith e (some (.Name x qy)) pos.line X.env=pure false:=by rfl)(hf:X.fn x=true\/X.env.scope.names.lookup x=some .local:=by first | exact .inl rfl | exact .inr rfl | assumption) :
  PS X (.Assign [.Name x qy] e pos) (IG te (gName i)):=by
 intro ae s σ H D I h;refine wpAny_Assign_Name (thn (he ae s σ H _ I h) λv s1 ⟨y,H1,I1,r1,q1⟩=>?_) hs
 exact oI I1 hN hi hx r1 (λs2 I2=>⟨_,H1,I2,q1⟩) hf
def Vu(i:Nat)(te:TE)(ti:Yh):TS:=λD σ H=>∃x,σ[i]?=some (some x)/\te σ H λy H1=>ti x y H1 λz H2=>D.nx (σ.set i (some z)) H2
def MF(hN:X.N.Nodup)(hi:X.N[i]?=some x)(hx:Lf X.env.scope x)(he:PE X e te)(ho:ZU X op ti)(hf:X.fn x=true\/X.env.scope.names.lookup x=some .local:=by first | exact .inl rfl | exact .inr rfl | assumption) :
  PS X (.AugAssign (.Name x qy) op e pos) (Vu i te ti):=by
 intro ae s σ H D I h;obtain⟨v,e1,h⟩:=h;obtain⟨m,hn,hl⟩:=I.loc;have IH:Qz X.env.scope x:=by rcases hx with k | k;exact .inl k;exact .inr (.inl k)
 obtain⟨u,r,l⟩:=hl i x v hi e1 IH;refine wpAny_AugAssign_Name ?_;have go:wpAny (model X.prog X.w) X.A (eval e X.env) (λw BZ=>wpAny (model X.prog X.w) X.A (inplaceOp op u w) (λr Vv=>wpAny (model X.prog X.w) X.A (storeName X.env x r) (λ_=>SP X ae D .next) X.xe Vv) X.xe BZ) X.xe s:=by
  refine thn (he ae s σ H _ I h) λw s1 ⟨y,H1,I1,r1,q1⟩=>?_
  refine thn (ho ae s1 σ H1 v y u w _ I1 r r1 q1) λz s2 ⟨zv,H2,I2,r2,q2⟩=>?_
  exact oI I2 hN hi hx r2 (λs3 I3=>⟨_,H2,I3,q2⟩) hf
 rcases l with⟨hk,hm⟩ | ⟨hk,c,hc,rj⟩
 ·exact wpAny_loadName_local I.ok.kind hk hn hm go
 ·rcases hk with hk | hk
  ·exact wpAny_loadName_cell I.ok.kind hk hc rj go
  ·rcases hx with k | k
   ·have:X.env.scope.names.lookup x=some .free:=hk;rw[k]at this;cases this
   ·have:X.env.scope.names.lookup x=some .free:=hk;rw[k]at this;cases this
end
section
variable {X:Cx} {pos:Pos}
def MH(c:TT)(tb:TS):TS:=λD σ H=>∃W:Nat->St->Hp->Prop,(∃m,W m σ H)/\∀m σ H,W m σ H ->
 c σ H λb H1=>if b=true then ∃N:St->Hp->Prop,(∀bu H',N bu H'->∃m',m'<m/\W m' bu H')/\tb {D with nx:=N,ct:=N,bk:=D.nx} σ H1 else D.nx σ H1
def EA(hp:PassesOwn (model X.prog X.w) X.A X.env X.xe)(hc:PT X c tc)(hb:PSs X body tb):PS X (.While c body [] pos) (MH tc tb):=by
 intro ae s σ H D I h;obtain⟨W,⟨m0,w0⟩,oJ⟩:=h;refine wpAny_While (codeAny_whileLoop (λn s'=>∃bu H',Inv X ae bu H' s'/\W n bu H') ?_ m0 ⟨σ,H,I,w0⟩)
 rintro n s1 ⟨hV,H1,I1,w1⟩
 refine jP hp (thn (hc ae s1 hV H1 _ I1 (oJ n hV H1 w1)) λb s2 ⟨H2,I2,q2⟩=>?_)
 cases b with
 | true =>
  obtain⟨N,hN,q2⟩:=q2;rw[if_pos rfl];refine jP hp (thn (hb ae s2 hV H2 _ I2 q2) λf s3 q3=>?_)
  cases f with
  | next =>
   obtain⟨mX,H3,I3,n3⟩:=q3;obtain⟨m',hm,w3⟩:=hN mX H3 n3;exact⟨m',hm,mX,H3,I3,w3⟩
  | cont =>
   obtain⟨mX,H3,I3,n3⟩:=q3;obtain⟨m',hm,w3⟩:=hN mX H3 n3;exact⟨m',hm,mX,H3,I3,w3⟩
  | brk=>exact q3
  | ret v=>exact q3
 | false =>
  rw[if_neg dJ];exact tU ⟨hV,H2,I2,q2⟩
end
structure It where
 go:Nat->Hp->Prop
 yld:Nat->Hp->V->Hp->Prop
 stop:Nat->Hp->Prop
def oK(X:Cx)(ae:List (Addr×Obj))(H:Hp)(b:Addr):Prop :=
 H b=none/\b≠X.env.locals/\b∉X.fs/\(b∈X.ex\/X.s₀.heap.objs.size<=b)/\(∀x c,X.env.cells.lookup x=some c->c≠b)/\∀p∈X.pn++ae,p.1≠b
def Inv.ug{X:Cx}{ae:List (Addr×Obj)}{σ:St}{H H':Hp}{s:Shared}{b:Addr}(I:Inv X ae σ H s)(hb:s.heap.objs.size<=b)(hn:H' b=none):oK X ae H' b:=by
 refine⟨hn,lU (bP I.lt hb),I.Vi hb,.inr (aM I.sz hb),λx c e z=>?_,λp hp z=>?_⟩
 ·obtain⟨v,q⟩:=I.cell x c e;exact absurd (bP q.lt (by grind)) (dM _)
 ·exact absurd (bP (az (I.pin p hp).1) (by grind)) (dM _)
structure Turn (P:Program) (w:World) (K:W.Frag) (tg:Expr) (J:It) (fp:List Addr) (it:Addr) (tn:Nat->Heap->Prop):Prop where
 mem:it∈fp
 obj:∀i h,tn i h->∀b∈fp,∃o,h.get? b=some o/\∀v,o.data≠.cell v
 keep:∀i h h',tn i h->(∀b∈fp,∀o,h.get? b=some o->h'.get? b=some o)->tn i h'
 item:∀(X:Cx),X.prog=P->X.w=w->X.K=K->X.calm=true->∀(i:Nat) (ae:List (Addr×Obj)) (s:Shared) (σ:St) (H:Hp) (E:Value->Shared->Prop),Inv X ae σ H s->(∀b∈fp,oK X ae H b)->tn i s.heap->J.go i H ->
  wpAny (model P w) X.A (pyNext (.ref it)) (λr s1=>∃u,r=some u /\
   wpAny (model P w) X.A (letOwnedTupleGo tg (.ref it) u) (λ_ s2=>∃x H',Inv X ae σ H' s2/\RelV x u/\J.yld i H x H'/\tn (i+1) s2.heap/\∀b∈fp,H' b=none) E s1) E s
 done:∀(X:Cx),X.prog=P->X.w=w->X.K=K->X.calm=true->∀(i:Nat) (ae:List (Addr×Obj)) (s:Shared) (σ:St) (H:Hp) (E:Value->Shared->Prop),Inv X ae σ H s->(∀b∈fp,oK X ae H b)->tn i s.heap->J.stop i H ->
  wpAny (model P w) X.A (pyNext (.ref it)) (λr s1=>r=none/\Inv X ae σ H s1) E s
 self:∀(A:Around) (i:Nat) (s:Shared) (Q:Value->Shared->Prop) (E:Value->Shared->Prop),tn i s.heap->Q (.ref it) s->wpAny (model P w) A (pyIter (.ref it)) Q E s
abbrev TI:=St->Hp->(It->Hp->Prop)->Prop
def Yi(X:Cx)(ae:List (Addr×Obj))(σ:St)(tg:Expr)(R:It->Hp->Prop)(Vw:Value)(s2:Shared):Prop :=
 ∃(it:Addr) (fp:List Addr) (tn:Nat->Heap->Prop) (J:It) (H':Hp),Vw=.ref it/\Inv X ae σ H' s2/\Turn X.prog X.w X.K tg J fp it tn/\tn 0 s2.heap/\(∀b∈fp,oK X ae H' b)/\R J H'
def PI(X:Cx)(tg iter:Expr)(wi:TI):Prop :=
 ∀(ae:List (Addr×Obj)) (s:Shared) (σ:St) (H:Hp) (R:It->Hp->Prop),Inv X ae σ H s->wi σ H R ->
  wpAny (model X.prog X.w) X.A (eval iter X.env) (λv s1=>wpAny (model X.prog X.w) X.A (pyIter v) (Yi X ae σ tg R) X.xe s1) X.xe s
def AB(ho:s.heap.get? it=some o)(hc:o.cls=.type n)(hd:o.data=.fields vs)
  (hn:["enumerate","zip","dict_itemiterator","dict_reverseitemiterator","odict_iterator","itertools.zip_longest","itertools.pairwise"].contains n=false) (hQ:Q () s):wpAny M A (letOwnedTupleGo tg (.ref it) u) Q E s:=by
 unfold letOwnedTupleGo;cases tg<;>first
  | exact ag hQ
  | (cases u<;>first
    | exact ag hQ
    | (refine af (wpAny_load ho ?_)
       rw[hc,hd];show wpAny M A (if(["enumerate","zip","dict_itemiterator","dict_reverseitemiterator","odict_iterator","itertools.zip_longest","itertools.pairwise"].contains n&&vs[0]?==some (rawInt _))=true then _ else _) Q E s
       rw[if_neg (by grind)]
       exact ag hQ))
noncomputable def Uy(K:W.Frag)(a:Addr):It :=
 ⟨λi H=>∃xs x,uf K H a xs/\xs[i]?=some x,λi H x H'=>H'=H/\∀xs,uf K H a xs->xs[i]?=some x,λi H=>∃xs,uf K H a xs/\xs.length<=i⟩
noncomputable def Vx(K:W.Frag)(a:Addr):It :=
 ⟨λi H=>∃xs x,fx K H a xs/\xs[i]?=some x,λi H x H'=>H'=H/\∀xs,fx K H a xs->xs[i]?=some x,λi H=>∃xs,fx K H a xs/\xs.length<=i⟩
noncomputable def QM(lo:Int)(n:Nat):It:=⟨λi _=>i<n,λi H x H'=>H'=H/\x=.int (lo+i),λi _=>n<=i⟩
def B0{P:Program}{w:World}{K:W.Frag}{tg:Expr}(a it:Addr):Turn P w K tg (Uy K a) [it] it (λi h=>h.IsListIter it a i) where
 mem:=by simp
 obj:=λi h st b hb=>by
  have e:b=it:=by grind
  subst e;obtain⟨o,e,c,d⟩:=st;exact⟨o,e,λv z=>by grind⟩
 keep:=λi h h' st k=>st.at λo e=>k it (by simp) o e
 item:=by
  intro X hP hw hK hc i ae s σ H E I hf st hg;subst hP hw hK;obtain⟨xs,x,hq,hx⟩:=hg;obtain⟨ak,rv,p,hz⟩:=I.list hq;obtain⟨u,hu,ru⟩:=rv.get hx;obtain⟨f0,f1,f2,f3,f4,f5⟩:=hf it (by simp)
  refine wpAny_pyNext_list_item st p.isList (by simpa using hu) λh' bK sb=>?_
  have I1:=I.turned (t':=s.toks) (λb o hb e=>(sb.2 b hb).trans e) f0 f1 f3 f4 f5
  obtain⟨o,e,c,d⟩:=id bK;exact⟨u,rfl,AB e c d (by decide) ⟨x,H,I1,ru,⟨rfl,λys hy=>by rw[I.kD hy hq];exact hx⟩,bK,λb hb=>(hf b hb).1⟩⟩
 done:=by
  intro X hP hw hK hc i ae s σ H E I hf st hg;subst hP hw hK;obtain⟨xs,hq,hx⟩:=hg;obtain⟨ak,rv,p,hz⟩:=I.list hq;obtain⟨f0,f1,f2,f3,f4,f5⟩:=hf it (by simp)
  have hl:=rv.length;exact wpAny_pyNext_list_end (I.ok.hd hc) st p.isList (by simp;lia) λh' eb=>⟨rfl,I.turned (λb o hb e=>eb b o hb e) f0 f1 f3 f4 f5⟩
 self:=λ_ _ _ _ _ st h=>wpAny_pyIter_listiter st h
def yN{P:Program}{w:World}{K:W.Frag}{tg:Expr}(a it:Addr):Turn P w K tg (Vx K a) [it] it (λi h=>h.IsTupleIter it a i) where
 mem:=by simp
 obj:=λi h st b hb=>by
  have e:b=it:=by grind
  subst e;obtain⟨o,e,c,d⟩:=st;exact⟨o,e,λv z=>by grind⟩
 keep:=λi h h' st k=>st.at λo e=>k it (by simp) o e
 item:=by
  intro X hP hw hK hc i ae s σ H E I hf st hg;subst hP hw hK;obtain⟨xs,x,hq,hx⟩:=hg;obtain⟨ak,rv,p,hz⟩:=I.tuple hq;obtain⟨u,hu,ru⟩:=rv.get hx;obtain⟨f0,f1,f2,f3,f4,f5⟩:=hf it (by simp)
  refine wpAny_pyNext_tuple_item st (p) (by simpa using hu) λh' bK sb=>?_
  have I1:=I.turned (t':=s.toks) (λb o hb e=>(sb.2 b hb).trans e) f0 f1 f3 f4 f5
  obtain⟨o,e,c,d⟩:=id bK;exact⟨u,rfl,AB e c d (by decide) ⟨x,H,I1,ru,⟨rfl,λys hy=>by rw[I.ji hy hq];exact hx⟩,bK,λb hb=>(hf b hb).1⟩⟩
 done:=by
  intro X hP hw hK hc i ae s σ H E I hf st hg;subst hP hw hK;obtain⟨xs,hq,hx⟩:=hg;obtain⟨ak,rv,p,hz⟩:=I.tuple hq;obtain⟨f0,f1,f2,f3,f4,f5⟩:=hf it (by simp)
  have hl:=rv.length;exact wpAny_pyNext_tuple_end (I.ok.hd hc) st (p) (by simp;lia) λh' eb=>⟨rfl,I.turned (λb o hb e=>eb b o hb e) f0 f1 f3 f4 f5⟩
 self:=λ_ _ _ _ _ st h=>wpAny_pyIter_tupleiter st h
def yO{P:Program}{w:World}{K:W.Frag}{tg:Expr}(it:Addr)(lo:Int)(n:Nat):Turn P w K tg (QM lo n) [it] it (λi h=>IsRangeIter h it (lo+(i:Nat)*1) ((n:Int)-(i:Nat)) 1) where
 mem:=by simp
 obj:=λi h st b hb=>by
  grind
 keep:=λi h h' st k=>k it (by simp) _ st
 item:=by
  intro X hP hw hK hc i ae s σ H E I hf st hg;subst hP hw hK;obtain⟨f0,f1,f2,f3,f4,f5⟩:=hf it (by simp)
  have W:=Walks.range (prog:=X.prog) (w:=X.w) (I.ok.hd hc) it lo 1 n;refine W.item i s _ _ hg st λv h' tk hv bK kk=>?_
  obtain⟨t,rfl⟩:=hv;have I1:Inv X ae σ H {s with heap:=h',toks:=tk}:=I.turned (λb o hb e=>kk b o (by grind) e) f0 f1 f3 f4 f5
  refine⟨_,rfl,AB bK rfl rfl (by decide) ⟨.int (lo+i),H,I1,⟨t,?_⟩,⟨rfl,rfl⟩,bK,λb hb=>(hf b hb).1⟩⟩
  rw[Int.mul_one]
 done:=by
  intro X hP hw hK hc i ae s σ H E I hf st hg;subst hP hw hK;obtain⟨f0,f1,f2,f3,f4,f5⟩:=hf it (by simp)
  exact wpAny_pyNext_range_end (I.ok.hd hc) st (by have:n<=i:=hg;lia) λh' eb=>⟨rfl,I.turned (λb o hb e=>eb b o hb e) f0 f1 f3 f4 f5⟩
 self:=λ_ _ _ _ _ st h=>wpAny_pyIter_rangeiter st h
section
variable {X:Cx} {tg:Expr}
def QN(K:W.Frag)(tl:TE):TI:=λσ H R=>tl σ H λx H1=>∃a,x=.ref a/\(∃xs,uf K H1 a xs)/\R (Uy K a) H1
def Vy(K:W.Frag)(tl:TE):TI:=λσ H R=>tl σ H λx H1=>∃a,x=.ref a/\(∃xs,fx K H1 a xs)/\R (Vx K a) H1
def AD{l:Expr}{tl:TE}(hl:PE X l tl):PI X tg l (QN X.K tl):=by
 intro ae s σ H R I h;refine thn (hl ae s σ H _ I h) λv s1 ⟨x,H1,I1,r1,q1⟩=>?_
 obtain⟨a,e,⟨xs,hq⟩,q⟩:=q1;subst e;cases r1;obtain⟨ak,rv,p,hz⟩:=I1.list hq;refine lK p.isList ?_;refine⟨s1.heap.objs.size,[s1.heap.objs.size],_,_,H1,rfl,I1.kept λb o e=>ax _ e,B0 a _,⟨_,bc _ rfl,rfl,rfl⟩,λb hb=>?_,q⟩
 have e:b=s1.heap.objs.size:=by grind
 subst e;exact I1.ug (aq _) (I1.hok.fresh (aq _))
def EB{l:Expr}{tl:TE}(hl:PE X l tl):PI X tg l (Vy X.K tl):=by
 intro ae s σ H R I h;refine thn (hl ae s σ H _ I h) λv s1 ⟨x,H1,I1,r1,q1⟩=>?_
 obtain⟨a,e,⟨xs,hq⟩,q⟩:=q1;subst e;cases r1;obtain⟨ak,rv,p,hz⟩:=I1.tuple hq;refine yo (p) ?_;refine⟨s1.heap.objs.size,[s1.heap.objs.size],_,_,H1,rfl,I1.kept λb o e=>ax _ e,yN a _,⟨_,bc _ rfl,rfl,rfl⟩,λb hb=>?_,q⟩
 have e:b=s1.heap.objs.size:=by grind
 subst e;exact I1.ug (aq _) (I1.hok.fresh (aq _))
def vH{ae:List (Addr×Obj)}{σ:St}{H:Hp}{s:Shared}{R:It->Hp->Prop}{E:Value->Shared->Prop}{lo hi:Int}{t u v:Tok}{tk:Nat}(I:Inv X ae σ H s)(h1:-(2^62)<=lo)(h2:lo<2^62)(h3:-(2^62)<=hi)(h4:hi<2^62)
  (q:R (QM lo (hi-lo).toNat) H):wpAny (model X.prog X.w) X.A (pyIter (.ref s.heap.objs.size)) (Yi X ae σ tg R) E {s with heap:=s.heap.push {cls:=.type "range",data:=.fields #[.int lo t,.int hi u,.int 1 v]},toks:=tk}:=by
 refine wpAny_pyIter_range (IsRange.new ..) (small_one h1 h2 h3 h4) ?_;have I1:Inv X ae σ H {s with heap:=s.heap.push {cls:=.type "range",data:=.fields #[.int lo t,.int hi u,.int 1 v]},toks:=tk}:=I.kept λb o e=>ax _ e
 refine⟨(s.heap.push {cls:=.type "range",data:=.fields #[.int lo t,.int hi u,.int 1 v]}).objs.size,[(s.heap.push {cls:=.type "range",data:=.fields #[.int lo t,.int hi u,.int 1 v]}).objs.size],_,_,H,rfl,
  I1.kept λb o e=>ax _ e,yO _ lo (hi-lo).toNat,?_,λb hb=>?_,q⟩
 ·have e1:lo+(0:Nat)*1=lo:=by simp
  have e2:(((hi-lo).toNat:Nat):Int)-(0:Nat)=Builtin.Range.rangeSize lo hi 1:=by rw[rangeSize_one];split<;>lia
  rw[e1,e2];exact bc _ rfl
 ·have e:b=(s.heap.push {cls:=.type "range",data:=.fields #[.int lo t,.int hi u,.int 1 v]}).objs.size:=by grind
  subst e;exact I1.ug (aq _) (I1.hok.fresh (aq _))
def QO(ta:TA):TI:=λσ H R=>ta σ H λvs H1=>∃j:Int,vs=[.int j] /\ -(2^62)<=j/\j<2^62/\R (QM 0 j.toNat) H1
def QP(ta:TA):TI:=λσ H R=>ta σ H λvs H1=>∃i j:Int,vs=[.int i,.int j]/\(-(2^62)<=i/\i<2^62 /\ -(2^62)<=j/\j<2^62)/\R (QM i (j-i).toNat) H1
def B2{a:Expr}{ta:TA}{p pos:Pos}(hg:Gl X "range")(hm:X.mg "range"=none)(ha:PA X [a] ta)(hs:starEach [a] X.env=[(false,eval a X.env)]:=by rfl):PI X tg (.Call (.Name "range" p) [a] [] pos) (QO ta):=by
 intro ae s σ H R I h;refine Call_ (ld_blt I hg hm boot_range (ej (thn (ha pos ae s σ H _ I h) λus s1 ⟨vs,H1,I1,r1,q1⟩=>?_) hs rfl))
 obtain⟨j,e,q1,q2,q⟩:=q1;subst e;cases r1 with
 | cons r rr =>
  cases rr;obtain⟨t,rfl⟩:=r;exact call_range_1 (vH I1 (by lia) (by lia) q1 q2 (by grind))
def B3{a b:Expr}{ta:TA}{p pos:Pos}(hg:Gl X "range")(hm:X.mg "range"=none)(ha:PA X [a,b] ta)(hs:starEach [a,b] X.env=[(false,eval a X.env),(false,eval b X.env)]:=by rfl)(xO:starEach [b] X.env=[(false,eval b X.env)]:=by rfl) :
  PI X tg (.Call (.Name "range" p) [a,b] [] pos) (QP ta):=by
 intro ae s σ H R I h;refine Call_ (ld_blt I hg hm boot_range (ej (thn (ha pos ae s σ H _ I h) λus s1 ⟨vs,H1,I1,r1,q1⟩=>?_) (by grind) (by rw[xO];rfl)))
 obtain⟨i,j,e,⟨q1,q2,q3,q4⟩,q⟩:=q1;subst e;cases r1 with
 | cons r rr =>
  cases rr with
  | cons r' rr =>
   cases rr;obtain⟨t,rfl⟩:=r;obtain⟨t',rfl⟩:=r';exact call_range_2 (vH I1 q1 q2 q3 q4 q)
def Vz(wi:TI)(g:TG)(tb:TS):TS:=λD σ H=>wi σ H λJ H1=>∃W:Nat->Nat->St->Hp->Prop,(∃m,W 0 m σ H1)/\∀i m σ H,W i m σ H ->
 (J.stop i H/\D.nx σ H)\/(J.go i H/\∃N:St->Hp->Prop,(∀bu H',N bu H'->∃m',m'<m/\W (i+1) m' bu H')/\∀x H',J.yld i H x H'->g x σ H' λAE H2=>tb {D with nx:=N,ct:=N,bk:=D.nx} AE H2)
noncomputable def oM(fp:List Addr)(h:Heap):List (Addr×Obj):=fp.filterMap λb=>(h.get? b).map λo=>(b,o)
def hW(hb:b∈fp)(e:h.get? b=some o):(b,o)∈oM fp h:=n8.mpr ⟨b,hb,by rw[e];rfl⟩
def B4(hp:p∈oM fp h):p.1∈fp/\h.get? p.1=some p.2:=by
 obtain⟨b,hb,e⟩:=n8.mp hp;cases q:h.get? b with
 | none=>rw[q]at e;cases e
 | some o =>
  rw[q]at e;have e':=bG e;subst e';exact⟨hb,q⟩
def Inv.pinned{ae:List (Addr×Obj)}{σ:St}{H:Hp}{s:Shared}{fp:List Addr}(I:Inv X ae σ H s)(hf:∀b∈fp,oK X ae H b)(ho:∀b∈fp,∃o,s.heap.get? b=some o/\∀v,o.data≠.cell v):Inv X (ae++oM fp s.heap) σ H s :=
 I.kB λp hp=>(cB.mp hp).elim (λz=>I.pin p (ek _ z)) λz=>by
  obtain⟨hb,e⟩:=B4 z;obtain⟨f0,f1,f2,_⟩:=hf p.1 hb;obtain⟨o,e',d⟩:=ho p.1 hb;rw[e]at e';cases e';exact⟨e,f0,f1,f2,d⟩
def Inv.oN{ae pl:List (Addr×Obj)}{σ:St}{H:Hp}{s:Shared}(I:Inv X (ae++pl) σ H s):Inv X ae σ H s:=I.kB λp hp=>I.pin p (ek _ (nZ _ hp))
def MI(hp:PassesOwn (model X.prog X.w) X.A X.env X.xe)(hc:X.calm=true)(hi:PI X tg iter wi)(hg:PG X tg g)(hb:PSs X body tb)
  (hs:∀x,foldedSetIterable iter X.env x=pure x:=by intro _;rfl):PS X (.For tg iter body [] pos) (Vz wi g tb):=by
 intro ae s σ H D I h;refine wpAny_For (thn (hi ae s σ H _ I h) λv s1 h1=>thn h1 λVw s2 h2=>?_) hs
 obtain⟨it,fp,tn,J,H2,e,I2,T,dF,f2,W,⟨m0,w0⟩,oJ⟩:=h2;subst e;have yP:∀{H':Hp},(∀b∈fp,H' b=none)->∀b∈fp,oK X ae H' b:=λhn b hb=>⟨hn b hb,(f2 b hb).2⟩
 refine codeAny_forLoop_any (λn s'=>∃i bu H',Inv X ae bu H' s'/\tn i s'.heap/\(∀b∈fp,H' b=none)/\W i n bu H') ?_ m0 ⟨0,σ,H2,I2,dF,λb hb=>(f2 b hb).1,w0⟩
 rintro n s3 ⟨i,mX,H3,I3,II,Yj,w3⟩
 rcases oJ i n mX H3 w3 with⟨stop,qn⟩ | ⟨go,N,hN,step⟩
 ·refine jP hp (thn (T.done X rfl rfl rfl hc i ae s3 mX H3 X.xe I3 (yP Yj) II stop) λr s4 ⟨hr,I4⟩=>?_)
  subst hr;exact tU ⟨mX,H3,I4,qn⟩
 ·refine jP hp (thn (T.item X rfl rfl rfl hc i ae s3 mX H3 X.xe I3 (yP Yj) II go) λr s4 ⟨u,hr,h4⟩=>?_)
  subst hr;refine jP hp (thn h4 λ_ s5 z9=>?_)
  obtain⟨x,H5,I5,r5,y5,MJ,VA⟩:=z9;have VB:=I5.pinned (yP VA) (T.obj _ _ MJ);refine jP hp (thn (hg _ s5 mX H5 x u _ VB r5 (step x H5 y5)) λ_ s6 ⟨Uz,H6,I6,q6⟩=>?_)
  refine jP hp (thn (hb _ s6 Uz H6 _ I6 q6) λf s7 q7=>?_)
  have again:∀{EC:St} {H7:Hp},Inv X (ae++oM fp s5.heap) EC H7 s7->N EC H7->∃m,m<n/\∃i bu H',Inv X ae bu H' s7/\tn i s7.heap/\(∀b∈fp,H' b=none)/\W i m bu H':=λ{EC H7} I7 n7=>by
   obtain⟨m',hm,w7⟩:=hN EC H7 n7;refine⟨m',hm,i+1,EC,H7,I7.oN,T.keep _ _ _ MJ λb hb o e=>(I7.pin (b,o) (ek _ (ek _ (hW hb e)))).1,λb hb=>?_,w7⟩
   obtain⟨o,e,d⟩:=T.obj _ _ MJ b hb;exact(I7.pin (b,o) (ek _ (ek _ (hW hb e)))).2.1
  cases f with
  | next=>obtain⟨EC,H7,I7,n7⟩:=q7;exact again I7 n7
  | cont=>obtain⟨EC,H7,I7,n7⟩:=q7;exact again I7 n7
  | brk=>obtain⟨EC,H7,I7,q7⟩:=q7;exact⟨EC,H7,I7.oN,q7⟩
  | ret v=>obtain⟨x7,EC,H7,I7,r7,q7⟩:=q7;exact⟨x7,EC,H7,I7.oN,r7,q7⟩
end
abbrev R2:=V->V->Hp->VK->Prop
def OpR(X:Cx)(f:Value->Value->Sem Value)(r:R2):Prop :=
 ∀(ae:List (Addr×Obj)) (s:Shared) (σ:St) (H:Hp) (x y:V) (v u:Value) (Q:VK),Inv X ae σ H s->RelV x v->RelV y u->r x y H Q ->
  wpAny (model X.prog X.w) X.A (f v u) (EP X ae σ Q) X.xe s
def UnR(X:Cx)(f:Value->Sem Value)(r:V->Hp->VK->Prop):Prop :=
 ∀(ae:List (Addr×Obj)) (s:Shared) (σ:St) (H:Hp) (x:V) (v:Value) (Q:VK),Inv X ae σ H s->RelV x v->r x H Q ->
  wpAny (model X.prog X.w) X.A (f v) (EP X ae σ Q) X.xe s
def jB(X:Cx)(f:Value)(r:List V->Hp->VK->Prop):Prop :=
 ∀(ae:List (Addr×Obj)) (s:Shared) (σ:St) (H:Hp) (xs:List V) (us:List Value) (Q:VK),Inv X ae σ H s->Vals xs us->r xs H Q ->
  wpAny (model X.prog X.w) X.A (call f us) (EP X ae σ Q) X.xe s
def VC(X:Cx)(r:V->Hp->(Bool->Hp->Prop)->Prop):Prop :=
 ∀(ae:List (Addr×Obj)) (s:Shared) (σ:St) (H:Hp) (x:V) (v:Value) (Q:Bool->Hp->Prop),Inv X ae σ H s->RelV x v->r x H Q ->
  wpAny (model X.prog X.w) X.A (truthy v) (TP X ae σ Q) X.xe s
def MK(r:R2)(ta tb:TE):TE:=λσ H Q=>ta σ H λx H1=>tb σ H1 λy H2=>r x y H2 Q
def ZV(r:V->Hp->VK->Prop)(ta:TE):TE:=λσ H Q=>ta σ H λx H1=>r x H1 Q
def rI(C:Int->Int->Prop)(g:Int->Int->V):R2:=λx y H Q=>∃i j,x=.int i/\y=.int j/\C i j/\Q (g i j) H
def HQ(g:Int->Int->V):R2:=λx y H Q=>∃i j,x=.int i/\y=.int j/\Q (g i j) H
def rU(g:Int->V):V->Hp->VK->Prop:=λx H Q=>∃i,x=.int i/\Q (g i) H
section
variable {X:Cx} {a b c:Expr} {ta tb tc:TE} {pos:Pos}
def IJ(ha:PE X a ta)(hb:PE X b tb){ae:List (Addr×Obj)}{s:Shared}{σ:St}{H:Hp}{R:V->V->Hp->Prop}(I:Inv X ae σ H s)
  (h:ta σ H λx H1=>tb σ H1 λy H2=>R x y H2) {Q:Value->Shared->Prop} {f:Value->Value->Sem Value}
  (hf:∀v u s2 x y H2,Inv X ae σ H2 s2->RelV x v->RelV y u->R x y H2->wpAny (model X.prog X.w) X.A (f v u) Q X.xe s2) :
  wpAny (model X.prog X.w) X.A (eval a X.env) (λv s₁=>wpAny (model X.prog X.w) X.A (eval b X.env) (λu BZ=>wpAny (model X.prog X.w) X.A (f v u) Q X.xe BZ) X.xe s₁) X.xe s:=by
 refine thn (ha ae s σ H _ I h) λv s1 ⟨x,H1,I1,r1,q1⟩=>?_
 refine thn (hb ae s1 σ H1 _ I1 q1) λu s2 ⟨y,H2,I2,r2,q2⟩=>?_
 exact hf v u s2 x y H2 I2 r1 r2 q2
def Ll(ho:OpR X (binaryOp op) r)(ha:PE X a ta)(hb:PE X b tb):PE X (.BinOp a op b pos) (MK r ta tb):=by
 intro ae s σ H Q I h;exact wpAny_BinOp (IJ ha hb I h λv u s2 x y H2 I2 rx ry q=>ho ae s2 σ H2 x y v u Q I2 rx ry q)
def QQ{r:V->Hp->VK->Prop}(ho:UnR X (unaryOp op) r)(ha:PE X a ta):PE X (.UnaryOp op a pos) (ZV r ta):=by
 intro ae s σ H Q I h;exact UnaryOp_ (thn (ha ae s σ H _ I h) (by rintro v s1 ⟨x,H1,I1,r1,q1⟩;exact ho ae s1 σ H1 x v Q I1 r1 q1))
def UA{f:Value->Value->Sem Value}{C:Int->Int->Prop}{g:Int->Int->Int}
  (rule:∀(i j:Int) (t u:Tok) (s:Shared) (Q:Value->Shared->Prop) (E:Value->Shared->Prop),C i j->Q (.int (g i j) s.toks) {s with toks:=s.toks+1}->wpAny (model X.prog X.w) X.A (f (.int i t) (.int j u)) Q E s) :
  OpR X f (rI C λi j=>.int (g i j)):=by
 intro ae s σ H x y v u Q I rx ry h;obtain⟨i,j,rfl,rfl,hc,q⟩:=h;obtain⟨t,rfl⟩:=rx;obtain⟨t',rfl⟩:=ry;exact rule i j t t' s _ _ hc ⟨.int (g i j),H,I.tok _,⟨_,rfl⟩,q⟩
def ML{f:Value->Value->Sem Value}{g:Int->Int->Int}
  (rule:∀(i j:Int) (t u:Tok) (s:Shared) (Q:Value->Shared->Prop) (E:Value->Shared->Prop),Q (.int (g i j) s.toks) {s with toks:=s.toks+1}->wpAny (model X.prog X.w) X.A (f (.int i t) (.int j u)) Q E s) :
  OpR X f (HQ λi j=>.int (g i j)):=by
 intro ae s σ H x y v u Q I rx ry h;obtain⟨i,j,rfl,rfl,q⟩:=h;obtain⟨t,rfl⟩:=rx;obtain⟨t',rfl⟩:=ry;exact rule i j t t' s _ _ ⟨.int (g i j),H,I.tok _,⟨_,rfl⟩,q⟩
def IK{f:Value->Value->Sem Value}{g:Int->Int->Bool}
  (rule:∀(i j:Int) (t u:Tok) (s:Shared) (Q:Value->Shared->Prop) (E:Value->Shared->Prop),Q (.bool (g i j)) s->wpAny (model X.prog X.w) X.A (f (.int i t) (.int j u)) Q E s) :
  OpR X f (HQ λi j=>.bl (g i j)):=by
 intro ae s σ H x y v u Q I rx ry h;obtain⟨i,j,rfl,rfl,q⟩:=h;obtain⟨t,rfl⟩:=rx;obtain⟨t',rfl⟩:=ry;exact rule i j t t' s _ _ ⟨.bl (g i j),H,I,rfl,q⟩
def VD(i j:Int):Prop:=0<j/\j<1073741824
def VE(i j:Int):Prop:=0<=j/\j<=1000000/\i.natAbs<2^64
def MM(i j:Int):Prop:=(-(2^64)<i/\i<2^64)\/(-(2^64)<j/\j<2^64)
def MM.ok(h:MM i j):IntMulOk i j:=by
 rcases h with⟨h1,h2⟩ | ⟨h1,h2⟩
 ·exact .of_left (intBits_le_64 h1 h2)
 ·exact .of_right (intBits_le_64 h1 h2)
def MN:OpR X (binaryOp .Add) (HQ λi j=>.int (i+j)):=ML λ_ _ _ _ _ _ _ q=>add_int q
def MO:OpR X (binaryOp .Sub) (HQ λi j=>.int (i-j)):=ML λ_ _ _ _ _ _ _ q=>sub_int q
def MP:OpR X (binaryOp .Mult) (rI MM λi j=>.int (i*j)):=UA λ_ _ _ _ _ _ _ hc q=>mul_int q hc.ok
def IL:OpR X (binaryOp .FloorDiv) (rI VD λi j=>.int (i/j)):=UA λi j _ _ _ _ _ hc q=>by
 have h1:=hc.1;have h2:=hc.2;exact floordiv_int (by lia) (by rw[Int.fdiv_eq_ediv_of_nonneg i (by lia)];exact q) (.inl (PyProof.noPylong_small (by lia)))
def MQ:OpR X (binaryOp .Mod) (rI (λ_ j=>0<j) λi j=>.int (i%j)):=UA λi j _ _ _ _ _ hc q=>by
 have h1:=hc;exact mod_int' (by lia) (by rw[Int.fmod_eq_emod_of_nonneg i (by lia)];exact q)
def MR:OpR X (binaryOp .Pow) (rI VE λi j=>.int (i^j.toNat)):=UA λ_ _ _ _ _ _ _ hc q=>pow_int_small hc.1 hc.2.1 hc.2.2 q
def IM:OpR X (inplaceOp .Add) (HQ λi j=>.int (i+j)):=ML λ_ _ _ _ _ _ _ q=>iadd_int q
def ZW{f:Value->Sem Value}{g:Int->Int}
  (rule:∀(i:Int) (t:Tok) (s:Shared) (Q:Value->Shared->Prop) (E:Value->Shared->Prop),Q (.int (g i) s.toks) {s with toks:=s.toks+1}->wpAny (model X.prog X.w) X.A (f (.int i t)) Q E s) :
  UnR X f (rU λi=>.int (g i)):=by
 intro ae s σ H x v Q I rx h;obtain⟨i,rfl,q⟩:=h;obtain⟨t,rfl⟩:=rx;exact rule i t s _ _ ⟨.int (g i),H,I.tok _,⟨_,rfl⟩,q⟩
def MS:UnR X (unaryOp .USub) (rU λi=>.int (-i)):=ZW λ_ _ _ _ _ q=>neg_int q
end
section
variable {X:Cx} {a b c:Expr} {ta tb tc:TE} {pos:Pos}
def ED{ae:List (Addr×Obj)}{σ:St}{H:Hp}{s:Shared}{Q:VK}{k k':Bool}(I:Inv X ae σ H s)(q:Q (.bl k) H)(e:k=k'):EP X ae σ Q (.bool k') s:=by
 subst e;exact⟨.bl k,H,I,rfl,q⟩
def QR:OpR X (compareOp .Lt) (HQ λi j=>.bl (decide (i<j))):=IK λ_ _ _ _ _ _ _ q=>lt_int q
def QS:OpR X (compareOp .LtE) (HQ λi j=>.bl (decide (i<=j))):=IK λ_ _ _ _ _ _ _ q=>le_int q
def QT:OpR X (compareOp .Gt) (HQ λi j=>.bl (decide (j<i))):=IK λ_ _ _ _ _ _ _ q=>gt_int q
def QU:OpR X (compareOp .GtE) (HQ λi j=>.bl (decide (j<=i))):=IK λ_ _ _ _ _ _ _ q=>ge_int q
def MT:OpR X (compareOp .Is) (λx y H Q=>y=.aV/\Q (.bl (decide (x=.aV))) H):=by
 intro ae s σ H x y v u Q I rx ry h;obtain⟨rfl,q⟩:=h;cases ry;refine is_none_gen (ED I q ?_);cases x<;>first
  | (cases rx;rfl)
  | (obtain⟨t,rfl⟩:=rx;rfl)
def IP:OpR X (compareOp .IsNot) (λx y H Q=>y=.aV/\Q (.bl (!decide (x=.aV))) H):=by
 intro ae s σ H x y v u Q I rx ry h;obtain⟨rfl,q⟩:=h;cases ry;refine isnot_none_gen (ED I q ?_);cases x<;>first
  | (cases rx;rfl)
  | (obtain⟨t,rfl⟩:=rx;rfl)
def AF(ho:OpR X (compareOp op) r)(ha:PE X a ta)(hb:PE X b tb)(hm:behindInMarks op b=false):PE X (.Compare a [op] [b] pos) (MK r ta tb):=by
 intro ae s σ H Q I h;exact wpAny_Compare1 (IJ ha hb I h λv u s2 x y H2 I2 rx ry q=>ho ae s2 σ H2 x y v u Q I2 rx ry q) hm
def Lm(t:TE):TT:=λσ H Q=>t σ H λx H'=>∃k,x=.bl k/\Q k H'
def AG(ho:OpR X (compareOp op) r)(ha:PE X a ta)(hb:PE X b tb)(hm:behindInMarks op b=false):PT X (.Compare a [op] [b] pos) (Lm (MK r ta tb)):=by
 intro ae s σ H Q I h;refine wpAny_isTrue_Compare1 (thn (ha ae s σ H _ I h) λv s1 ⟨x,H1,I1,r1,q1⟩=>thn (hb ae s1 σ H1 _ I1 q1) λu s2 ⟨y,H2,I2,r2,q2⟩ =>
  thn (ho ae s2 σ H2 x y v u _ I2 r1 r2 q2) λc s3 ⟨z,H3,I3,r3,k,e,q3⟩=>?_) hm
 subst e;cases r3;exact iN ⟨H3,I3,q3⟩
def yQ(r r':R2)(ta tb tc:TE):TE:=λσ H Q=>ta σ H λx H1=>tb σ H1 λy H2=>r x y H2 λz H3=>∃k,z=.bl k /\
 (if k=true then tc σ H3 λw' H4=>r' y w' H4 Q else Q (.bl false) H3)
def EE(ho:OpR X (compareOp op) r)(oH:OpR X (compareOp vn) r')(ha:PE X a ta)(hb:PE X b tb)(hc:PE X c tc)
  (hm:lastMarks [op,vn] [b,c]=false:=by with_unfolding_all rfl):PE X (.Compare a [op,vn] [b,c] pos) (yQ r r' ta tb tc):=by
 intro ae s σ H Q I h;refine Compare_chain (thn (ha ae s σ H _ I h) λv s1 ⟨x,H1,I1,r1,q1⟩=>chain_link (thn (hb ae s1 σ H1 _ I1 q1) λu s2 ⟨y,H2,I2,r2,q2⟩ =>
  thn (ho ae s2 σ H2 x y v u _ I2 r1 r2 q2) λd s3 ⟨z,H3,I3,r3,k,e,q3⟩=>?_)) hm
 subst e;cases r3;refine iN ?_;cases k with
 | false=>exact ite_ff ⟨.bl false,H3,I3,rfl,q3⟩
 | true=>exact ite_tt (chain_last (thn (hc ae s3 σ H3 _ I3 q3) (by rintro w' s4 ⟨z',H4,I4,r4,q4⟩;exact oH ae s4 σ H4 y z' u w' Q I4 r2 r4 q4)))
def EF(ho:OpR X (compareOp op) r)(oH:OpR X (compareOp vn) r')(ha:PE X a ta)(hb:PE X b tb)(hc:PE X c tc)
  (hm:lastMarks [op,vn] [b,c]=false:=by with_unfolding_all rfl):PT X (.Compare a [op,vn] [b,c] pos) (Lm (yQ r r' ta tb tc)):=by
 intro ae s σ H Q I h;refine isTrue_chain (thn (ha ae s σ H _ I h) λv s1 ⟨x,H1,I1,r1,q1⟩=>test_link (thn (hb ae s1 σ H1 _ I1 q1) λu s2 ⟨y,H2,I2,r2,q2⟩ =>
  thn (ho ae s2 σ H2 x y v u _ I2 r1 r2 q2) λd s3 ⟨z,H3,I3,r3,k,e,q3⟩=>?_)) hm
 subst e;cases r3;refine iN ?_;cases k with
 | false =>
  obtain⟨k',e',q'⟩:=q3;cases e';exact ite_ff ⟨H3,I3,q'⟩
 | true =>
  refine ite_tt (test_last (thn (hc ae s3 σ H3 _ I3 q3) λw' s4 ⟨z',H4,I4,r4,q4⟩=>thn (oH ae s4 σ H4 y z' u w' _ I4 r2 r4 q4) λd' s5 z9=>?_))
  obtain⟨z2,H5,I5,r5,k2,e2,q5⟩:=z9;subst e2;cases r5;exact iN ⟨H5,I5,q5⟩
def IQ(K:W.Frag)(x:V)(H:Hp)(k:Bool):Prop :=
 match x with
 | .aV=>k=false
 | .bl b=>k=b
 | .int i=>k=(i != 0)
 | .str y=>y.length<=sizeLine/\k=((y.length:Int) != 0)
 | .PZ y=>y.size<=sizeLine/\k=((y.size:Int) != 0)
 | .ref p=>(∃xs,uf K H p xs/\k = !xs.isEmpty)\/(∃xs,fx K H p xs/\k = !xs.isEmpty)\/∃kvs,H p=some (.dK kvs)/\k = !kvs.isEmpty
 | _=>False
def yR{κ:Type}{kvs:List (κ×V)}{vs:List (κ×Value)}(r:KV kvs vs):(!vs.isEmpty) = !kvs.isEmpty:=by
 cases r<;>rfl
def oO(r:Vals xs ak):(!ak.toArray.isEmpty) = !xs.isEmpty:=by
 cases r<;>simp
def jX:(sizeLine:Nat)<2^63:=by rw[jV];decide
def EG:VC X (λx H Q=>∃k,IQ X.K x H k/\Q k H):=by
 intro ae s σ H x v Q I rx h;obtain⟨k,e,q⟩:=h;have hl:=jX;have hs:=jV;cases x with
 | aV =>
  cases rx;have e':=e;subst e';exact truthy_none ⟨H,I,q⟩
 | bl b =>
  cases rx;have e':=e;subst e';exact iN ⟨H,I,q⟩
 | int i =>
  obtain⟨t,rfl⟩:=rx;have e':=e;subst e';exact PySem.P.truthy_int ⟨H,I,q⟩
 | str y =>
  obtain⟨t,rfl⟩:=rx;obtain⟨hy,e'⟩:y.length<=sizeLine/\k=((y.length:Int) != 0):=e;subst e';exact PySem.P.truthy_str (by lia) ⟨H,I.tok _,q⟩
 | PZ y =>
  obtain⟨t,rfl⟩:=rx;obtain⟨hy,e'⟩:y.size<=sizeLine/\k=((y.size:Int) != 0):=e;subst e';exact W.truthy_bytes (by lia) ⟨H,I.tok _,q⟩
 | ref p =>
  cases rx;have e':=e;rcases e' with⟨xs,hx,e'⟩ | ⟨xs,hx,e'⟩ | ⟨kvs,hx,e'⟩
  ·subst e';obtain⟨ak,r,pl,hz⟩:=I.list hx;have dr:=r.length;exact wpAny_truthy_list pl.isList (by grind) ⟨H,I.tok _,by rw[oO r];exact q⟩
  ·subst e';obtain⟨ak,r,pl,hz⟩:=I.tuple hx;have dr:=r.length;exact truthy_tuple pl (by grind) ⟨H,I.tok _,by rw[oO r];exact q⟩
  ·subst e';obtain⟨hz,hS,vs,r,m⟩:kvs.length<=sizeLine/\(p==sysModules)=false/\∃vs,KV kvs vs/\s.heap.DictOf (bA X.prog X.w) p vs:=I.hok p _ hx
   have dr:=iR r;exact wpAny_truthy_dict hS m (by lia) ⟨H,I.tok _,by rw[yR r];exact q⟩
 | _=>exact(e).elim
def EH(ha:PE X a ta)(he:∀iu,isTrue a X.env iu=(do let v <-iu;standAt a.pos;holding [v] (truthy v))) :
  PT X a (λσ H Q=>ta σ H λx H'=>∃k,IQ X.K x H' k/\Q k H'):=by
 intro ae s σ H Q I h;exact isTrue_plain (thn (ha ae s σ H _ I h) (by rintro v s1 ⟨x,H1,I1,r1,q1⟩;exact EG ae s1 σ H1 x v Q I1 r1 q1)) (he _)
def yS:OpR X (binaryOp .Add) (λx y H Q=>∃i j,x=.str i/\y=.str j/\i.length+j.length<=sizeLine/\Q (.str (i++j)) H):=by
 intro ae s σ H x y v u Q I rx ry h;obtain⟨i,j,rfl,rfl,hz,q⟩:=h;obtain⟨t,rfl⟩:=rx;obtain⟨t',rfl⟩:=ry;exact add_str (λt' tk=>⟨.str (i++j),H,I.tok _,⟨_,rfl⟩,q⟩) hz
def iw(r:Vals [x] us):∃u,us=[u]/\RelV x u:=by
 cases r with
 | cons r1 r2=>cases r2;exact⟨_,rfl,r1⟩
def AH(r:Vals [x,y] us):∃u w',us=[u,w']/\RelV x u/\RelV y w':=by
 cases r with
 | cons r1 r2 =>
  cases r2 with
  | cons r3 r4=>cases r4;exact⟨_,_,rfl,r1,r3⟩
def rm:jB X (.type "int") (λxs H Q=>(∃i,xs=[.int i]/\Q (.int i) H)\/∃k,xs=[.bl k]/\Q (.int (if k then 1 else 0)) H):=by
 intro ae s σ H xs us Q I r h;rcases h with⟨i,rfl,q⟩ | ⟨k,rfl,q⟩
 ·obtain⟨u,rfl,t,rfl⟩:=iw r;exact call_int_int ⟨.int i,H,I,⟨_,rfl⟩,q⟩
 ·obtain⟨u,rfl,r1⟩:=iw r;cases r1;exact call_int_bool ⟨.int (if k then 1 else 0),H,I.tok _,⟨_,rfl⟩,q⟩
def uh:jB X (.type "str") (λxs H Q=>∃i,xs=[.int i]/\i.natAbs.log2<1920/\Q (.str (toString i)) H):=by
 intro ae s σ H xs us Q I r h;obtain⟨i,rfl,hz,q⟩:=h;obtain⟨u,rfl,t,rfl⟩:=iw r;exact PySem.P.str_of_int hz ⟨.str _,H,I.tok _,⟨_,rfl⟩,q⟩
end
structure B5 (h:Heap) (x dx C:Addr) (mA:Str->Option Value):Prop where
 obj:h.get? x=some (W.instObj C dx)
 ns:h.Ns1 dx mA
 ne:dx≠x
def B6{h:Heap}{mA:Str->Option Value}(n:h.Ns1 dx mA):∃od,h.get? dx=some od/\∀name,W.lookIn name od=some (mA name):=by
 obtain⟨o,es,ep,ho,hd,hk,_,hm⟩:=n;refine⟨o,ho,λname=>?_⟩
 have e:=hm name;unfold nsFind findBy at e;rw[<-Array.find?_toList]at e;unfold W.lookIn;rw[hd];dsimp only
 split
 ·grind
 ·rename_i q;rw[q]at e;have a:es.toList.any (·.refKey)=false:=by
   rw[yr];intro y hy;obtain⟨z,t,MU⟩:=hk y (Array.mem_toList_iff.mp hy);simp[DictEntry.refKey,MU]
  have a':¬es.toList.any (·.refKey)=true:=by grind
  rw[if_neg a'];exact eu some e
def B5.IS(I:B5 h x dx C mA):∃od,W.InstAt h x (W.instObj C dx) C (some od)/\∀name,W.lookIn name od=some (mA name) :=
 let ⟨od,ho,hl⟩:=B6 I.ns
 ⟨od,⟨I.obj,rfl,rfl,ho⟩,hl⟩
section
variable {prog:Program} {w:World} {A:Around} {E:Value->Shared->Prop} {s:Shared} {K:W.Frag} {x dx C f:Addr} {mA:Str->Option Value} {name:Str} {v:Value}
def IT(X:K.In s.heap)(I:B5 s.heap x dx C mA)(hg:W.plainGet K C name=true)(hh:W.hasDictIn K C=true)
  (ha:W.findIn K (.ref C) name=some none) (hv:mA name=some v) (MV:W.handedIn v=true) (h:Q v {s with toks:=s.toks+1}) :
  wpAny (model prog w) A (getAttr (.ref x) name expr) Q E s:=by
 obtain⟨od,J,hl⟩:=I.IS;exact W.get_value X J (W.plainGet_of hg).1 (W.findObj_own hh ha rfl (by rw[hl,hv])) MV h
def IU(X:K.In s.heap)(I:B5 s.heap x dx C mA)
  (hs:W.findIn K (.ref C) "__setattr__"=some (some (.builtin "object.__setattr__"))) (hp:W.plainOver K C=true) (ht:W.takerIn K C name=some none) (hh:W.hasDictIn K C=true)
  (hw:PySem.Within mA ns) (hsz:ns.length<=sizeLine)
  (h:∀h',B5 h' x dx C (λy=>if y=name then some v else mA y)->Heap.SameBut dx s.heap h'->Q () {s with heap:=h',toks:=s.toks+2}) :
  wpAny (model prog w) A (setAttr (.ref x) name v) Q E s:=by
 obtain⟨od,J,hl⟩:=I.IS;refine W.set_plain X J hs (W.osa_open X J hp ht λb=>?_)
 obtain⟨cd,hc,Iv⟩:=W.any_some hh;have hx:=I.obj;refine af (ag (af (af (wpAny_loadPart hx (af (W.Looks.here (W.looks_clsIn X hc) ?_))))));rw[Iv];refine ag (af (ag (af ?_)));refine wpAny_nsSet1 I.ns λh' QV xO=>?_
 obtain⟨oD,esD,epD,ZX,ZY,ZZ⟩:=QV.count (PySem.Within.cons name v hw);refine af (wpAny_lookBehind ZX (by rw[ZY];exact pastItsLine_dict (aM ZZ (by grind))) ?_)
 exact ag (h _ ⟨(xO.2 _ (bJ I.ne)).trans I.obj,QV,I.ne⟩ xO)
def EI(X:K.In s.heap)(hm:W.makesIn K C=true)
  (hi:W.findIn K (.ref C) "__init__"=some (some (.ref f))) (hf:W.typeIn K (.ref f)=some (.type "function"))
  (h:codeAny (model prog w) (A.under (.builtin "type.__call__" ⟨.ref C::vs,kw⟩)) (.call (.ref f) ⟨.ref (s.heap.objs.size+1)::vs,kw⟩) (W.InitBack (s.heap.objs.size+1) R)
   {s with heap:=(s.heap.push W.emptyDict).push (W.instObj C s.heap.objs.size)}) :
  codeAny (model prog w) A (.call (.ref C) ⟨vs,kw⟩) R s:=by
 obtain⟨hh,g,d,t,os⟩:=s;exact W.make_core (W.makes_of X hm) (W.looks_findIn X hi) (λself=>W.bind_fn X self hf) (.inl rfl) h
end
noncomputable def gF(f:Str)(v:V):List (Str×V)->List (Str×V)
 | []=>[(f,v)]
 | (g,x)::r=>if g=f then(g,v)::r else(g,x)::gF f v r
theorem mD(f g:Str)(v:V):∀fs:List (Str×V),(gF f v fs).lookup g=if g=f then some v else fs.lookup g
 | []=>by
  show List.lookup g [(f,v)]=_;by_cases h:g=f
  ·grind
  ·grind
 | (k,x)::r=>by
  have ih:=mD f g v r;rw[show gF f v ((k,x)::r)=(if k=f then(k,v)::r else(k,x)::gF f v r)from rfl]
  by_cases hk:k=f
  ·grind
  ·grind
theorem lZ(f:Str)(v:V):∀fs:List (Str×V),f∈(gF f v fs).map (·.1)/\∀g,g∈fs.map (·.1)->g∈(gF f v fs).map (·.1)
 | []=>⟨by simp[gF],λg h=>by simp at h⟩
 | (k,x)::r=>by
  obtain⟨i1,i2⟩:=lZ f v r;rw[show gF f v ((k,x)::r)=(if k=f then(k,v)::r else(k,x)::gF f v r)from rfl]
  by_cases hk:k=f
  ·grind
  ·grind
theorem mE(f:Str)(v:V):∀fs:List (Str×V),(gF f v fs).length<=fs.length+1
 | []=>by simp[gF]
 | (k,x)::r=>by
  have ih:=mE f v r;rw[show gF f v ((k,x)::r)=(if k=f then(k,v)::r else(k,x)::gF f v r)from rfl]
  by_cases hk:k=f
  ·grind
  ·grind
def uc.IV(r:uc (some v) o):∃u,o=some u/\RelV v u:=by
 cases o with
 | none=>exact(r).elim
 | some u=>exact⟨u,rfl,r⟩
def B7(r:RelV v u):W.handedIn u=true:=by
 cases v with
 | aV=>cases(r);rfl
 | bl b=>cases(r);rfl
 | int i=>obtain⟨t,e⟩:=(r);cases e;rfl
 | str x=>obtain⟨t,e⟩:=(r);cases e;rfl
 | PZ b=>obtain⟨t,e⟩:=(r);cases e;rfl
 | Up b=>obtain⟨t,e⟩:=(r);cases e;rfl
 | ref a=>cases(r);rfl
 | ty n=>cases(r);rfl
section
variable {P:Program} {w:World} {H H':Hp} {h h':Heap} {a C dx:Addr} {fs ZN:List (Str×V)}
def AI(hok:kq P w H h)(e:H a=some (.ins C dx fs)):∃mA,B5 h a dx C mA/\(∀f,uc (fs.lookup f) (mA f))/\PySem.Within mA (fs.map (·.1))/\fs.length<=1000/\H dx=some (.own a):=by
 obtain⟨d,z,ne,ob,mA,n,r,q⟩:=(hok a _ e);exact⟨mA,⟨ob,n,ne⟩,r,q,z,d⟩
end
def BL.get{K:W.Frag}{C:Addr}(c:BL K C)(f:Str):W.plainGet K C f=true:=c.pg
def g9.QW{K:W.Frag}{C:Addr}{f:Str}(n:g9 K C f):W.takerIn K C f=some none:=by
 unfold W.takerIn;rw[show W.findIn K (.ref C) f=some none from n]
 rfl
section
variable {X:Cx} {ae:List (Addr×Obj)} {σ:St} {H:Hp} {s:Shared} {a C dx:Addr} {fs:List (Str×V)} {f:Str} {v:V} {A:Around} {E:Value->Shared->Prop}
def yT(I:Inv X ae σ H s)(e:H a=some (.ins C dx fs))(c:BL X.K C)(n:g9 X.K C f)(l:fs.lookup f=some v)
  (h:∀u s',Inv X ae σ H s'->RelV v u->Q u s'):wpAny (model X.prog X.w) A (getAttr (.ref a) f b) Q E s:=by
 obtain⟨mA,O,r,_,_,_⟩:=AI I.hok e;obtain⟨u,hu,ru⟩:=uc.IV (by rw[<-l];exact r f)
 exact IT I.oG O (c.get f) c.hd n hu (B7 ru) (h u _ (I.tok _) ru)
def yU(I:Inv X ae σ H s)(e:H a=some (.ins C dx fs))(c:BL X.K C)(n:g9 X.K C f)(hl:fs.length<1000)(ry:RelV y u)
  (h:∀s',Inv X ae σ (cj H a (.ins C dx (gF f y fs))) s'->Q () s'):wpAny (model X.prog X.w) A (setAttr (.ref a) f u) Q E s:=by
 obtain⟨mA,O,r,wi,_,ho⟩:=AI I.hok e;have hz:(fs.map (·.1)).length<=sizeLine:=by rw[ah,jV];lia
 refine IU I.oG O c.sa c.po n.QW c.hd wi hz λh' O' sb=>h _ ?_
 have hd:∃o,h'.get? dx=some o:=let ⟨o,_,_,e',_⟩:=O'.ns;⟨o,e'⟩
 refine I.write (by rw[e];exact True.intro) (.inr ho) (λb q hb z=>(sb.2 b hb).trans z) hd ?_
 refine⟨by rw[aH O.ne];exact ho,?_,O.ne,O'.obj,_,O'.ns,λg=>?_,λg hg=>?_⟩
 ·have:=mE f y fs;lia
 ·rw[mD];by_cases q:g=f
  ·rw[if_pos q,if_pos q];exact ry
  ·rw[if_neg q,if_neg q];exact r g
 ·by_cases q:g=f
  ·rw[q];exact(lZ f y fs).1
  ·refine(lZ f y fs).2 g (wi g λz=>hg ?_)
   show(if g=f then some u else mA g)=none
   rw[if_neg q];exact z
def Inv.made(I:Inv X ae σ H s):Inv X ae σ (cj (cj H s.heap.objs.size (.own (s.heap.objs.size+1))) (s.heap.objs.size+1) (.ins C s.heap.objs.size []))
  {s with heap:=(s.heap.push W.emptyDict).push (W.instObj C s.heap.objs.size)}:=by
 have e1:(s.heap.push W.emptyDict).get? s.heap.objs.size=some W.emptyDict:=bc s.heap rfl;have e2:((s.heap.push W.emptyDict).push (W.instObj C s.heap.objs.size)).get? (s.heap.objs.size+1)=some (W.instObj C s.heap.objs.size):=by
  have:=bc (s.heap.push W.emptyDict) (o:=W.instObj C s.heap.objs.size) rfl
  rwa [c6]at this
 have e3:(s.heap.push W.emptyDict).Ns s.heap.objs.size (λ_=>none):=⟨W.emptyDict,#[],_,e1,rfl,(λe he=>absurd he (by simp)),λ_=>rfl⟩
 have I1:=I.laid (o:=.own (s.heap.objs.size+1)) (t':=s.toks) (λb u q=>ax _ q) (aq _) ⟨_,e1⟩
 refine I1.laid (t':=s.toks) (λb u q=>ax _ q) (iS (c6 _ _)) ?_
 have ne:s.heap.objs.size≠s.heap.objs.size+1:=by grind
 refine⟨by rw[aH ne,ar],fK _,ne,e2,λ_=>none,(Heap.Ns1.of_empty e3).at λo q=>ax _ q,λ_=>True.intro,λy hy=>absurd rfl hy⟩
def IW(hb:attributeBase e f env (eval e env)=eval e env)
  (h:wpAny (model prog w) A (eval e env) (λo s₁=>wpAny (model prog w) A (getAttr o f true) Q E s₁) E s):wpAny (model prog w) A (eval (.Attribute e f pos) env) Q E s :=
 Attribute_any_ h (by rw[arm_eval_Attribute,hb])
end
def VF(K:W.Frag)(ta:TE)(f:Str):TE:=λσ H Q=>ta σ H λx H1=>∃a C dx fs v,x=.ref a/\H1 a=some (.ins C dx fs)/\BL K C/\g9 K C f/\fs.lookup f=some v/\Q v H1
def VG(K:W.Frag)(ta tv:TE)(f:Str):TS:=λD σ H=>tv σ H λy H1=>ta σ H1 λx H2=>∃a C dx fs,x=.ref a/\H2 a=some (.ins C dx fs)/\BL K C/\g9 K C f/\fs.length<1000 /\
 D.nx σ (cj H2 a (.ins C dx (gF f y fs)))
section
variable {X:Cx} {o e value:Expr} {f:Str} {pos qy B8:Pos} {ta tv:TE}
def MW(he:PE X e ta)(hb:attributeBase e f X.env (eval e X.env)=eval e X.env):PE X (.Attribute e f pos) (VF X.K ta f):=by
 intro ae s σ H Q I h;refine IW hb (thn (he ae s σ H _ I h) λu s1 z9=>?_)
 obtain⟨x,H1,I1,rx,a,C,dx,fs,v,ex,ea,c,n,l,q⟩:=z9;subst ex;obtain rfl:u=Value.ref a:=rx;exact yT I1 ea c n l λu' s2 I2 ru=>⟨v,H1,I2,ru,q⟩
def MX(ha:PE X o ta)(hv:PE X value tv)(hs:swapsWith value (some (.Attribute o f qy)) pos.line X.env=pure false):PS X (.Assign [.Attribute o f qy] value pos) (VG X.K ta tv f):=by
 intro ae s σ H D I h;refine plainObj_wpAny_Assign_Attribute (thn (hv ae s σ H _ I h) λu s1 ⟨y,H1,I1,ry,q⟩=>thn (ha ae s1 σ H1 _ I1 q) λov s2 z9=>?_) hs
 obtain⟨x,H2,I2,rx,a,C,dx,fs,ex,ea,c,n,l,q2⟩:=z9;subst ex;obtain rfl:ov=Value.ref a:=rx;exact yU I2 ea c n l ry λs3 I3=>⟨σ,_,I3,q2⟩
end
structure dZ (k:Nat) (A:Around):Prop where
 hd:A.handled=none
 dp:A.depth+3*k+5<recursionLimit
 un:A.units+16*k+1200<cLine
def dZ.mono(r:dZ k A)(h:j<=k):dZ j A:=⟨r.hd,by have:=r.dp;lia,by have:=r.un;lia⟩
def dZ.deeper(r:dZ (k+1) A)(env:Env):dZ k (A.deeper env) :=
 ⟨r.hd,by have:=r.dp;show A.depth+1+3*k+5<_;lia,by have:=r.un;show A.units+3+16*k+1200<_;lia⟩
def yV{A:Around}:(A.under (.builtin "type.__call__" ⟨.ref C::us,kw⟩)).depth=A.depth+1:=by
 first | rfl | simp[Around.under,Code.weight,Code.isCreation,Code.isGuard,Code.isCaller,Code.frames,Code.isFrame,guardIds]
def yW{A:Around}:(A.under (.builtin "type.__call__" ⟨.ref C::us,kw⟩)).units=A.units+1:=by
 first | rfl | simp[Around.under,Code.cUnits,Code.frames,Code.isFrame]
def dZ.make(r:dZ (k+1) A)(C:Addr)(us:List Value)(kw:List (Str×Value)):dZ k (A.under (.builtin "type.__call__" ⟨.ref C::us,kw⟩)) :=
 ⟨r.hd,by have:=r.dp;rw[yV];lia,by have:=r.un;rw[yW];lia⟩
def dZ.depth(r:dZ k A):A.depth<recursionLimit:=by have:=r.dp;lia
def VH:TA:=λ_ H Q=>Q [] H
def QX(ta:TE)(tr:TA):TA:=λσ H Q=>ta σ H λx H1=>tr σ H1 λxs H2=>Q (x::xs) H2
section
variable {X:Cx} {e:Expr} {es:List Expr} {te:TE} {t:TA} {pos:Pos}
def oP:PA X [] VH:=λ_ _ _ _ H Q I h=>Calls.spliced_nil ⟨[],H,I,.nil,h⟩
def gg(ha:PE X e te)(hr:PA X es t)(hs:starEach (e::es) X.env=(false,eval e X.env)::starEach es X.env:=by rfl):PA X (e::es) (QX te t):=by
 intro pos ae s σ H Q I h;rw[hs];refine Calls.spliced_cons (thn (ha ae s σ H _ I h) λu s1 ⟨x,H1,I1,r1,q1⟩=>?_)
 exact thn (hr pos ae s1 σ H1 _ I1 q1) (by rintro us s2 ⟨xs,H2,I2,r2,q2⟩;exact⟨x::xs,H2,I2,.cons r1 r2,q2⟩)
def VI(t:TA):TE:=λσ H Q=>t σ H λxs H1=>xs.length<=sizeLine/\∀p,H1 p=none->Q (.ref p) (cj H1 p (.aj xs))
def VJ(t:TA):TE:=λσ H Q=>t σ H λxs H1=>xs.length<=sizeLine/\∀p,H1 p=none->Q (.ref p) (cj H1 p (.lst xs))
def MY{x1}(h:PA X es t):PE X (.Tuple es x1 pos) (VI t):=by
 intro ae s σ H Q I hq;refine wpAny_Tuple_spliced (thn (h pos ae s σ H _ I hq) λus s1 ⟨xs,H1,I1,r,z,q⟩=>⟨by rw[<-r.length];exact z,?_⟩)
 have hf:=I1.hok.fresh (aq _);refine⟨.ref s1.heap.objs.size,cj H1 s1.heap.objs.size (.aj xs),I1.laid (λb u e=>ax _ e) (aq _) ?_,rfl,q _ hf⟩
 exact⟨z,us,r,mV.new _ _⟩
def EJ(h:PA X es t):PE X (.List es pos) (VJ t):=by
 intro ae s σ H Q I hq;refine wpAny_List_spliced (thn (h pos ae s σ H _ I hq) λus s1 ⟨xs,H1,I1,r,z,q⟩=>⟨by rw[<-r.length];exact z,?_⟩)
 have hf:=I1.hok.fresh (aq _);refine⟨.ref s1.heap.objs.size,cj H1 s1.heap.objs.size (.lst xs),I1.laid (λb u e=>ax _ e) (aq _) ?_,rfl,q _ hf⟩
 exact⟨z,us,0,r,bc _ rfl⟩
end
abbrev Sp:=List V->Hp->VK->XK->Prop
abbrev D1:=List Env->Hp->Shared->XK->Value->Shared->Prop
structure Env0 (P:Program) (w:World) (K:W.Frag) (mg:Str->Option Value) (base:Heap) (A:Around) (aB:List Env) (s:Shared) (H:Hp):Prop where
 frames:A.frames=some aB
 mod:Mod K mg base
 bs:∀b o,base.get? b=some o->s.heap.get? b=some o/\H b=none
 bsz:base.objs.size<=s.heap.objs.size
 funs:s.heap.FunFrames base aB
 frf:∀b∈kA aB,H b=none
 hok:kq P w H s.heap
 bare:AllBare s.gens
 tabs:oF K H
def CE(aB:List Env)(P:Program)(w:World)(H:Hp)(s:Shared)(Q:VK)(u:Value)(s':Shared):Prop :=
 ∃v H',s'.os=s.os/\AllBare s'.gens/\Un (kA aB) [] H H' s.heap s'.heap/\kq P w H' s'.heap/\RelV v u/\Q v H'
def CR(CX:D1)(aB:List Env)(P:Program)(w:World)(H:Hp)(s:Shared)(Q:VK)(E:XK)(r:Result)(s':Shared):Prop :=
 match r with
 | .ok (.ret u)=>CE aB P w H s Q u s'
 | .ok _=>False
 | .error e=>CX aB H s E e s'
structure FnOk (P:Program) (w:World) (K:W.Frag) (mg:Str->Option Value) (base:Heap) (CX:D1) (k:Nat) (f:Addr) (fd:FuncData) (ps:List Str) (sp:Sp):Prop where
 len:∀vs H Q E,sp vs H Q E->vs.length=ps.length
 run:∀(A:Around) (aB:List Env) (s:Shared) (H:Hp) (args:Args) (us:List Value) (vs:List V) (Q:VK) (E:XK),dZ k A->Env0 P w K mg base A aB s H->BindsTo s fd args (ps.zip us)->Vals vs us->sp vs H Q E ->
  codeAny (model P w) A (.call (.ref f) args) (CR CX aB P w H s Q E) s
def Env0.make{P:Program}{w:World}{K:W.Frag}{mg:Str->Option Value}{base:Heap}{A:Around}{aB:List Env}{s:Shared}{H:Hp}(e:Env0 P w K mg base A aB s H)(C:Addr)(us:List Value)(kw:List (Str×Value)) :
  Env0 P w K mg base (A.under (.builtin "type.__call__" ⟨.ref C::us,kw⟩)) aB s H:=⟨by first | exact e.frames | (simpa[Around.under,Code.envs,Code.isFrame,pushEnvs]using e.frames),e.mod,e.bs,e.bsz,e.funs,e.frf,e.hok,e.bare,e.tabs⟩
section
variable {X:Cx} {ae:List (Addr×Obj)} {σ:St} {H:Hp} {s s':Shared}
def Inv.QY(I:Inv X ae σ H s):Env0 X.prog X.w X.K X.mg X.base X.A X.stack s H :=
 ⟨I.ok.frames,I.ok.mod,I.bs,aM I.ok.bsz I.sz,I.stack,I.ue,I.hok,I.bare,I.tabs⟩
def Inv.after(I:Inv X ae σ H s)(h:CE X.stack X.prog X.w H s Q u s'):EP X ae σ Q u s':=by
 obtain⟨v,H',os,bare,un,hok,r,q⟩:=h;obtain⟨hh,g,d,t,IX⟩:=s';obtain rfl:IX=s.os:=os;exact⟨v,H',I.call un hok bare (λb z=>absurd z (by simp)),r,q⟩
end
def Ln(C:Addr)(sp:Sp)(Ld:List V)(E:XK)(t:TA):TE:=λσ H Q=>t σ H λvs H1=>∀x dx,H1 x=none->H1 dx=none->dx≠x ->
 sp (.ref x::(vs++Ld)) (cj (cj H1 dx (.own x)) x (.ins C dx [])) (λv H2=>v=.aV/\Q (.ref x) H2) E
def fM(K:W.Frag)(fd:FuncData)(ps:List Str)(ds:List Value):Prop :=
 ∀(s:Shared) (us:List Value),K.In s.heap->(us++ds).length=ps.length->BindsTo s fd ⟨us,[]⟩ (ps.zip (us++ds))
def fM.all{K:W.Frag}{fd:FuncData}{ps:List Str}(h:∀us:List Value,us.length=ps.length->bindArgs fd ⟨us,[]⟩=pure (ps.zip us)):fM K fd ps []:=λs us _ hl=>by
 rw[fq]at hl ⊢;exact .of_eq (h us hl)
def yX(CX:D1)(X:Cx)(E:XK):Prop:=∀(ae:List (Addr×Obj)) (σ:St) (H:Hp) (s:Shared) (e:Value) (s':Shared),Inv X ae σ H s->CX X.stack H s E e s'->X.xe e s'
section
variable {X:Cx} {CX:D1} {k:Nat} {f C:Addr} {fd:FuncData} {ps:List Str} {sp:Sp} {Ld:List V} {ds:List Value} {E:XK} {x m:Str} {p pos kx:Pos} {e o:Expr} {es:List Expr} {ta:TE} {t:TA}
def EK{ae:List (Addr×Obj)}{σ:St}{H:Hp}{s:Shared}{Q:VK}{us:List Value}{vs:List V}(M:Mk X.K C f)(F:FnOk X.prog X.w X.K X.mg X.base CX k f fd ps sp)(hr:dZ (k+1) X.A)(hb:fM X.K fd ps ds)(hd:Vals Ld ds)
  (hx:yX CX X E) (I:Inv X ae σ H s) (r:Vals vs us)
  (h:∀x dx,H x=none->H dx=none->dx≠x->sp (.ref x::(vs++Ld)) (cj (cj H dx (.own x)) x (.ins C dx [])) (λv H2=>v=.aV/\Q (.ref x) H2) E) :
  wpAny (model X.prog X.w) X.A (call (.ref C) us) (EP X ae σ Q) X.xe s:=by
 have hq:=h (s.heap.objs.size+1) s.heap.objs.size (I.hok.fresh (Nat.le_succ _)) (I.hok.fresh (aq _)) (aO (lP _));have I2:=Inv.made (C:=C) I;have r2:Vals (V.ref (s.heap.objs.size+1)::(vs++Ld)) (Value.ref (s.heap.objs.size+1)::(us++ds)):=.cons rfl (r.append hd);have hl:(Value.ref (s.heap.objs.size+1)::us++ds).length=ps.length:=by
  have e:=r2.length;rw[F.len _ _ _ _ hq]at e;exact e.symm
 refine wpAny_call (EI I.oG M.makes M.init (lW.mp M.fn) (lT (F.run _ X.stack _ _ ⟨Value.ref (s.heap.objs.size+1)::us,[]⟩ (Value.ref (s.heap.objs.size+1)::(us++ds)) _ _ E (hr.make C us [])
  (I2.QY.make C us []) (hb _ (Value.ref (s.heap.objs.size+1)::us) I2.oG hl) r2 hq) λr s' Lo=>?_))
 cases r with
 | error e=>exact hx ae σ _ _ e s' I2 Lo
 | ok fl =>
  cases fl with
  | ret u =>
   obtain⟨v,H',I3,rv,ev,q3⟩:=I2.after Lo;subst ev;exact⟨rv,⟨V.ref (s.heap.objs.size+1),H',I3,rfl,q3⟩⟩
  | next=>exact False.elim Lo
  | brk=>exact False.elim Lo
  | cont=>exact False.elim Lo
def IY(M:Mk X.K C f)(F:FnOk X.prog X.w X.K X.mg X.base CX k f fd ps sp)(hr:dZ (k+1) X.A)(hg:Gl X x)(hm:X.mg x=some (.ref C))(hb:fM X.K fd ps ds)(hd:Vals Ld ds)(hx:yX CX X E)
  (ha:PA X (e::es) t) (AJ:(x==("__debug__":Str))=false:=by decide) (he:starEach (e::es) X.env=(false,eval e X.env)::starEach es X.env:=by rfl) (kE:(backTo pos (starEach es X.env)).any (·.1)=false:=by rfl) :
  PE X (.Call (.Name x p) (e::es) [] pos) (Ln C sp Ld E t):=by
 intro ae s σ H Q I h;refine iM (ld_glob I hg hm ?_ AJ);refine W.callWith_K I.ok.mod.kin M.kp (thn (ha pos ae s σ H _ I h) λus s1 ⟨vs,H1,I1,r,q⟩=>⟨I1.oG,?_⟩) he kE
 exact EK M F hr hb hd hx I1 r q
end
theorem rn{kindOf:Str->Option NameKind}:∀{vI:List (Str×Value)} {m:Str->Option Value},(∀v,(x,v)∉vI)->bindL kindOf vI m x=m x
 | [],_,_=>rfl
 | (n,v)::r,m,h=>by
  unfold bindL;rw[rn λw hw=>h w (bY _ hw)]
  split
  ·grind
  ·rfl
theorem rz{kindOf:Str->Option NameKind}:∀{vI:List (Str×Value)} {m:Str->Option Value},(∀v,(x,v)∉vI)->bindC kindOf vI m x=m x
 | [],_,_=>rfl
 | (n,v)::r,m,h=>by
  unfold bindC;rw[rz λw hw=>h w (bY _ hw)]
  split
  ·rfl
  ·grind
theorem rA{kindOf:Str->Option NameKind}:∀{P:List Str} {vs:List Value} {i:Nat} {m:Str->Option Value},P.Nodup->P[i]?=some x->vs[i]?=some v->kindOf x=some .local ->
  bindL kindOf (P.zip vs) m x=some v
 | [],_,_,_,_,h,_,_=>by simp at h
 | _::_,[],_,_,_,_,h,_=>by simp at h
 | p::P,w::vs,0,m,nd,h1,h2,hk=>by
  simp at h1 h2;subst h1;subst h2;show bindL kindOf ((p,w)::P.zip vs) m p=_;unfold bindL;rw[rn λv hv=>(gq.mp nd).1 (tO hv).1,if_pos hk]
  simp
 | p::P,w::vs,i+1,m,nd,h1,h2,hk=>by
  unfold bindL;exact rA (gq.mp nd).2 (by simpa using h1) (by grind) hk
theorem rD{kindOf:Str->Option NameKind}:∀{P:List Str} {vs:List Value} {i:Nat} {m:Str->Option Value},P.Nodup->P[i]?=some x->vs[i]?=some v->kindOf x≠some .local ->
  bindC kindOf (P.zip vs) m x=some v
 | [],_,_,_,_,h,_,_=>by simp at h
 | _::_,[],_,_,_,_,h,_=>by simp at h
 | p::P,w::vs,0,m,nd,h1,h2,hk=>by
  simp at h1 h2;subst h1;subst h2;show bindC kindOf ((p,w)::P.zip vs) m p=_;unfold bindC;rw[rz λv hv=>(gq.mp nd).1 (tO hv).1,if_neg hk]
  simp
 | p::P,w::vs,i+1,m,nd,h1,h2,hk=>by
  unfold bindC;exact rD (gq.mp nd).2 (by simpa using h1) (by grind) hk
noncomputable def start(N:List Str)(vs:List V):St:=vs.map some++List.replicate (N.length-vs.length) none
noncomputable def fN(CX:D1)(P:Program)(w:World)(K:W.Frag)(mg:Str->Option Value)(base:Heap)(N:List Str)(qual:Str)(scope:Scope)(f:Addr)(cd:Value)(A:Around)(aB:List Env)(s:Shared)(H:Hp)(E:XK):Cx where
 prog:=P
 w:=w
 K:=K
 mg:=mg
 base:=base
 A:=A.deeper (envOfC qual scope s.heap.objs.size f cd)
 N:=N
 s₀:=s
 aa:=H
 env:=envOfC qual scope s.heap.objs.size f cd
 aB:=aB
 stack:=envOfC qual scope s.heap.objs.size f cd::aB
 ex:=[]
 calm:=true
 fn:=λ_=>true
 pn:=[]
 xe:=λe s'=>wpAny (model P w) (A.deeper (envOfC qual scope s.heap.objs.size f cd)) (leaving (envOfC qual scope s.heap.objs.size f cd) e) (λ_ MZ=>CX aB H s E e MZ) (λe' MZ=>CX aB H s E e' MZ) s'
def vJ{sc:Scope}(h:sc.names.lookup x=some .cell):∃c,(cellsFrom n sc.names []).lookup x=some c:=by
 have q:=W.cellsFrom_some sc.names n [] (.inl h);exact Option.isSome_iff_exists.mp q
def B9{CX:D1}{P:Program}{w:World}{K:W.Frag}{mg:Str->Option Value}{base:Heap}{N ps:List Str}{qual:Str}{scope:Scope}{f:Addr}{cd:Value}{A:Around}{aB:List Env}{s s1:Shared}{H:Hp}{E:XK}{us:List Value}{vs:List V}
  (S:dn N ps scope) (hd:A.handled=none) (e0:Env0 P w K mg base A aB s H) (hl:vs.length=ps.length) (r:Vals vs us)
  (x:InCallC s s.heap.objs.size (bindL (envOfC qual scope s.heap.objs.size f cd).kindOf (ps.zip us) λ_=>none) (cellsFrom (s.heap.objs.size+1) scope.names []) (bindC (envOfC qual scope s.heap.objs.size f cd).kindOf (ps.zip us) λ_=>none) s1) :
  Inv (fN CX P w K mg base N qual scope f cd A aB s H E) [] (start N vs) H s1:=by
 have kE:ps.length<=N.length:=by have:=eu List.length S.pre;rw[lM]at this;lia
 obtain⟨h1,tk,rfl,hk⟩:=x.done;have noA:∀b:Addr,b∉(fN CX P w K mg base N qual scope f cd A aB s H E).ex:=λb z=>absurd (show b∈([]:List Addr)from z) (by simp)
 refine⟨⟨e0.mod,S.kind,rfl,rfl,aq _,λy z c h1 h2=>?_,λy hy=>?_,λy c _ h=>?_,λ_=>hd,Around.frames_deeper e0.frames,.inr ⟨rfl,rfl⟩,λb z=>absurd z (noA b),e0.bs,e0.bsz,λb _ _=>noA b,λb z=>absurd z (noA b),e0.funs,e0.frf,e0.tabs⟩,
  rfl,e0.bare,Un.kept hk,⟨_,x.toInCall.ns,λi y v h1 h2 h3=>?_⟩,λy c h=>⟨_,x.cell y c h⟩,e0.hok.fresh (aq _),λy c h=>?_,λp hp=>absurd (show p∈([]:List (Addr×Obj))from hp) (by simp),e0.hok.kept hk,?_⟩
 ·exact name_of_addr x.apart (er h1) (er h2)
 ·have hy:=hy;rcases hy with hy | hy
  ·exact vJ hy
  ·exact absurd rfl (S.nofree _ (er hy))
 ·exact t8 (x.above y c (er h))
 ·have hi:i<vs.length:=by
   unfold start at h2;by_cases hi:i<vs.length
   ·exact hi
   ·grind
  have ha:vs[i]?=some v:=by
   unfold start at h2;rw[nV (by grind),bg]at h2
   cases e:vs[i]? with
   | none=>rw[e]at h2;cases h2
   | some a=>rw[e]at h2;cases h2;rfl
  obtain⟨u,hu,rv⟩:=r.get ha;have hp:ps[i]?=some y:=by
   rw[<-S.pre,List.getElem?_take_of_lt (by lia)];exact h1
  have Yk:ps.Nodup:=by rw[<-S.pre];exact S.nd.sublist (n9 _ _)
  refine⟨u,rv,?_⟩;rcases S.par y (iK hp)with k | k
  ·exact .inl ⟨k,rA Yk hp hu k⟩
  ·obtain⟨c,e⟩:=vJ k;refine .inr ⟨.inl k,c,e,?_⟩;have q:=x.cell y c e;rw[rD Yk hp hu (by show scope.names.lookup y≠_;rw[k];decide)]at q
   exact q
 ·exact e0.hok.fresh (t8 (x.above y c (er h)))
 ·unfold start;show _=N.length;rw[cz,ah,List.length_replicate]
  lia
def QZ{CX:D1}{P:Program}{w:World}{K:W.Frag}{mg:Str->Option Value}{base:Heap}{k:Nat}{f:Addr}{name qual:Str}{pq9:Arguments}{body:List Stmt}{scope:Scope}{dV kV doc pm eL ct oc:Value}{an od:Option Addr}
  {xN:Array (Option Value)} {N ps:List Str} {sp:Sp} (lk:K.lookup f=some ⟨oc,od,.func (W.fnOf name qual pq9 body scope dV kV doc pm an eL ct),xN⟩) (DM:W.codeIn K eL qual=true) (S:dn N ps scope)
  (len:∀vs H Q E,sp vs H Q E->vs.length=ps.length)
  (hbody:∀(A:Around) (aB:List Env) (s:Shared) (H:Hp) (vs:List V) (Q:VK) (E:XK),dZ k (A.deeper (envOfC qual scope s.heap.objs.size f eL))->sp vs H Q E ->
   ∃t,PSs (fN CX P w K mg base N qual scope f eL A aB s H E) body t/\t {nx:=λ_ H'=>Q .aV H',rt:=Q} (start N vs) H) :
  FnOk P w K mg base CX (k+1) f (W.fnOf name qual pq9 body scope dV kV doc pm an eL ct) ps sp:=by
 refine⟨len,λA aB s H args us vs Q E hr e0 hb r P6=>?_⟩
 have hl:=len _ _ _ _ P6;have KX:=e0.mod.kin.keeps λb o e=>(e0.bs b o e).1
 have Z2:=e0.mod.nolimit.keeps λb o e=>(e0.bs b o e).1
 have Q6:∀y∈ps.zip us,scope.names.lookup y.1=some .local\/(scope.names.lookup y.1=some .cell/\((cellsFrom (s.heap.objs.size+1) scope.names []).lookup y.1).isSome=true):=by
  rintro⟨n,v⟩ hy
  rcases S.par n (tO hy).1 with q | q
  ·grind
  ·exact .inr ⟨q,W.cellsFrom_some _ _ _ (.inl q)⟩
 refine codeAny_call_function hr.depth (KX _ _ lk) rfl S.co S.gen rfl (W.codeRec_of KX DM) (hb _ _ _ _ ?_);refine wpAny_newFunctionEnv_cells S.kind Q6 λenv he s1 x=>?_
 subst he;refine⟨Z2.keeps x.toInCall.keep,codeAny_func ?_⟩;obtain⟨t,ht,hq⟩:=hbody A aB s H vs Q E (hr.deeper _) P6;have I:Inv (fN CX P w K mg base N qual scope f eL A aB s H E) [] (start N vs) H s1:=B9 S hr.hd e0 hl r x;refine oC (ht [] s1 (start N vs) H _ I hq) (λfl s' hs=>?_) λe s' hs=>hs
 have iU:∀{bu:St} {H':Hp} {v:V} {u:Value},Inv (fN CX P w K mg base N qual scope f eL A aB s H E) [] bu H' s'->RelV v u->Q v H'->CE aB P w H s Q u s' :=
  λ{bu H' v u} J rv q=>⟨v,H',J.os,J.bare,J.base,J.hok,rv,q⟩
 cases fl with
 | ret u =>
  obtain⟨v,bu,H',J,rv,q⟩:=hs;exact iU J rv q
 | next =>
  obtain⟨bu,H',J,q⟩:=hs;exact iU (v:=V.aV) J rfl q
 | brk =>
  obtain⟨_,_,_,q⟩:=hs;exact False.elim q
 | cont =>
  obtain⟨_,_,_,q⟩:=hs;exact False.elim q
section
variable {X:Cx} {x:Str} {p pos:Pos} {e:Expr} {es:List Expr} {t:TA} {id T:String} {r:List V->Hp->VK->Prop}
def VL(r:List V->Hp->VK->Prop)(t:TA):TE:=λσ H Q=>t σ H λvs H1=>r vs H1 Q
def iV(hc:jB X (.builtin id) r)(hg:Gl X x)(hm:X.mg x=none)(hv:bootBuiltins x=some (.builtin id))(ha:PA X (e::es) t)(hn:x≠"__name__":=by decide)(AJ:(x==("__debug__":Str))=false:=by decide)
  (he:starEach (e::es) X.env=(false,eval e X.env)::starEach es X.env:=by rfl) (kE:(backTo pos (starEach es X.env)).any (·.1)=false:=by rfl):PE X (.Call (.Name x p) (e::es) [] pos) (VL r t):=by
 intro ae s σ H Q I h;refine iM (ld_blt I hg hm hv ?_ hn AJ);exact DT (thn (ha pos ae s σ H _ I h) (by rintro us s1 ⟨vs,H1,I1,r1,q1⟩;exact hc ae s1 σ H1 vs us Q I1 r1 q1)) he kE
def l6(hc:jB X (.type T) r)(hg:Gl X x)(hm:X.mg x=none)(hv:bootBuiltins x=some (.type T))(ha:PA X (e::es) t)(hn:x≠"__name__":=by decide)(AJ:(x==("__debug__":Str))=false:=by decide)
  (he:starEach (e::es) X.env=(false,eval e X.env)::starEach es X.env:=by rfl) (kE:(backTo pos (starEach es X.env)).any (·.1)=false:=by rfl):PE X (.Call (.Name x p) (e::es) [] pos) (VL r t):=by
 intro ae s σ H Q I h;refine iM (ld_blt I hg hm hv ?_ hn AJ);exact ej (thn (ha pos ae s σ H _ I h) (by rintro us s1 ⟨vs,H1,I1,r1,q1⟩;exact hc ae s1 σ H1 vs us Q I1 r1 q1)) he kE
end
end L2
namespace HT
open PySem PyProof.Rows
section
variable {prog:Program} {w:World} {A:Around} {E:Value->Shared->Prop} {s:Shared}
def AK(ht:IsTup s.heap t vs.toArray)(hb:IsTup s.heap b ws.toArray)(hv:vs≠[])
  (h1:ws=[]->Q (.ref t) s) (h2:ws≠[]->Q (.ref s.heap.objs.size) {s with heap:=s.heap.push {cls:=.type "tuple",data:=.seq (vs++ws).toArray}})
  (hsz:vs.length+ws.length<=sizeLine):wpAny (model prog w) A (binaryOp .Add (.ref t) (.ref b)) Q E s:=by
 obtain⟨⟨cls,dd,data,sl⟩,ho,hc,n,hd⟩:=id ht;obtain⟨⟨VM,UB,Q7,UC⟩,M0,Q8,n2,Q9⟩:=id hb;simp only at hc hd Q8 Q9;subst hc hd Q8 Q9;have e:vs.toArray++ws.toArray=(vs++ws).toArray:=by simp
 by_cases hw:ws=[]
 ·exact concat_meets ⟨_,ho,rfl⟩ ⟨_,M0,rfl⟩ yy seq_tuple_add yg yb (xZ _ _)
   (tuple_addW1 t b vs.toArray ws.toArray n n2 dd UB sl UC (by grind) (by simp[hw])) ⟨ho,M0,h1 hw⟩
 ·refine concat_meets ⟨_,ho,rfl⟩ ⟨_,M0,rfl⟩ yy seq_tuple_add yg yb (xZ _ _)
   (tuple_addW2 t b vs.toArray ws.toArray n n2 dd UB sl UC (by grind) (by grind) (by grind)) ⟨ho,M0,?_⟩
  rw[e];exact h2 hw
noncomputable def dz(n d:Nat):Option Int->Nat
 | none=>d
 | some v=>if v<0 then(v+(n:Int)).toNat else min v.toNat n
def vK(n d:Nat):dz n d none=d:=rfl
def nF(n d k:Nat):dz n d (some (k:Int))=min k n:=by
 show(if(k:Int)<0 then((k:Int)+(n:Int)).toNat else min (k:Int).toNat n)=min k n
 rw[if_neg (by lia),lJ]
def M1(n d:Nat)(hd:d<=n)(o:Option Int):dz n d o<=n:=by
 cases o with
 | none=>exact hd
 | some v =>
  show(if v<0 then(v+(n:Int)).toNat else min v.toNat n)<=n
  by_cases hv:v<0
  ·grind
  ·grind
def AL(v:Int)(n d:Nat):(if v<0 then max (v+(n:Int)) 0 else min v (n:Int))=((dz n d (some v):Nat):Int):=by
 show(if v<0 then max (v+(n:Int)) 0 else min v (n:Int))=(((if v<0 then(v+(n:Int)).toNat else min v.toNat n):Nat):Int)
 by_cases hv:v<0
 ·grind
 ·grind
def yY(lo hi:Option Int)(n:Nat):Builtin.Slice.sliceAdjust lo hi 1 (n:Int)=(((dz n 0 lo:Nat):Int),((dz n n hi:Nat):Int)):=by
 have h1:¬(1<0):=by lia
 unfold Builtin.Slice.sliceAdjust;simp only[h1,b6];refine Prod.ext ?_ ?_
 ·cases lo with
  | none=>rfl
  | some v=>exact AL v n 0
 ·cases hi with
  | none=>rfl
  | some v=>exact AL v n n
def yZ(i j:Nat):Builtin.Slice.slicePlaces (i:Int) (j:Int) 1=j-i:=by
 unfold Builtin.Slice.slicePlaces;have h1:1>0:=by lia
 simp only[h1,dc,Int.ediv_one];split<;>lia
def oQ(p:IsPart v o)(h:Q o s):wpAny (model prog w) A (Builtin.Slice.slicePartIndex v) Q E s:=by
 cases p with
 | none=>exact slicePart_none h
 | int i t=>exact slicePart_int h
def gG{vl vu:Value}{lo hi:Option Int}{n:Nat}{Q:Int×Int×Nat->Shared->Prop}(hs:s.heap.IsSliceOf sl vl vu .none)(pl:IsPart vl lo)(pu:IsPart vu hi)
  (h:Q (((dz n 0 lo:Nat):Int),1,dz n n hi-dz n 0 lo) s):wpAny (model prog w) A (Builtin.Slice.sliceApplied (.ref sl) (pure (n:Int))) Q E s:=by
 obtain⟨os,HR,UD,Lp⟩:=id hs;unfold Builtin.Slice.sliceApplied Builtin.Slice.sliceFields;refine af (af (cb HR Lp rfl (af (cb HR Lp rfl (af (cb HR Lp rfl (ag ?_)))))));refine af (slicePart_none ?_);rw[if_neg (by decide)]
 refine af (oQ pl (af (oQ pu (af (ag ?_)))));show wpAny _ _ (match Builtin.Slice.sliceAdjust lo hi 1 (n:Int)with | (lo,hi)=>pure (lo,(1:Int),Builtin.Slice.slicePlaces lo hi 1)) _ _ s
 rw[yY lo hi n];show wpAny _ _ (pure (((dz n 0 lo:Nat):Int),(1:Int),Builtin.Slice.slicePlaces ((dz n 0 lo:Nat):Int) ((dz n n hi:Nat):Int) 1)) _ _ s;rw[yZ];exact ag h
def EL(xs:Array Value)(i k:Nat):((List.range k).filterMap fun(m:Nat)=>xs[((i:Int)+(m:Int)*1).toNat]?).toArray=((xs.toList.drop i).take k).toArray:=by
 have e:(fun(m:Nat)=>xs[(i+(m:Int)*1).toNat]?)=λm=>xs[i+m]?:=by
  grind
 rw[e];have:=pick_run xs i k;rw[List.filterMap_map]at this;have e2:((λx=>xs[x]?) ∘ λx=>i+x)=λm=>xs[i+m]?:=rfl
 rw[e2]at this;rw[this]
def kF{items:Array Value}{vl vu:Value}{lo hi:Option Int}{Q:Value->Shared->Prop}(ht:IsTup s.heap t items)(hs:s.heap.IsSliceOf sl vl vu .none)(pl:IsPart vl lo)(pu:IsPart vu hi)
  (hw:¬(dz items.size 0 lo=0/\dz items.size items.size hi=items.size))
  (h:Q (.ref s.heap.objs.size) {s with heap:=s.heap.push {cls:=.type "tuple",data:=.seq ((items.toList.drop (dz items.size 0 lo)).take (dz items.size items.size hi-dz items.size 0 lo)).toArray}})
  (hsz:items.size<=sizeLine):wpAny (model prog w) A (getItem (.ref t) (.ref sl)) Q E s:=by
 have AM:sizeOk (.seq ((items.toList.drop (dz items.size 0 lo)).take (dz items.size items.size hi-dz items.size 0 lo)).toArray):=by
  show((items.toList.drop (dz items.size 0 lo)).take (dz items.size items.size hi-dz items.size 0 lo)).toArray.size<=sizeLine;rw[bU,lM,tJ,lI]
  lia
 have hj:dz items.size items.size hi<=items.size:=M1 _ _ (aq _) hi;obtain⟨os,HR,UD,Lp⟩:=id hs;have Z4:s.TypeIs (.ref sl) "slice":=⟨os,HR,UD⟩;unfold getItem
 try with_reducible refine c7 ?_
 first | refine af (ag ?_) | skip
 refine af (wpAny_sequenceKey ht.typeIs (by decide) ?_)
 refine af (eX ht.typeIs lD
  (fg lD ht.typeIs entry_tuple_getitem ?_ (args_tuple_getitem _ _)))
 show wpAny _ _ (Builtin.Tuple.tupleItemsOf (.ref t) >>= _) _ _ s;refine af (tupleItemsOf_ ht ?_);refine af (jU Z4 ?_);rw[if_pos (by decide)]
 refine af (gG hs pl pu ?_);have VN:¬((((dz items.size 0 lo:Nat):Int)==0&&(1:Int)==1&&(dz items.size items.size hi-dz items.size 0 lo)==items.size)=true):=by
  grind
 show wpAny _ _ (if(((dz items.size 0 lo:Nat):Int)==0&&(1:Int)==1&&(dz items.size items.size hi-dz items.size 0 lo)==items.size)=true then _ else _) _ _ s
 rw[if_neg VN,EL]
 first
  | exact af (m:=Builtin.Tuple.tupleExact _) (jM (ag ⟨_,rfl,ag h⟩) AM)
  | exact af (m:=Builtin.Tuple.tupleExact _) (jM (af (ag (ag ⟨_,rfl,ag h⟩))) AM)
  | exact af (af (m:=Builtin.Tuple.tupleExact _) (jM (ag (ag ⟨_,rfl,ag h⟩)) AM))
  | exact af (af (m:=Builtin.Tuple.tupleExact _) (jM (ag ⟨_,rfl,ag h⟩) AM))
end
end HT
namespace L2
open PySem PySem.Spec PyProof.Rows
abbrev TO:=St->Hp->(Option Int->Hp->Prop)->Prop
def PO(X:Cx)(e:Option Expr)(t:TO):Prop :=
 ∀(ae:List (Addr×Obj)) (s:Shared) (σ:St) (H:Hp) (Q:Option Int->Hp->Prop),Inv X ae σ H s->t σ H Q ->
  wpAny (model X.prog X.w) X.A (evalPart e X.env) (λu s'=>∃o H',Inv X ae σ H' s'/\IsPart u o/\Q o H') X.xe s
def IZ:TO:=λ_ H Q=>Q none H
def Ra(t:TE):TO:=λσ H Q=>t σ H λx H1=>∃i,x=.int i/\Q (some i) H1
def y0:∀{us:List Value},Vals (ns.map V.int) us->IntsAre us ns:=by
 induction ns with
 | nil=>intro us r;rw[bI]at r;cases r;exact .nil
 | cons n ns ih =>
  intro us r;rw[aA]at r;cases r with
  | cons r1 r2 =>
   obtain⟨t,e⟩:=r1;subst e;exact .cons n t (ih r2)
section
variable {X:Cx} {e:Expr} {te:TE} {lo hi:Option Expr} {tl th:TO} {pos p2:Pos}
def I0:PO X none IZ:=by
 intro ae s σ H Q I h;rw[evalPart_none];exact ag ⟨none,H,I,.none,h⟩
def Ja(h:PE X e te):PO X (some e) (Ra te):=by
 intro ae s σ H Q I hw;rw[evalPart_some];refine thn (h ae s σ H _ I hw) λu s1 ⟨x,H1,I1,r1,q1⟩=>?_
 obtain⟨i,rfl,q⟩:=q1;obtain⟨t,rfl⟩:=r1;exact⟨some i,H1,I1,.int i t,q⟩
def UE(X:Cx)(r:V->Option Int->Option Int->Hp->VK->Prop):Prop :=
 ∀(ae:List (Addr×Obj)) (s:Shared) (σ:St) (H:Hp) (x:V) (v vl vu:Value) (lo hi:Option Int) (sl:Addr) (Q:VK),Inv X ae σ H s->RelV x v->s.heap.IsSliceOf sl vl vu .none->IsPart vl lo->IsPart vu hi->r x lo hi H Q ->
  ∃T id,typeLookup (.type T) "__getitem__"=pure (some (.builtin id))/\s.TypeIs v T/\wpAny (model X.prog X.w) X.A (getItem v (.ref sl)) (EP X ae σ Q) X.xe s
def Yl(r:V->Option Int->Option Int->Hp->VK->Prop)(te:TE)(tl th:TO):TE:=λσ H Q=>te σ H λx H1=>tl σ H1 λl H2=>th σ H2 λu H3=>r x l u H3 Q
def EM{r:V->Option Int->Option Int->Hp->VK->Prop}(hr:UE X r)(he:PE X e te)(hl:PO X lo tl)(hu:PO X hi th):PE X (.Subscript e (.Slice lo hi none p2) pos) (Yl r te tl th):=by
 intro ae s σ H Q I h;refine Subscript_ (thn (he ae s σ H _ I h) λv s1 ⟨x,H1,I1,r1,q1⟩=>?_)
 refine wpAny_Slice (thn (hl ae s1 σ H1 _ I1 q1) λvl s2 ⟨l,H2,I2,pl,q2⟩=>thn (hu ae s2 σ H2 _ I2 q2) λvu s3 ⟨u,H3,I3,pu,q3⟩=>?_)
 rw[evalPart_none];refine ag ?_;have I4:Inv X ae σ H3 {s3 with heap:=s3.heap.push {cls:=.type "slice",data:=.fields #[vl,vu,.none]}}:=I3.kept λb ob q=>ax _ q
 obtain⟨T,id,hT,ht,hg⟩:=hr ae {s3 with heap:=s3.heap.push {cls:=.type "slice",data:=.fields #[vl,vu,.none]}} σ H3 x v vl vu l u s3.heap.objs.size Q I4 r1 (Heap.IsSliceOf.new ..) pl pu q3
 show wpAny (model X.prog X.w) X.A (subscriptTail e (.Slice lo hi none p2) v (.ref s3.heap.objs.size)) (EP X ae σ Q) X.xe {s3 with heap:=s3.heap.push {cls:=.type "slice",data:=.fields #[vl,vu,.none]}}
 exact lX ht hT hg (by with_unfolding_all rfl)
def vL(xs:List V)(lo hi:Option Int):List V:=(xs.drop (HT.dz xs.length 0 lo)).take (HT.dz xs.length xs.length hi-HT.dz xs.length 0 lo)
def mF(xs:List V)(lo hi:Option Int):(vL xs lo hi).length<=xs.length:=by
 unfold vL;rw[lM,tJ]
 lia
def VO(K:W.Frag):V->Option Int->Option Int->Hp->VK->Prop:=λx lo hi H Q=>∃a xs,x=.ref a/\fx K H a xs /\
 ¬(HT.dz xs.length 0 lo=0/\HT.dz xs.length xs.length hi=xs.length)/\∀p,H p=none->Q (.ref p) (cj H p (.aj (vL xs lo hi)))
def M3:UE X (VO X.K):=by
 intro ae s σ H x v vl vu lo hi sl Q I rx hs pl pu h;obtain⟨a,xs,rfl,hx,hw,q⟩:=h;cases rx;obtain⟨ak,r,ht,hz⟩:=I.tuple hx;have dr:ak.toArray.size=xs.length:=by rw[bU];exact r.length.symm
 refine⟨"tuple",_,lD.lookup,ht.typeIs,?_⟩;refine HT.kF ht hs pl pu (by grind) ?_ (by grind)
 rw[dr];refine⟨.ref s.heap.objs.size,_,I.laid (λb ob q=>ax _ q) (aq _) ?_,rfl,q _ (I.hok.fresh (aq _))⟩
 exact⟨aM (mF xs lo hi) hz,_,(r.drop (HT.dz xs.length 0 lo)).take (HT.dz xs.length xs.length hi-HT.dz xs.length 0 lo),mV.new _ _⟩
def Rb(K:W.Frag):R2:=λx y H Q=>∃a b xs ys,x=.ref a/\y=.ref b/\fx K H a xs/\fx K H b ys/\xs≠[]/\xs.length+ys.length<=sizeLine /\
 (ys=[]->Q (.ref a) H)/\(ys≠[]->∀p,H p=none->Q (.ref p) (cj H p (.aj (xs++ys))))
def Vals.kG(r:Vals xs us):us=[]↔xs=[]:=by
 cases r with
 | nil=>simp
 | cons _ _=>simp
def Jb:OpR X (binaryOp .Add) (Rb X.K):=by
 intro ae s σ H x y v u Q I rx ry h;obtain⟨a,b,xs,ys,rfl,rfl,ha,hb,hx,hz,q1,q2⟩:=h;cases rx;cases ry;obtain⟨ak,r1,p1,_⟩:=I.tuple ha;obtain⟨cM,r2,p2,_⟩:=I.tuple hb;refine HT.AK p1 p2 (λz=>hx (r1.kG.mp z)) (λz=>⟨.ref a,H,I,rfl,q1 (r2.kG.mp z)⟩) (λz=>?_) (by rw[<-r1.length,<-r2.length];exact hz)
 refine⟨.ref s.heap.objs.size,_,I.laid (λb ob q=>ax _ q) (aq _) ?_,rfl,q2 (λw=>z (r2.kG.mpr w)) _ (I.hok.fresh (aq _))⟩
 exact⟨by grind,_,r1.append r2,mV.new _ _⟩
end
noncomputable def HS(n:Nat)(i:Int):Option Nat:=if 0<=i then(if i<n then some i.toNat else none)else if -(n:Int)<=i then some (i+n).toNat else none
def mY{α:Type}(xs:List α)(i:Int):Option α:=(HS xs.length i).bind λj=>xs[j]?
def AN(h:HS n i=some j):seqIndex? i n=some j/\j<n /\ -(n:Int)<=i/\i<n:=by
 unfold HS at h;by_cases h0:0<=i
 ·rw[if_pos h0]at h;by_cases h1:i<n
  ·rw[if_pos h1]at h;have e:=bG h;exact⟨by rw[seqIndex_of h0 h1,e],by lia,by lia,h1⟩
  ·grind
 ·rw[if_neg h0]at h;by_cases h1:-n<=i
  ·rw[if_pos h1]at h;have e:=bG h;exact⟨by rw[seqIndex_neg (by lia) h1,e],by lia,h1,by lia⟩
  ·grind
def ui{α:Type}{xs:List α}{i:Int}{v:α}(h:mY xs i=some v):∃j,seqIndex? i xs.length=some j/\xs[j]?=some v/\j<xs.length /\ -(xs.length:Int)<=i/\i<xs.length:=by
 unfold mY at h;cases e:HS xs.length i with
 | none=>rw[e]at h;cases h
 | some j =>
  rw[e]at h;obtain⟨h1,h2,h3,h4⟩:=AN e;exact⟨j,h1,h,h2,h3,h4⟩
def atI_nat{α:Type}{xs:List α}{j:Nat}{v:α}(h:xs[j]?=some v):mY xs (j:Int)=some v:=by
 have hj:=(b9.mp h).1;have e:HS xs.length j=some j:=by
  unfold HS;rw[if_pos (by lia),if_pos (by lia)];simp
 unfold mY;rw[e];exact h
def kH(b:Expr):Prop:=∀o i,subscripted b false o i=operate [o,i] (getItem o i)
def P7(X:Cx)(r:R2):Prop :=
 ∀(value slice:Expr) (ae:List (Addr×Obj)) (s:Shared) (σ:St) (H:Hp) (x y:V) (v u:Value) (Q:VK),Inv X ae σ H s->RelV x v->RelV y u->r x y H Q ->
  subscripted slice false v u=operate [v,u] (getItem v u)->wpAny (model X.prog X.w) X.A (subscriptTail value slice v u) (EP X ae σ Q) X.xe s
def M4(X:Cx)(id:String)(r:V->List V->Hp->VK->Prop):Prop :=
 ∀(ae:List (Addr×Obj)) (s:Shared) (σ:St) (H:Hp) (x:V) (xs:List V) (v:Value) (us:List Value) (Q:VK),Inv X ae σ H s->RelV x v->Vals xs us->r x xs H Q ->
  wpAny (model X.prog X.w) X.A (call (.builtin id) (v::us)) (EP X ae σ Q) X.xe s
section
variable {X:Cx} {a b:Expr} {ta tb:TE} {pos:Pos}
def EN(hr:P7 X r)(ha:PE X a ta)(hb:PE X b tb)(hs:kH b):PE X (.Subscript a b pos) (MK r ta tb):=by
 intro ae s σ H Q I h;exact Subscript_ (IJ ha hb I h λv u s2 x y H2 I2 rx ry q=>hr a b ae s2 σ H2 x y v u Q I2 rx ry q (hs _ _))
def VP(K:W.Frag):R2:=λx y H Q=>∃p xs i v,x=.ref p/\y=.int i/\uf K H p xs/\mY xs i=some v/\Q v H
def VQ(K:W.Frag):R2:=λx y H Q=>∃p xs i v,x=.ref p/\y=.int i/\fx K H p xs/\mY xs i=some v/\Q v H
def VR:R2:=λx y H Q=>∃z i c,x=.str z/\y=.int i/\z.length<=sizeLine/\mY z.cps.toList i=some c/\Q (.str ⟨#[c]⟩) H
def Jc:P7 X (VP X.K):=by
 intro value slice ae s σ H x y v u Q I rx ry h hs;obtain⟨p,xs,i,z,rfl,rfl,hq,he,q⟩:=h;cases rx;obtain⟨t,rfl⟩:=ry;obtain⟨ak,r,pl,hz⟩:=I.list hq;obtain⟨j,h1,h2,h3,h4,h5⟩:=ui he;obtain⟨w,ew,Jd⟩:=r.get h2;have hl:=r.length;have hn:=jX;have iU:EP X ae σ Q w s:=⟨z,H,I,Jd,q⟩;by_cases h0:0<=i
 ·have hj:i.toNat=j:=by
   rw[seqIndex_of h0 h5]at h1;exact bG h1
  exact item_listR pl.isList h0 (by lia) (by grind) iU hs
 ·have hj:(i+(ak.toArray.size:Int)).toNat=j:=by
   rw[seqIndex_neg (by lia) h4]at h1
   rw[bU,<-hl];exact bG h1
  exact subscriptTail_builtinR pl.isList.typeIs slot_list_getitem.lookup
   (wpAny_getItem_list_neg pl.isList (by lia) (by grind) (by lia) (by grind) ⟨rfl,iU⟩) hs
def M5:P7 X (VQ X.K):=by
 intro value slice ae s σ H x y v u Q I rx ry h hs;obtain⟨p,xs,i,z,rfl,rfl,hq,he,q⟩:=h;cases rx;obtain⟨t,rfl⟩:=ry;obtain⟨ak,r,pl,hz⟩:=I.tuple hq;obtain⟨j,h1,h2,h3,h4,h5⟩:=ui he;obtain⟨w,ew,Jd⟩:=r.get h2;have hl:=r.length;have hn:=jX;have iU:EP X ae σ Q w s:=⟨z,H,I,Jd,q⟩;exact subscriptTail_builtinR pl.typeIs slot_tuple_getitem.lookup
  (getItem_tuple pl (by lia) (by lia) (by rw[bU,<-hl];exact h1) (by grind) ⟨rfl,iU⟩) hs
def M6:P7 X VR:=by
 intro value slice ae s σ H x y v u Q I rx ry h hs;obtain⟨z,i,c,rfl,rfl,hz,he,q⟩:=h;obtain⟨t,rfl⟩:=rx;obtain⟨t',rfl⟩:=ry;obtain⟨j,h1,h2,h3,h4,h5⟩:=ui he;have hl:z.cps.toList.length=z.length:=by simp[Str.length]
 rw[hl]at h1 h4 h5;have hn:=jX;exact lX (typeIs_str s z t) slot_str_getitem.lookup (getItem_str (by
  grind) (by grind) ⟨.str ⟨#[c]⟩,H,I.tok _,⟨_,rfl⟩,q⟩) hs
def y9(ak:List Value)(n j:Nat)(u:Value):Obj.mapSeq (·.setIfInBounds j u) {cls:=.type "list",data:=.seq ak.toArray n}={cls:=.type "list",data:=.seq (ak.set j u).toArray n}:=by
 simp[Obj.mapSeq]
def Inv.lst{ae:List (Addr×Obj)}{σ:St}{H:Hp}{s:Shared}{p:Addr}{xs:List V}(I:Inv X ae σ H s)(h:H p=some (.lst xs)) :
  ∃(ak:List Value) (n:Nat),Vals xs ak/\s.heap.get? p=some {cls:=.type "list",data:=.seq ak.toArray n}/\xs.length<=sizeLine:=by
 obtain⟨z,ak,n,r,e⟩:=I.hok p _ h;exact⟨ak,n,r,e,z⟩
def Inv.M7{ae:List (Addr×Obj)}{σ:St}{H:Hp}{s:Shared}{p:Addr}{xs ys:List V}{ak mW:List Value}{n n':Nat}{f:Obj->Obj}(I:Inv X ae σ H s)(h:H p=some (.lst xs))
  (ho:s.heap.get? p=some {cls:=.type "list",data:=.seq ak.toArray n}) (hf:f {cls:=.type "list",data:=.seq ak.toArray n}={cls:=.type "list",data:=.seq mW.toArray n'}) (r:Vals ys mW) (hz:ys.length<=sizeLine) (t:Nat) :
  Inv X ae σ (cj H p (.lst ys)) {s with heap:=s.heap.update p f,toks:=t}:=by
 have e:(s.heap.update p f).get? p=some {cls:=.type "list",data:=.seq mW.toArray n'}:=by
  rw[iJ f ho (by rw[hf]<;>rfl),hf]
 refine I.write (by rw[h];trivial) (.inl rfl) (λb u hb q=>(iI _ _ (bJ hb)).trans q) ⟨_,e⟩ ?_
 exact⟨hz,mW,n',r,e⟩
def Rc:V->V->V->Hp->(Hp->Prop)->Prop:=λo i v H Q=>∃p xs k j,o=.ref p/\i=.int k/\H p=some (.lst xs)/\HS xs.length k=some j/\Q (cj H p (.lst (xs.set j v)))
def EO:Ex X Rc:=by
 intro ae s σ H o i v ov iv u Q I ro ri rv h;obtain⟨p,xs,k,j,rfl,rfl,hp,hj,q⟩:=h;cases ro;obtain⟨t,rfl⟩:=ri;obtain⟨ak,n,r,ho,hz⟩:=I.lst hp;obtain⟨h1,h2,h3,h4⟩:=AN hj;have hl:=r.length;have hn:=jX;have I':Inv X ae σ (cj H p (.lst (xs.set j v))) {s with heap:=s.heap.update p (Obj.mapSeq (·.setIfInBounds j u))} :=
  I.M7 hp ho (y9 ak n j u) (r.set rv j) (by grind) s.toks
 by_cases h0:0<=k
 ·have hk:k.toNat=j:=by
   rw[seqIndex_of h0 h4]at h1;exact bG h1
  exact W.ki_setAt ho h0 (by lia) (by grind) (by grind)
 ·have hk:(k+(ak.toArray.size:Int)).toNat=j:=by
   rw[seqIndex_neg (by lia) h3]at h1
   rw[bU,<-hl];exact bG h1
  exact W.ki_setBack ho (by lia) (by grind) (by lia) (by grind)
def uj(lo hi:Option Int)(n:Nat):(sliceBounds lo hi none n).1=((HT.dz n 0 lo:Nat):Int)/\(sliceBounds lo hi none n).2.1=((HT.dz n n hi:Nat):Int)/\(sliceBounds lo hi none n).2.2=1:=by
 refine⟨?_,?_,rfl⟩
 ·cases lo with
  | none=>simp[sliceBounds,HT.dz]
  | some i =>
   simp only[sliceBounds,HT.dz,yB,show 1>0 by decide,dc]
   by_cases h:i<0
   ·grind
   ·grind
 ·cases hi with
  | none=>simp[sliceBounds,HT.dz]
  | some i =>
   simp only[sliceBounds,HT.dz,yB,show 1>0 by decide,dc]
   by_cases h:i<0
   ·grind
   ·grind
def qz(ak:List Value)(lo hi:Option Int):slicePick ak.toArray lo hi none=((ak.drop (HT.dz ak.length 0 lo)).take (HT.dz ak.length ak.length hi-HT.dz ak.length 0 lo)).toArray:=by
 obtain⟨h1,h2,h3⟩:=uj lo hi ak.toArray.size;unfold slicePick;rw[h1,h2,h3];simp only[sliceRange_one,pick_run,bU]<;>rfl
def VS(K:W.Frag):V->Option Int->Option Int->Hp->VK->Prop:=λx lo hi H Q=>∃a xs,x=.ref a/\uf K H a xs/\∀p,H p=none->Q (.ref p) (cj H p (.lst (vL xs lo hi)))
def Je:UE X (VS X.K):=by
 intro ae s σ H x v vl vu lo hi sl Q I rx hs pl pu h;obtain⟨a,xs,rfl,hx,q⟩:=h;cases rx;obtain⟨ak,r,ht,hz⟩:=I.list hx;have dr:=r.length;refine⟨"list",_,slot_list_getitem.lookup,ht.isList.typeIs,?_⟩;refine wpAny_getItem_list_slice ht.isList hs pl pu .none (by simp) ?_ (by grind)
 rw[qz,<-dr];refine⟨.ref s.heap.objs.size,_,I.laid (λb ob q=>ax _ q) (aq _) ?_,rfl,q _ (I.hok.fresh (aq _))⟩
 exact⟨aM (mF xs lo hi) hz,_,0,(r.drop (HT.dz xs.length 0 lo)).take (HT.dz xs.length xs.length hi-HT.dz xs.length 0 lo),bc _ rfl⟩
def kJ:jB X (.builtin "len") (λxs H Q=>∃p ys,xs=[.ref p]/\(uf X.K H p ys\/fx X.K H p ys)/\Q (.int ys.length) H):=by
 intro ae s σ H xs us Q I r h;obtain⟨p,ys,rfl,hq,q⟩:=h;obtain⟨u,rfl,rx⟩:=iw r;cases rx;have hn:=jX;rcases hq with hq | hq
 ·obtain⟨ak,r',pl,hz⟩:=I.list hq;have dr:=r'.length;exact Calls.call_len_list pl.isList (by grind) ⟨.int ys.length,H,I.tok _,⟨s.toks+1,by grind⟩,q⟩
 ·obtain⟨ak,r',pl,hz⟩:=I.tuple hq;have dr:=r'.length;exact len_tuple pl (by grind) ⟨.int ys.length,H,I.tok _,⟨s.toks+1,by grind⟩,q⟩
def uk:jB X (.builtin "len") (λxs H Q=>∃z,xs=[.str z]/\z.length<=sizeLine/\Q (.int z.length) H):=by
 intro ae s σ H xs us Q I r h;obtain⟨z,rfl,hz,q⟩:=h;obtain⟨u,rfl,t,rfl⟩:=iw r;have hn:=jX;exact len_str (by lia) ⟨.int z.length,H,I.tok _,⟨_,rfl⟩,q⟩
def jC:jB X (.type "tuple") (λxs H Q=>∃p ys,xs=[.ref p]/\((uf X.K H p ys/\∀l,H l=none->Q (.ref l) (cj H l (.aj ys)))\/(fx X.K H p ys/\Q (.ref p) H))):=by
 intro ae s σ H xs us Q I r h;obtain⟨p,ys,rfl,h⟩:=h;obtain⟨u,rfl,rx⟩:=iw r;cases rx;rcases h with⟨hq,q⟩ | ⟨hq,q⟩
 ·obtain⟨ak,r',pl,hz⟩:=I.list hq;have dr:=r'.length;refine call_tuple_list pl.isList (λh' kp=>?_) (by grind)
  have I1:=I.kept (t':=s.toks) kp;have I2:Inv X ae σ (cj H h'.objs.size (.aj ys)) {s with heap:=h'.push {cls:=.type "tuple",data:=.seq ak.toArray}} :=
   I1.laid (λb o e=>ax _ e) (aq _) (⟨hz,ak,r',mV.new _ _⟩)
  exact⟨.ref h'.objs.size,_,I2,rfl,q _ (I1.hok.fresh (aq _))⟩
 ·obtain⟨ak,r',pl,hz⟩:=I.tuple hq;exact call_tuple_same pl ⟨.ref p,H,I,rfl,q⟩
def tyV(K:W.Frag)(T:String)(x:V)(H:Hp):Prop:=match x with
 | .str _=>T="str"
 | .int _=>T="int"
 | .ref p=>(T="list"/\∃xs,uf K H p xs)\/(T="tuple"/\∃o,K.lookup p=some o/\o.cls=.type "tuple"/\o.dict=none) \/
   (T="dict"/\((∃kvs,H p=some (.dK kvs))\/∃kvs,H p=some (.dT kvs)))\/(T="set"/\∃S n,H p=some (.set S n))
 | _=>False
def ER{ae:List (Addr×Obj)}{σ:St}{H:Hp}{s:Shared}{T:String}{x:V}{v:Value}(I:Inv X ae σ H s)(r:RelV x v)(ty:tyV X.K T x H) :
  s.TypeIs v T/\∀a,v=.ref a->∃ob,s.heap.get? a=some ob/\ob.dict=none:=by
 cases x with
 | str z =>
  obtain⟨t,rfl⟩:=r;cases(ty);exact⟨typeIs_str s z t,λ_ e=>nomatch e⟩
 | int i =>
  obtain⟨t,rfl⟩:=r;cases(ty);exact⟨oA s i t,λ_ e=>nomatch e⟩
 | ref p =>
  cases r;rcases ty with⟨rfl,xs,hq⟩ | ⟨rfl,o,hk,hc,hd⟩ | ⟨rfl,hk⟩ | ⟨rfl,S,n,hk⟩
  ·obtain⟨ak,_,pl,_⟩:=I.list hq;refine⟨pl.isList.typeIs,λa e=>?_⟩
   cases e;obtain⟨o,n,e,c,hd,_⟩:=pl;exact⟨o,e,hd⟩
  ·refine⟨⟨o,I.oG p o hk,hc⟩,λa e=>?_⟩
   cases e;exact⟨o,I.oG _ o hk,hd⟩
  ·have z:∃o,s.heap.get? p=some o/\o.ExactDict:=by
    rcases hk with⟨kvs,hk⟩ | ⟨kvs,hk⟩
    ·obtain⟨_,_,_,_,o,_,_,e,ex,_⟩:=I.hok p _ hk;exact⟨o,e,ex⟩
    ·obtain⟨_,_,o,_,_,e,ex,_⟩:=(I.hok p _ hk);exact⟨o,e,ex⟩
   obtain⟨o,e,ex⟩:=z;refine⟨⟨o,e,ex.1⟩,λa e2=>?_⟩
   cases e2;exact⟨o,e,ex.2.1⟩
  ·obtain⟨o,_,_,_,e,ex,_⟩:=I.hok p _ hk;refine⟨⟨o,e,ex.1⟩,λa e2=>?_⟩
   cases e2;exact⟨o,e,ex.2.1⟩
 | _=>exact False.elim ty
def Rf(K:W.Frag)(T:String)(r:V->List V->Hp->VK->Prop)(to:TE):TE:=λσ H Q=>to σ H λx H1=>tyV K T x H1/\r x [] H1 Q
def Ym(K:W.Frag)(T:String)(r:V->List V->Hp->VK->Prop)(to:TE)(t:TA):TE:=λσ H Q=>to σ H λx H1=>tyV K T x H1/\t σ H1 λxs H2=>r x xs H2 Q
variable {o e:Expr} {es:List Expr} {to:TE} {t:TA} {name:Str} {kx fZ:Pos} {T id:String} {r:V->List V->Hp->VK->Prop}
def ES(pa:PlainAttrs T)(slot:Slot T name id)(VT:typeOf (.builtin id)=pure (.type "method_descriptor"))(hm:M4 X id r)(ho:PE X o to)
  (gh:attributeBase o name X.env (eval o X.env)=eval o X.env:=by rfl) (fy:(kx.endLine==fZ.line)=true:=by rfl):PE X (.Call (.Attribute o name kx) [] [] fZ) (Rf X.K T r to):=by
 intro ae s σ H Q I h;refine wpAny_Call_method0_late gh fy (thn (ho ae s σ H _ I h) λv s1 z9=>?_)
 obtain⟨x,H1,I1,r1,ty,q1⟩:=z9;obtain⟨h1,h2⟩:=ER I1 r1 ty;exact⟨T,id,pa,slot,VT,h1,h2,Calls.callWith_builtin rfl (PySem.evalArgs_none (hm ae s1 σ H1 x [] v [] Q I1 r1 .nil q1))⟩
def oR(pa:PlainAttrs T)(slot:Slot T name id)(VT:typeOf (.builtin id)=pure (.type "method_descriptor"))(hm:M4 X id r)(ho:PE X o to)(ha:PA X (e::es) t)
  (gh:attributeBase o name X.env (eval o X.env)=eval o X.env:=by rfl)
  (qA:((backTo fZ (starEach (e::es) X.env)).all (λx=>!x.1)&&(backToKw fZ (keywordEach [] X.env)).all (λx=>x.1.isSome)
   && decide ((e::es).length+([]:List Keyword).length+(if([]:List Keyword).isEmpty then 0 else 1)<30))=true:=by rfl)
  (fy:(kx.endLine==fZ.line)=true:=by rfl) (hs:starEach (e::es) X.env=(false,eval e X.env)::starEach es X.env:=by rfl) (VU:(backTo fZ (starEach es X.env)).any (·.1)=false:=by rfl) :
  PE X (.Call (.Attribute o name kx) (e::es) [] fZ) (Ym X.K T r to t):=by
 intro ae s σ H Q I h;refine wpAny_Call_method_late gh qA fy rfl (thn (ho ae s σ H _ I h) λv s1 z9=>?_)
 obtain⟨x,H1,I1,r1,ty,q1⟩:=z9;obtain⟨h1,h2⟩:=ER I1 r1 ty;refine⟨T,id,pa,slot,VT,h1,h2,?_⟩;have hA:=ha fZ ae s1 σ H1 _ I1 q1;rw[hs]at hA ⊢;refine Calls.callWith_builtin (by grind) (Calls.evalArgs_plain ?_)
 exact thn hA (by rintro us s2 ⟨vs,H2,I2,r2,q2⟩;exact hm ae s2 σ H2 x vs v us Q I2 r1 r2 q2)
end
def UG(X:Cx)(id:String)(r:V->List V->Hp->VK->Prop):Prop :=
 ∀(ae:List (Addr×Obj)) (s:Shared) (σ:St) (H:Hp) (x:V) (xs:List V) (v:Value) (us:List Value) (Q:VK),Inv X ae σ H s->RelV x v->Vals xs us->r x xs H Q ->
  wpAny (model X.prog X.w) X.A (call (.builtin id) (v::us)) (EP X ae σ Q) X.xe s
theorem Vals.one:∀{x:V} {us:List Value},Vals [x] us->∃u,us=[u]/\RelV x u
 | _,_,.cons r .nil=>⟨_,rfl,r⟩
def Vals.two{x y:V}{us:List Value}(h:Vals [x,y] us):∃u v,us=[u,v]/\RelV x u/\RelV y v:=by
 cases h with
 | cons r h=>cases h with
  | cons q h=>cases h;exact⟨_,_,rfl,r,q⟩
theorem Vals.zero:∀{us:List Value},Vals [] us->us=[]
 | _,.nil=>rfl
theorem Vals.eraseIdx:∀{xs:List V} {us:List Value} (i:Nat),Vals xs us->Vals (xs.eraseIdx i) (us.eraseIdx i)
 | _,_,_,.nil=>.nil
 | _,_,0,.cons _ t=>t
 | _,_,i+1,.cons r t=>.cons r (Vals.eraseIdx i t)
def Vals.reverse(h:Vals xs us):Vals xs.reverse us.reverse:=by
 induction h with
 | nil=>exact .nil
 | cons r t ih=>rw[tu,tu];exact Vals.append ih (.cons r .nil)
section
variable {X:Cx} {ae:List (Addr×Obj)} {σ:St} {H:Hp} {s:Shared} {l b:Addr} {xs ys zs:List V}
def Inv.Jf{ak mW:List Value}{n:Nat}{f:Array Value->Array Value}{t':Nat}(I:Inv X ae σ H s)(hH:H l=some (.lst xs))
  (e:s.heap.get? l=some {cls:=.type "list",data:=.seq ak.toArray n}) (hf:f ak.toArray=mW.toArray) (hv:Vals ys mW) (hz:ys.length<=sizeLine) :
  Inv X ae σ (cj H l (.lst ys)) {s with heap:=s.heap.update l (Obj.mapSeq f),toks:=t'}:=by
 have q:=PySem.IsL.update e f;rw[hf]at q;refine I.write (by rw[hH];exact trivial) (.inl rfl) (λb' u hb hu=>(iI s.heap (Obj.mapSeq f) (bJ hb)).trans hu) ⟨_,q⟩ ?_
 exact⟨hz,mW,_,hv,q⟩
def Inv.M8(I:Inv X ae σ H s)(hv:Vals ys ak)(hz:ys.length<=sizeLine) :
  Inv X ae σ (cj H s.heap.objs.size (.lst ys)) {s with heap:=s.heap.push {cls:=.type "list",data:=.seq ak.toArray},toks:=t'} :=
 I.laid (λ_ _ q=>ax _ q) (aq _) ⟨hz,ak,0,hv,bc _ rfl⟩
def Inv.fresh(I:Inv X ae σ H s):H s.heap.objs.size=none:=I.hok.fresh (aq _)
def Inv.iB(I:Inv X ae σ H s)(hH:H l=some (.lst xs)):xs.length<=sizeLine/\∃(ak:List Value) (n:Nat),Vals xs ak/\xs.length=ak.length/\s.heap.get? l=some {cls:=.type "list",data:=.seq ak.toArray n}:=by
 obtain⟨z,ak,n,r,e⟩:=I.hok l _ hH;exact⟨z,ak,n,r,r.length,e⟩
def vM(h:n<=sizeLine):Builtin.List.listTooLong n=false:=by
 unfold Builtin.List.listTooLong;exact bz (by lia)
end
section
variable {X:Cx}
def AO:V->List V->Hp->VK->Prop:=λx vs H Q=>∃l xs y,x=.ref l/\vs=[y]/\H l=some (.lst xs)/\xs.length<sizeLine/\Q .aV (cj H l (.lst (xs++[y])))
def Cc:UG X "list.append" AO:=by
 intro ae s σ H x vs v us Q I rx rv h;obtain⟨l,xs,y,rfl,rfl,hH,hz,q⟩:=h;cases rx;obtain⟨u,rfl,ru⟩:=rv.one;obtain⟨z,ak,n,r,hl,e⟩:=I.iB hH;refine dN F.slot_list_append ⟨_,e,rfl⟩ F.entry_list_append (F.args_list_append_2 _ _) (PySem.list_append l ak.toArray n u (by grind)) ⟨e,?_⟩
 refine⟨.aV,_,I.Jf hH e (by simp) (r.append (.cons ru .nil)) ?_,rfl,q⟩
 rw[cz,List.length_singleton]
 lia
def vN:V->List V->Hp->VK->Prop:=λx vs H Q=>∃l xs,x=.ref l/\vs=[]/\H l=some (.lst xs)/\Q .aV (cj H l (.lst xs.reverse))
def za:UG X "list.reverse" vN:=by
 intro ae s σ H x vs v us Q I rx rv h;obtain⟨l,xs,rfl,rfl,hH,q⟩:=h;cases rx;have VV:=rv.zero;subst VV;obtain⟨z,ak,n,r,hl,e⟩:=I.iB hH;refine dN F.slot_list_reverse ⟨_,e,rfl⟩ F.entry_list_reverse (F.args_list_reverse_1 _) (AutoSeq1.list_reverse_list_0 l ak.toArray n (by grind)) ⟨e,?_⟩
 refine⟨.aV,_,I.Jf hH e (by simp) r.reverse ?_,rfl,q⟩
 rw[List.length_reverse]
 lia
end
end L2
namespace Yn
open PySem PySem.W PySem.Calls PyProof.Rows
def mZ:∀(ns:List Int) (vs:List Value),WellAll P h vs (ns.map WData.int)->IntsAre vs ns:=by
 intro ns;induction ns with
 | nil =>
  intro vs w;rw[bI]at w;cases w;exact .nil
 | cons n ns ih =>
  intro vs w;rw[aA]at w;cases w with
  | cons a b =>
   cases a;exact .cons _ _ (ih _ b)
def Cd{l:OpenLaw}(hn:l.most=some n) 
  (Jg:l.row.toRowW.claim.pre args=true) (VW:WellAll P h Rg args) :
  ∃a vs ns,Rg=[Value.ref a]/\args=[WData.list (ns.map WData.int)]/\h.get? a=some {cls:=.type "list",data:=.seq vs.toArray}/\IntsAre vs ns/\ns.length<=n:=by
 have Z5:=(pre_splitW Jg).1;have hc:l.pre.holds [] {args:=args}=true:=(pre_splitW Jg).2
 obtain⟨d,r,rfl,h1,h2⟩:=hasAllW_cons Z5;obtain rfl:=hasAllW_nil h2;obtain⟨xs,rfl,h3⟩:=hasW_list h1;obtain⟨ns,rfl⟩:=items_int h3;have dr:ns.length<=n:=by
  unfold OpenLaw.pre at hc;have h4:(WTm.not (.lt (.lit (.int n)) (.len (.arg 0)))).holds [] {args:=[.list (ns.map .int)]}=true:=by
   have h4:=(holds_andW hc).1;rw[hn]at h4;exact h4
  have h5:=condW_of h4 (w_not (w_lt w_lit (w_len_list (w_arg rfl))));rw[ah]at h5;refine jO λq=>?_
  have q':n<(ns.length:Nat):=by lia
  first
   | (rw[bf q']at h5;exact absurd h5 (by decide))
   | (simp at h5;lia)
 cases VW with
 | cons w1 w2 =>
  cases w2;cases w1 with
  | list ho vO=>exact⟨_,_,ns,rfl,rfl,ho,mZ ns _ vO,dr⟩
def Ce(l:OpenLaw)(args:List WData):l.row.toRowW.claim.post args (.bool true) args=true :=
 postW_of
  (show WShape.has [] (.bool true) .bool=true by first | rfl | decide | simp[WShape.has,WShape.arms,WShape.armsAll])
  (w_eq_bool (w_res rfl) w_lit) rfl
def vP{l:OpenLaw}{n:Nat}{loose:List Str}{XP:(Str->Option Value)->Heap->Prop}{YP:World->Heap->Prop}{d:DefRec}
  (hn:l.most=some n) (VX:d.params.defaults=[])
  (call:∀(w:World) (s₀ s₁:Shared) (mg mb:Str->Option Value) (fa:Addr) (o:Obj) (pm cd doc:Value) (a:Addr) (vs:List Value) (ns:List Int),
   Ground q loose [] XP w s₀ mg mb s₁.heap->YP w s₁.heap ->
   s₁.heap.get? fa=some o->o.data=.func (docDef d.name d.params d.body d.scope pm cd doc)->s₁.heap.CodeRec cd d.name->mg d.name=some (.ref fa) ->
   s₁.heap.get? a=some {cls:=.type "list",data:=.seq vs.toArray}->IntsAre vs ns->ns.length<=n->s₁.gens=#[] ->
   codeAny (model l.prog w) callerA (.call (.ref fa) ⟨[.ref a],[]⟩) (λr s'=>r=.ok (.ret (.bool true))/\OldK s₁.heap s'.heap/\s'.os=s₁.os/\AllBare s'.gens) s₁) :
  WalkO q loose XP YP l.row.toRowW d [] (λf vs=>PySem.call f vs):=by
 intro w s₀ s₁ mg mb G Y fa o pm cd doc dV kV ho hd DM hD DO hg args Rg as Jg Z6 hrd VW hlo;obtain rfl:dV=.none:=Dflts.none hD VX;obtain rfl:kV=.none:=Dflts.noKw hD;obtain⟨a,vs,ns,rfl,rfl,ET,EU,dr⟩:=Cd hn Jg VW;refine enter_call (lT (call w s₀ s₁ mg mb fa o pm cd doc a vs ns G Y ho (fd_plain hd) DM DO ET EU dr hg) λr s' hq=>?_)
 obtain⟨rfl,h2,h3,h4⟩:=hq;exact⟨.inl ⟨.bool true,.bool true,[],rfl,λ_=>rfl,.bool true,Ce l _,λ_=>⟨List.Pairwise.nil,λ_ hm=>(nomatch hm)⟩⟩,h2,h3,h4⟩
end Yn
namespace L2
open PySem PySem.Spec PyProof.Rows
theorem rE:∀{vs:List Value} {ns:List Int},IntsAre vs ns->Vals (ns.map V.int) vs
 | _,_,.nil=>.nil
 | _,_,.cons n t h=>.cons ⟨t,rfl⟩ (rE h)
def Cf{P:Program}{w:World}{K:W.Frag}{mg mb:Str->Option Value}{CX:D1}{k:Nat}{fa a:Addr}{fd:FuncData}{x:Str}{sp:Sp}{s₁:Shared}{vs:List Value}{ns:List Int}{tabs:List (Addr×Str)}
  (KX:K.In s₁.heap) (Jh:s₁.heap.Ns mainGlobals mg) (hb:s₁.heap.Ns builtinsNs mb) (UH:∀x:Str,x≠"__name__"->mb x=bootBuiltins x) (zb:s₁.heap.NoLimit) (hg:s₁.gens=#[])
  (hT:∀b q,tabs.lookup b=some q->s₁.heap.get? b=some {cls:=.none,data:=.fields #[]}/\isCodeTable s₁.heap b/\K.lookup b=none) (hTI:∀H:Hp,(∀b q,tabs.lookup b=some q->H b=some (.eO q))->oF K H)
  (ha:s₁.heap.get? a=some {cls:=.type "list",data:=.seq vs.toArray}) (hi:IntsAre vs ns) (hl:ns.length<=sizeLine) (hr:dZ k callerA)
  (F:∀base:Heap,K.In base->base.Ns mainGlobals mg->FnOk P w K mg base CX k fa fd [x] sp) (Rh:∀(s:Shared) (u:Value),BindsTo s fd ⟨[u],[]⟩ [(x,u)])
  (P6:∀H:Hp,gE K H a (ns.map V.int)->sp [.ref a] H (λv _=>v=.bl true) λ_ _ _=>False) (Z7:∀H e s',CX [] H s₁ (λ_ _ _=>False) e s'->False) :
  codeAny (model P w) callerA (.call (.ref fa) ⟨[.ref a],[]⟩) (λr s'=>r=.ok (.ret (.bool true))/\OldK s₁.heap s'.heap/\s'.os=s₁.os/\AllBare s'.gens) s₁:=by
 have rv:=rE hi;have gH:=hi.length
 let oa:Obj:={cls:=.type "list",data:=.seq vs.toArray}
 let H:Hp:=λb=>if b=a/\K.lookup a=none then some (.vt oa (.lst (ns.map V.int)))else(tabs.lookup b).map HO.eO
 have VY:∀b,H b=if b=a/\K.lookup a=none then some (.vt oa (.lst (ns.map V.int)))else(tabs.lookup b).map HO.eO:=λ_=>rfl
 have Z8:∀b q,tabs.lookup b=some q->H b=some (.eO q):=λb q e=>by
  grind
 have hH:∀b u,H b=some u->(b=a/\K.lookup a=none/\u=.vt oa (.lst (ns.map V.int)))\/∃q,tabs.lookup b=some q/\u=.eO q:=λb u e=>by
  rw[VY]at e;by_cases h:b=a/\K.lookup a=none
  ·grind
  ·rw[if_neg h]at e;cases z:tabs.lookup b with
   | none=>rw[z]at e;cases e
   | some q=>rw[z]at e;cases e;exact .inr ⟨q,rfl,rfl⟩
 have hS:gE K H a (ns.map V.int):=by
  cases hk:K.lookup a with
  | some o =>
   have e:=KX a o hk;rw[ha]at e;cases e;exact .inr ⟨vs,_,hk,by grind,rv⟩
  | none=>exact .inl (.inr ⟨oa,by grind⟩)
 have hok:kq P w H s₁.heap:=λb u e=>by
  rcases hH b u e with⟨rfl,_,rfl⟩ | ⟨q,hq,rfl⟩
  ·exact⟨ha,by grind,vs,_,rv,ha⟩
  ·exact⟨#[],(hT b q hq).1,trivial,λpos cv z=>by cases z⟩
 have Z9:∀{b:Addr} {o:Obj} {es:Array DictEntry} {ep:Nat},s₁.heap.get? b=some o->o.data=.dict es ep->H b=none:=λ{b o es ep} e d=>by
  cases q:H b with
  | none=>rfl
  | some u =>
   rcases hH b u q with⟨rfl,_,_⟩ | ⟨t,ht,_⟩
   ·grind
   ·grind
 have UI:∀{b:Addr} {m:Str->Option Value},s₁.heap.Ns b m->(vC s₁.heap H).Ns b m:=λ{b m} ⟨o,es,ep,e,d,r⟩=>⟨o,es,ep,hidT_get e (Z9 e d),d,r⟩
 have Yo:K.In (vC s₁.heap H):=λb o e=>hidT_get (KX b o e) (by
  cases q:H b with
  | none=>rfl
  | some u =>
   rcases hH b u q with⟨rfl,z,_⟩ | ⟨t,ht,_⟩
   ·grind
   ·rw[(hT b t ht).2.2]at e;cases e)
 have hM:Mod K mg (vC s₁.heap H):=⟨Yo,UI Jh,⟨mb,UI hb,UH⟩,let ⟨mc,h1,h2⟩:=zb;⟨mc,UI h1,h2⟩⟩
 have e0:Env0 P w K mg (vC s₁.heap H) callerA [] s₁ H:=⟨rfl,hM,λb o e=>of_hidT e,iS (BY _ _),trivial,λb hb=>absurd (show b∈([]:List Addr)from hb) (by simp),hok,.of_eq hg,hTI H Z8⟩
 refine lT ((F _ Yo (UI Jh)).run callerA [] s₁ H ⟨[.ref a],[]⟩ [.ref a] [.ref a] _ _ hr e0 (Rh s₁ (.ref a)) (.cons rfl .nil) (P6 H hS)) λr s' h=>?_
 cases r with
 | error e=>exact(Z7 H e s' h).elim
 | ok fl =>
  cases fl with
  | next=>exact False.elim h
  | brk=>exact False.elim h
  | cont=>exact False.elim h
  | ret u =>
   obtain⟨v,H',os,bare,un,Rj,r',q⟩:=h;have q':=q;subst q';obtain rfl:u=Value.bool true:=r';have noF:∀b:Addr,b∉kA []:=λb z=>absurd (show b∈([]:List Addr)from z) (by simp)
   refine⟨rfl,⟨λb o e=>?_,λb o e=>un.there b o e (by simp)⟩,os,bare⟩
   cases q:H b with
   | none=>exact .inl (un.keep b o e q (noF b) (by simp))
   | some u =>
    rcases hH b u q with⟨rfl,_,rfl⟩ | ⟨t,ht,rfl⟩
    ·obtain⟨e2,_⟩:=Rj b _ (un.frzs b _ _ q);rw[ha]at e;cases e;exact .inl e2
    ·obtain⟨h1,h2,_⟩:=hT b t ht;obtain⟨ps,e2,_⟩:=(Rj b _ (un.tbls b _ q));rw[h1]at e;cases e;exact .inr (.inl ⟨h2,rfl,#[],ps,rfl,by grind⟩)
abbrev E0:XK:=λ_ _ _=>False
def b8(H H':Hp):Prop:=∀b o,H b=some o->H' b=some o
def b8.refl(H:Hp):b8 H H:=λ_ _ h=>h
def b8.trans(a:b8 H H1)(b:b8 H1 H2):b8 H H2:=λc o h=>b c o (a c o h)
def b8.free(e:b8 H H')(h:H' l=Option.none):H l=Option.none:=by
 cases q:H l with
 | none=>rfl
 | some o =>
  rw[e l o q]at h;cases h
def b8.seq{K:W.Frag}{H H':Hp}{a:Addr}{xs:List V}(e:b8 H H')(h:uf K H a xs):uf K H' a xs:=by
 rcases h with(h | ⟨o,h⟩) | h
 ·exact .inl (.inl (e _ _ h))
 ·exact .inl (.inr ⟨o,e _ _ h⟩)
 ·exact .inr h
section
variable {κ:Type} [DecidableEq κ]
noncomputable def f7(kvs:List (κ×V))(k:κ):Option V:=(kvs.find? λkv=>decide (kv.1=k)).map (·.2)
noncomputable def putK(kvs:List (κ×V))(k:κ)(v:V):List (κ×V) :=
 if(kvs.any λkv=>decide (kv.1=k))=true then kvs.map (λkv=>if kv.1=k then(kv.1,v)else kv)else kvs++[(k,v)]
def kK{p:κ×V}{r:List (κ×V)}{k:κ}(e:p.1=k):f7 (p::r) k=some p.2:=by simp[f7,oo,e]
def kL{p:κ×V}{r:List (κ×V)}{k:κ}(e:¬p.1=k):f7 (p::r) k=f7 r k:=by simp[f7,oo,e]
theorem oS(k:κ):∀kvs:List (κ×V),(kvs.any λkv=>decide (kv.1=k))=(f7 kvs k).isSome
 | []=>rfl
 | p::r=>by
  rw[lR];by_cases e:p.1=k
  ·simp only[kK e,bf e,Bool.true_or,Option.isSome_some]
  ·rw[kL e,bz e,Bool.false_or];exact oS k r
def EV{kvs:List (κ×V)}{k:κ}(v:V)(h:f7 kvs k=none):putK kvs k v=kvs++[(k,v)]:=by
 unfold putK;rw[oS,h];exact if_neg (by decide)
def uc.rF{o:Option V}{u:Option Value}(r:uc o u):o.isSome=u.isSome:=by
 cases o with
 | none=>cases u with
  | none=>rfl
  | some _=>exact(show False from r).elim
 | some _=>cases u with
  | none=>exact(show False from r).elim
  | some _=>rfl
def KV.val{kvs:List (κ×V)}{vs:List (κ×Value)}(r:KV kvs vs)(k:κ):uc (f7 kvs k) (valueAt vs k):=by
 unfold KV at r;induction r with
 | nil=>exact True.intro
 | @cons p q ps qs h t ih =>
  obtain⟨h1,h2⟩:=h;by_cases e:p.1=k
  ·have e':q.1=k:=by grind
   have b:valueAt (q::qs) k=some q.2:=by simp[valueAt,oo,e']
   rw[kK e,b];exact h2
  ·have e':¬q.1=k:=by grind
   have b:valueAt (q::qs) k=valueAt qs k:=by simp[valueAt,oo,e']
   rw[kL e,b];exact ih
def KV.any{kvs:List (κ×V)}{vs:List (κ×Value)}(r:KV kvs vs)(k:κ):(kvs.any λkv=>decide (kv.1=k))=vs.any λkv=>decide (kv.1=k):=by
 unfold KV at r;induction r with
 | nil=>rfl
 | cons h t ih=>rw[lR,lR,ih,h.1]
def KV.VZ{kvs:List (κ×V)}{vs:List (κ×Value)}(r:KV kvs vs)(k:κ){y:V}{u:Value}(ry:RelV y u) :
  KV (kvs.map λkv=>if kv.1=k then(kv.1,y)else kv) (vs.map λkv=>if kv.1=k then(kv.1,u)else kv):=by
 unfold KV at r ⊢;induction r with
 | nil=>exact .nil
 | @cons p q ps qs h t ih =>
  rw[aA,aA];refine .cons ?_ ih;obtain⟨h1,h2⟩:=h;by_cases e:p.1=k
  ·grind
  ·grind
def KV.put{kvs:List (κ×V)}{vs:List (κ×Value)}(r:KV kvs vs)(k:κ){y:V}{u:Value}(ry:RelV y u):KV (putK kvs k y) (stored vs k u):=by
 unfold putK stored;rw[r.any k];by_cases e:(vs.any λkv=>decide (kv.1=k))=true
 ·rw[if_pos e,if_pos e];exact r.VZ k ry
 ·rw[if_neg e,if_neg e];exact Paired.snoc r ⟨rfl,ry⟩
theorem KV.length{kvs:List (κ×V)}{vs:List (κ×Value)}(r:KV kvs vs):kvs.length=vs.length:=iR r
end
def mG{P:Program}{w:World}{k:cL}{u:Value}(r:RelV (kV k) u):(bA P w).is k u=true:=by
 cases k with
 | inl i=>obtain⟨t,e⟩:=(show ∃t,u=Value.int i t from r);subst e;exact vz P w i t
 | inr x=>obtain⟨t,e⟩:=(show ∃t,u=Value.str x t from r);subst e;exact vA P w x t
theorem rG{P:Program}{w:World}:∀{ks:List cL} {us:List Value},Vals (ks.map kV) us->ItemsAre (bA P w) ks us
 | [],_,r=>by rw[bI]at r;cases r;exact .nil
 | k::ks,_,r=>by
  rw[aA]at r;cases r with
  | cons h t=>exact .cons (mG h) (rG t)
section
variable {P:Program} {w:World} {H:Hp} {h:Heap} {a:Addr}
def Lq{u:HO}(ok:kq P w H h)(e:Rd H a u):eQ P w H h a u:=e.ok ok
def AQ{kvs:List (cL×V)}(ok:kq P w H h)(e:Rd H a (.dK kvs)):kvs.length<=sizeLine/\(a==sysModules)=false/\∃vs,KV kvs vs/\h.DictOf (bA P w) a vs :=
 show eQ P w H h a (.dK kvs)from Lq ok e
def EW{kvs:List (cL×V)}(ok:kq P w H h)(e:H a=some (.dK kvs)):kvs.length<=sizeLine/\(a==sysModules)=false/\∃vs,KV kvs vs/\h.DictOf (bA P w) a vs:=AQ ok (.inl e)
end
section
variable {X:Cx} {ae:List (Addr×Obj)} {σ:St} {H:Hp} {s:Shared} {a b:Addr} {k:List cL} {v:V} {r:Value} {A:Around} {E:Value->Shared->Prop} {xs:List (List cL×Addr×Value)}
def key_is(I:Inv X ae σ H s)(e:fx X.K H a (k.map kV)):(tupleKind (bA X.prog X.w)).is s.heap k a:=by
 obtain⟨ak,r,⟨o,h1,h2,n,h3⟩,_⟩:=I.tuple e;exact⟨o,ak.toArray,n,h1,h2,h3,by simpa using rG r⟩
def rH(I:Inv X ae σ H s)(e:Rd H a (.dT xs))(hk:ez X.K H xs):xs.length<=sizeLine/\(a==sysModules)=false/\s.heap.DictOfH (tupleKind (bA X.prog X.w)) a xs:=by
 obtain⟨z,y,o,es,ep,h1,h2,h3,h4,h5⟩:=(show eQ X.prog X.w H s.heap a (.dT xs)from Lq I.hok e)
 exact⟨z,y,o,es,ep,h1,h2,h3,h4,λx hx=>key_is I (hk x hx),h5⟩
def Rk{Q:Value->Shared->Prop}(hu:A.units+1<cLine)(I:Inv X ae σ H s)(e:Rd H a (.dT xs))(hk:ez X.K H xs)(eb:fx X.K H b (k.map kV))(h:∀s',Inv X ae σ H s'->Q (.bool (atKey xs k).isSome) s') :
  wpAny (model X.prog X.w) A (compareOp .In (.ref b) (.ref a)) Q E s:=by
 obtain⟨_,hd,dd⟩:=rH I e hk;exact wpAny_in_heap (n6 hu) (key_is I eb) hd dd (h _ (I.tok _))
def Rl{Q:Value->Shared->Prop}(hu:A.units+1<cLine)(I:Inv X ae σ H s)(e:Rd H a (.dT xs))(hk:ez X.K H xs)(eb:fx X.K H b (k.map kV)) (h:∀s',Inv X ae σ H s'->Q (.bool (!(atKey xs k).isSome)) s') :
  wpAny (model X.prog X.w) A (compareOp .NotIn (.ref b) (.ref a)) Q E s:=by
 obtain⟨_,hd,dd⟩:=rH I e hk;exact wpAny_notIn_heap (n6 hu) (key_is I eb) hd dd (h _ (I.tok _))
def Rm{Q:Value->Shared->Prop}{p:Addr×Value}(hu:A.units+1<cLine)(I:Inv X ae σ H s)(e:Rd H a (.dT xs))(hk:ez X.K H xs)(eb:fx X.K H b (k.map kV))(hp:atKey xs k=some p)(h:∀s',Inv X ae σ H s'->Q p.2 s') :
  wpAny (model X.prog X.w) A (getItem (.ref a) (.ref b)) Q E s:=by
 obtain⟨_,hd,dd⟩:=rH I e hk;exact wpAny_getItem_heap (n6 hu) (key_is I eb) dd hp (h _ (I.tok _))
def zc{κ:Type} [DecidableEq κ] (xs:List (κ×Addr×Value)) (k:κ) (a:Addr) (v:Value):(storedH xs k a v).length<=xs.length+1:=by
 unfold storedH;split
 ·grind
 ·grind
def M9{Q:Unit->Shared->Prop}(hu:A.units+1<cLine)(I:Inv X ae σ H s)(e:H a=some (.dT xs))(hk:ez X.K H xs)(eb:fx X.K H b (k.map kV))(hl:xs.length<sizeLine)
  (h:∀s',Inv X ae σ (cj H a (.dT (storedH xs k b r))) s'->Q () s'):wpAny (model X.prog X.w) A (setItem (.ref a) (.ref b) r) Q E s:=by
 obtain⟨_,hd,dd⟩:=rH I (.inl e) hk;refine wpAny_setItem_heap (hsz:=t8 hl) (n6 hu) (key_is I eb) dd λh' Na hs=>h _ ?_
 obtain⟨q,es,ep,hq,h2,h3,h4,_,h5⟩:=Na;exact I.write (x:=a) (e:=a) (by rw[e];exact True.intro) (.inl rfl) (λc q' hc z=>(hs.2 c hc).trans z) ⟨q,hq⟩ ⟨(by have:=zc xs k b r;lia),hd,q,es,ep,hq,h2,h3,h4,h5⟩
def iW(I:Inv X ae σ H s):sysModules<s.heap.objs.size:=g8 (by decide) (show mainGlobals<s.heap.objs.size from(I.mod.glob.keeps I.bk).lt)
def Lr(o:HO):TE:=λ_ H Q=>∀p,H p=none->Q (.ref p) (cj H p o)
def Ji{pos:Pos}:PE X (.Dict [] [] pos) (Lr (.dT [])):=λae s σ H Q I h =>
 wpAny_Dict_empty ⟨.ref s.heap.objs.size,_,I.laid (a:=s.heap.objs.size) (o:=.dT []) (t':=s.toks) (λ_ _ q=>ax _ q) (aq _)
  ⟨fK _,g7.mpr (bJ (aO (iW I))),_,#[],0,bc _ rfl,⟨rfl,rfl,rfl⟩,rfl,rfl,tW⟩,rfl,h _ (I.hok.fresh (aq _))⟩
def Cg{κ:Type} [DecidableEq κ] (xs:List (κ×Addr×Value)) (k:κ):(atKey xs k).isSome=(xs.map (·.1)).any λj=>decide (j=k):=by
 unfold atKey;rw[Option.isSome_map,List.any_map,List.isSome_find?];rfl
end
def EX(mg:Str->Option Value)(base:Heap):Prop:=∃bm o,mg "__builtins__"=some (.ref bm)/\bm≠builtinsNs/\bm≠mainGlobals/\base.get? bm=some o/\o.cls=.type "module"/\o.dict=some builtinsNs/\o.data=.plain
end L2
namespace L2.U
open PySem PySem.Spec PyProof.Rows
def nw{α:Sort u}(a:α):∃x,x=a:=⟨_,rfl⟩
noncomputable abbrev PV.lst (ps:List PV):PV:=.nd .lst ps
structure Gr (F F':Fz):Prop where
 s:b8 F.F F'.F
 m:∀(n:Nat) (a:Addr),F.μ[n]?=some a->F'.μ[n]?=some a
def Gr.refl(F:Fz):Gr F F:=⟨b8.refl _,λ_ _ h=>h⟩
def Gr.trans(a:Gr F F1)(b:Gr F1 F2):Gr F F2:=⟨a.s.trans b.s,λn c h=>b.m n c (a.m n c h)⟩
def aT{K:W.Frag}(e:b8 H H')(h:fx K H a xs):fx K H' a xs:=by
 rcases h with(h | ⟨o,h⟩) | h
 ·exact .inl (.inl (e _ _ h))
 ·exact .inl (.inr ⟨o,e _ _ h⟩)
 ·exact .inr h
def Jj(e:b8 H H')(h:Rd H a u):Rd H' a u:=h.imp (e _ _) (by rintro⟨o,q⟩;exact⟨o,e _ _ q⟩)
def gI{K:W.Frag}(e:b8 H H')(h:gE K H a xs):gE K H' a xs:=h.imp (Jj e) id
def _root_.L2.gE.of{K:W.Frag}(h:H a=some (.lst xs)):gE K H a xs:=.inl (.inl h)
section
variable {K:W.Frag} {F F':Fz}
def jW.to(h:jW K G H a x k vs)(g:b8 G G')(e:∀o,H a=some o->H' a=some o)(hy:y=true->x=true):jW K G' H' a y k vs:=by
 have keys:∀{xs:List (List cL×Addr×Value)},ez K G xs->ez K G' xs:=λhk z hz=>aT g (hk z hz)
 match k,h with
 | .aj,⟨h1,h2⟩ =>
  refine⟨?_,?_⟩
  ·grind
  ·rcases h2 with(h2 | ⟨o,h2⟩) | h2
   ·exact .inl (.inl (e _ h2))
   ·exact .inl (.inr ⟨o,e _ h2⟩)
   ·exact .inr h2
 | .lst,h =>
  cases y with
  | true=>rw[hy rfl]at h;exact e _ h
  | false =>
   cases x with
   | true=>exact gE.of (e _ h)
   | false =>
    rcases(h)with(h | ⟨o,h⟩) | h
    ·exact .inl (.inl (e _ h))
    ·exact .inl (.inr ⟨o,e _ h⟩)
    ·exact .inr h
 | .ins C ns,⟨Ca,dx,fs,h1,h2,h3,h4,h5⟩=>exact⟨Ca,dx,fs,h1,h2,h3,e _ h4,h5⟩
 | .eW false ks,⟨kvs,h1,h2⟩=>exact⟨kvs,e _ h1,h2⟩
 | .eW true ks,⟨xs,h1,h2,h3⟩=>exact⟨xs,e _ h1,keys h2,h3⟩
mutual
theorem aZ.mono(e:Gr F F'):∀{p:PV} {v:V},aZ K F p v->aZ K F' p v
 | .aV,_,h=>by simpa only[aZ]using h
 | .bl _,_,h=>by simpa only[aZ]using h
 | .int _,_,h=>by simpa only[aZ]using h
 | .str _,_,h=>by simpa only[aZ]using h
 | .fn _,_,h=>by simpa only[aZ]using h
 | .ref n,_,h=>by
  simp only[aZ]at h ⊢;obtain⟨a,h1,h2⟩:=h;exact⟨a,e.m _ _ h1,h2⟩
 | .nd k ps,_,h=>by
  simp only[aZ]at h ⊢;obtain⟨a,vs,h1,h2,h3⟩:=h;exact⟨a,vs,h1,h2.to e.s (λo q=>e.s _ _ q) id,ao.mono e h3⟩
theorem ao.mono(e:Gr F F'):∀{ps:List PV} {vs:List V},ao K F ps vs->ao K F' ps vs
 | [],_,h=>by simpa only[ao]using h
 | _::_,_,h=>by
  simp only[ao]at h ⊢;obtain⟨v,r,h1,h2,h3⟩:=h;exact⟨v,r,h1,h2.mono e,ao.mono e h3⟩
end
def ao.bB(h:ao K F (p::ps) vs):∃v r,vs=v::r/\aZ K F p v/\ao K F ps r:=by
 simpa only[ao]using h
def ao.bL(h:ao K F [] vs):vs=[]:=by simpa only[ao]using h
theorem oT:∀{ps:List PV} {vs:List V},ao K F ps vs↔Paired (aZ K F) ps vs
 | [],vs=>⟨λh=>by rw[h.bL];exact .nil,λh=>by cases h;exact .nil⟩
 | p::ps,vs=>⟨λh=>by obtain⟨v,r,rfl,h1,h2⟩:=h.bB;exact .cons h1 (oT.mp h2),λh=>by cases h with | cons h1 h2=>exact .cons h1 (oT.mpr h2)⟩
def ao.length(h:ao K F ps vs):ps.length=vs.length:=iR (oT.mp h)
theorem ao.append:∀{ps qs:List PV} {vs ws:List V},ao K F ps vs->ao K F qs ws->ao K F (ps++qs) (vs++ws)
 | [],_,_,_,h,t=>by rw[h.bL];exact t
 | _::_,_,_,_,h,t=>by
  obtain⟨v,r,rfl,h1,h2⟩:=h.bB;exact .cons h1 (h2.append t)
theorem ao.get:∀{ps:List PV} {vs:List V} {i:Nat} {p:PV},ao K F ps vs->ps[i]?=some p->∃v,vs[i]?=some v/\aZ K F p v
 | [],_,_,_,_,e=>by cases e
 | _::_,_,0,_,h,e=>by
  obtain⟨v,r,rfl,h1,_⟩:=h.bB;cases e;exact⟨v,rfl,h1⟩
 | _::_,_,_+1,_,h,e=>by
  obtain⟨v,r,rfl,_,h2⟩:=h.bB;exact h2.get e
theorem ao.take:∀{ps:List PV} {vs:List V} (n:Nat),ao K F ps vs->ao K F (ps.take n) (vs.take n)
 | _,_,0,_=>by simp only[List.take_zero];exact .nil
 | [],_,_+1,h=>by rw[h.bL];simp only[List.take_nil];exact .nil
 | _::_,_,n+1,h=>by
  obtain⟨v,r,rfl,h1,h2⟩:=h.bB;exact .cons h1 (h2.take n)
theorem ao.drop:∀{ps:List PV} {vs:List V} (n:Nat),ao K F ps vs->ao K F (ps.drop n) (vs.drop n)
 | _,_,0,h=>h
 | [],_,_+1,h=>by rw[h.bL];simp only[List.drop_nil];exact .nil
 | _::_,_,n+1,h=>by
  obtain⟨v,r,rfl,_,h2⟩:=h.bB;exact h2.drop n
theorem ao.set(r:aZ K F p v):∀{ps:List PV} {vs:List V} (i:Nat),ao K F ps vs->ao K F (ps.set i p) (vs.set i v)
 | [],_,_,h=>by rw[h.bL];exact .nil
 | _::_,_,0,h=>by
  obtain⟨v,r',rfl,_,h2⟩:=h.bB;exact .cons r h2
 | _::_,_,i+1,h=>by
  obtain⟨v,r',rfl,h1,h2⟩:=h.bB;exact .cons h1 (h2.set r i)
theorem ao.reverse:∀{ps:List PV} {vs:List V},ao K F ps vs->ao K F ps.reverse vs.reverse
 | [],_,h=>by rw[h.bL];exact .nil
 | _::_,_,h=>by
  obtain⟨v,r,rfl,h1,h2⟩:=h.bB;rw[tu,tu];exact h2.reverse.append (.cons h1 .nil)
def dt:aZ K F (.ref n) v↔∃a,F.μ[n]?=some a/\v=.ref a:=by simp only[aZ]
def l7:aZ K F (.fn x) v↔∃a,v=.ref a/\W.nsIn K mainGlobals x=some (some (.ref a)):=by simp only[aZ]
def cP:aZ K F (.lst ps) v↔∃a vs,v=.ref a/\gE K F.F a vs/\ao K F ps vs:=hJ
end
structure ai where
 k:Kd
 ps:List PV
structure bX where
 ρ:List (Option PV)
 h:List ai
noncomputable def live(c:ai):Bool:=match c.k with | .aj=>false | _=>true
structure jY (K:W.Frag) (aa:Hp) (ab F:Fz) (h:List ai) (H:Hp):Prop where
 sub:b8 F.F H
 keep:b8 aa H
 base:Gr ab F
 fresh:∀a o,F.F a=some o->ab.F a=some o\/aa a=none
 new:∀(n:Nat) (a:Addr),F.μ[n]?=some a->aa a=none/\∃o,H a=some o
 hl:h.length=F.μ.length
 nd:F.μ.Nodup
 cell:∀(n:Nat) (c:ai) (a:Addr),h[n]?=some c->F.μ[n]?=some a->live c=true->F.F a=none/\∃vs,jW K F.F H a true c.k vs/\ao K F c.ps vs
structure Lc (K:W.Frag) (F:Fz) (ρ:List (Option PV)) (σ:St):Prop where
 av:∀(i:Nat) (p:PV),ρ[i]?=some (some p)->∃v,σ[i]?=some (some v)/\aZ K F p v
 len:ρ.length=σ.length
structure Rep (K:W.Frag) (aa:Hp) (ab F:Fz) (st:bX) (σ:St) (H:Hp):Prop where
 c:jY K aa ab F st.h H
 l:Lc K F st.ρ σ
def dA(h:H p=none):b8 H (cj H p o):=λb u q=>by rw[aH (cO q h)];exact q
section
variable {K:W.Frag} {aa H H':Hp} {ab F F':Fz} {h:List ai} {st:bX} {σ:St}
def Lc.mono(L:Lc K F ρ σ)(e:Gr F F'):Lc K F' ρ σ:=⟨λi p z=>let ⟨v,h1,h2⟩:=L.av i p z;⟨v,h1,h2.mono e⟩,L.len⟩
def jY.after(R:jY K aa ab F h H)(e:b8 H H')(f:b8 F.F F'.F)(m:F'.μ=F.μ)(s:b8 F'.F H')(n:∀a o,F'.F a=some o->F.F a=some o\/H a=none):jY K aa ab F' h H' where
 sub:=s
 keep:=R.keep.trans e
 base:=R.base.trans ⟨f,λ_ _ q=>by rw[m];exact q⟩
 fresh:=λa o q=>by
  rcases n a o q with z | z
  ·exact R.fresh a o z
  ·exact .inr (R.keep.free z)
 new:=λn a q=>by rw[m]at q;obtain⟨h1,o,h2⟩:=R.new n a q;exact⟨h1,o,e _ _ h2⟩
 hl:=by rw[m];exact R.hl
 nd:=by rw[m];exact R.nd
 cell:=λi c a hc ha hk=>by
  rw[m]at ha;obtain⟨h1,vs,h2,h3⟩:=R.cell i c a hc ha hk;refine⟨?_,vs,h2.to f (λo q=>e _ _ q) id,h3.mono ⟨f,λ_ _ q=>by rw[m];exact q⟩⟩
  obtain⟨_,o,ho⟩:=R.new i a ha;cases q:F'.F a with
  | none=>rfl
  | some u =>
   rcases n a u q with z | z
   ·rw[h1]at z;cases z
   ·rw[ho]at z;cases z
def Rep.after(R:Rep K aa ab F st σ H)(e:b8 H H')(f:b8 F.F F'.F)(m:F'.μ=F.μ)(s:b8 F'.F H')(n:∀a o,F'.F a=some o->F.F a=some o\/H a=none):Rep K aa ab F' st σ H' :=
 ⟨R.c.after e f m s n,R.l.mono ⟨f,λ_ _ q=>by grind⟩⟩
def Rep.sub(R:Rep K aa ab F st σ H):b8 F.F H:=R.c.sub
def Rep.laid(R:Rep K aa ab F st σ H)(o:HO)(hp:H p=none):Rep K aa ab ⟨cj F.F p o,F.μ⟩ st σ (cj H p o)/\Gr F ⟨cj F.F p o,F.μ⟩:=by
 have fp:=R.sub.free hp;refine⟨R.after (dA hp) (dA fp) rfl (λb u q=>?_) (λb u q=>?_),dA fp,λ_ _ q=>q⟩
 ·by_cases hb:b=p
  ·subst hb;rw[show(Fz.mk (cj F.F b o) F.μ).F b=cj F.F b o b from rfl,ar]at q;rw[ar];exact q
  ·rw[show(Fz.mk (cj F.F p o) F.μ).F b=cj F.F p o b from rfl,aH hb]at q;rw[aH hb];exact R.sub _ _ q
 ·by_cases hb:b=p
  ·grind
  ·rw[show(Fz.mk (cj F.F p o) F.μ).F b=cj F.F p o b from rfl,aH hb]at q;exact .inl q
def jY.alloc(R:jY K aa ab F h H)(hp:H p=none)(hn:jW K F.F (cj H p o) p true c.k vs)(hb:ao K F c.ps vs) :
  jY K aa ab ⟨F.F,F.μ++[p]⟩ (h++[c]) (cj H p o)/\Gr F ⟨F.F,F.μ++[p]⟩/\(F.μ++[p])[h.length]?=some p:=by
 have g:Gr F ⟨F.F,F.μ++[p]⟩:=⟨b8.refl _,λn a q=>by
  grind⟩
 have Yp:∀n a,(F.μ++[p])[n]?=some a->F.μ[n]?=some a\/n=F.μ.length/\a=p:=λn a q=>by
  grind
 have no:∀n a,F.μ[n]?=some a->a≠p:=λn a q z=>by
  subst z;obtain⟨_,o,ho⟩:=R.new n a q;rw[hp]at ho;cases ho
 refine⟨⟨λb u q=>by rw[aH (cO (R.sub _ _ q) hp)];exact R.sub _ _ q,R.keep.trans (dA hp),R.base.trans g,R.fresh,λn a q=>?_,by simp[R.hl],?_,λn d a hd ha hk=>?_⟩,g,by rw[R.hl];simp⟩
 ·rcases Yp n a q with z | ⟨_,rfl⟩
  ·obtain⟨h1,u,h2⟩:=R.new n a z;exact⟨h1,u,dA hp _ _ h2⟩
  ·exact⟨R.keep.free hp,o,ar⟩
 ·rw[yp];refine⟨R.nd,by simp,λa ha b hb z=>?_⟩
  obtain⟨n,hn⟩:=lG.mp ha;rw[bF]at hb;exact no n a hn (z.trans hb)
 ·rcases Yp n a ha with z | ⟨rfl,rfl⟩
  ·rw[nV (by rw[R.hl];exact(b9.mp z).1)]at hd
   obtain⟨h1,ws,h2,h3⟩:=R.cell n d a hd z hk;exact⟨h1,ws,h2.to (b8.refl _) (λu q=>dA hp _ _ q) id,h3.mono g⟩
  ·rw[<-R.hl,DZ (aq _),Nat.sub_self]at hd;cases hd;exact⟨R.sub.free hp,vs,hn,hb.mono g⟩
def jY.write(R:jY K aa ab F h H)(hc:h[n]?=some c)(hl:live c=true)(ha:F.μ[n]?=some a)(hn:jW K F.F (cj H a o) a true d.k vs)(hb:ao K F d.ps vs) :
  jY K aa ab F (h.set n d) (cj H a o):=by
 obtain⟨hF,_⟩:=R.cell n c a hc ha hl;refine⟨λb u q=>by rw[aH (λz=>by grind)];exact R.sub _ _ q,λb u q=>?_,R.base,R.fresh,λm b q=>?_,by rw[tM];exact R.hl,R.nd,λm e b he jj hk=>?_⟩
 ·rw[aH (λz=>by subst z;rw[(R.new n b ha).1]at q;cases q)];exact R.keep _ _ q
 ·obtain⟨h1,u,h2⟩:=R.new m b q;refine⟨h1,?_⟩;by_cases hb:b=a
  ·subst hb;exact⟨o,ar⟩
  ·exact⟨u,by rw[aH hb];exact h2⟩
 ·by_cases hm:n=m
  ·grind
  ·rw[jJ hm]at he;obtain⟨h1,ws,h2,h3⟩:=R.cell m e b he jj hk;have ne:b≠a:=λz=>by
    subst z;obtain⟨l1,e1⟩:=b9.mp jj;obtain⟨l2,e2⟩:=b9.mp ha;exact hm ((List.getElem_inj R.nd).mp (e2.trans e1.symm))
   exact⟨h1,ws,h2.to (b8.refl _) (λu q=>by rw[aH ne];exact q) id,h3⟩
end
def _root_.L2.PE.imp(h:PE X e t)(hi:∀σ H Q,t' σ H Q->t σ H Q):PE X e t':=λae s σ H Q I hw=>h ae s σ H Q I (hi _ _ _ hw)
def _root_.L2.PT.imp(h:PT X e t)(hi:∀σ H Q,t' σ H Q->t σ H Q):PT X e t':=λae s σ H Q I hw=>h ae s σ H Q I (hi _ _ _ hw)
def _root_.L2.PW.imp(h:PW X e t)(hi:∀σ H Q,t' σ H Q->t σ H Q):PW X e t':=λw ae s σ H Q I hw=>h w ae s σ H Q I (hi _ _ _ hw)
def _root_.L2.PA.imp(h:PA X e t)(hi:∀σ H Q,t' σ H Q->t σ H Q):PA X e t':=λpos ae s σ H Q I hw=>h pos ae s σ H Q I (hi _ _ _ hw)
def _root_.L2.PS.imp{st:Stmt}(h:PS X st t)(hi:∀D σ H,t' D σ H->t D σ H):PS X st t':=λae s σ H D I hw=>h ae s σ H D I (hi _ _ _ hw)
def _root_.L2.PSs.imp{st:List Stmt}(h:PSs X st t)(hi:∀D σ H,t' D σ H->t D σ H):PSs X st t':=λae s σ H D I hw=>h ae s σ H D I (hi _ _ _ hw)
def _root_.L2.PG.imp(h:PG X e t)(hi:∀v σ H Q,t' v σ H Q->t v σ H Q):PG X e t':=λae s σ H v u Q I r hw=>h ae s σ H v u Q I r (hi _ _ _ _ hw)
def _root_.L2.PGs.imp(h:PGs X e t)(hi:∀v σ H Q,t' v σ H Q->t v σ H Q):PGs X e t':=λae s σ H v u Q I r hw=>h ae s σ H v u Q I r (hi _ _ _ _ hw)
def _root_.L2.PI.imp(h:PI X tg e t)(hi:∀σ H Q,t' σ H Q->t σ H Q):PI X tg e t':=λae s σ H R I hw=>h ae s σ H R I (hi _ _ _ hw)
inductive Rs (α:Type) where
 | ok (a:α) | ex (m:Bool) (C:Str)
abbrev Gx(α:Type):=bX->Option (Rs α×bX)
noncomputable def Nb{α β:Type}(k:α->Gx β):Rs α×bX->Option (Rs β×bX)
 | (.ok a,st)=>k a st
 | (.ex m C,st)=>some (.ex m C,st)
def bnd{α β:Type}(f:Gx α)(k:α->Gx β):Gx β:=λst=>(f st).bind (Nb k)
noncomputable def bT{α:Type}(a:α):Gx α:=λst=>some (.ok a,st)
noncomputable def hp{α:Type}(g:List ai->Option α):Gx α:=λst=>(g st.h).map λa=>(.ok a,st)
noncomputable def fD{α:Type}(o:Option α):Gx α:=λst=>o.map λa=>(.ok a,st)
def Dm(H H':Hp):Prop:=∀b o,H b=some o->∃o',H' b=some o'
def ku(P:Program)(w:World):D1:=λaB H s E e s'=>∃a cls a0 B H',e=.ref a/\s'.os=s.os/\AllBare s'.gens/\Un (kA aB) [] H H' s.heap s'.heap/\kq P w H' s'.heap/\Dm H H'/\E cls none H' /\
 Heap.FlyingW B aB a cls a0 s'.heap/\(∀b o,H' b=some o->∃ob,B.get? b=some ob)/\∀b ob,s.heap.get? b=some ob->H b=none->b∉kA aB->B.get? b=some ob
def EY:yX (ku P w) X E0:=(by rintro _ _ _ _ _ _ _ ⟨_,_,_,_,_,_,_,_,_,_,_,h,_⟩;exact h.elim)
def EZ(X:Cx)(aa:Hp)(ab F:Fz)(C:Str)(st:bX):Bool->Prop
 | true=>∀F' bu H' ae s h1 a cls vs,Rep X.K aa ab F' st bu H'->Gr F F'->Inv X ae bu H' s->ClsAt X.K C cls->Heap.MadeExcOf s.heap h1 a cls vs->X.xe (.ref a) {s with heap:=h1}
 | false=>∀bu ae H1 s1 e s',Inv X ae bu H1 s1->ku X.prog X.w X.stack H1 s1 (λcls _ H2=>ClsAt X.K C cls/\∃F',Rep X.K aa ab F' st bu H2/\Gr F F') e s'->X.xe e s'
section
variable {X:Cx} {aa H:Hp} {ab F F1:Fz} {st aI:bX} {σ:St} {α β γ δ:Type}
def EZ.mono(h:EZ X aa ab F C st m)(s:Gr F F1):EZ X aa ab F1 C st m:=by
 cases m with
 | true=>exact λF' bu H' ae s1 h1 a cls vs R z=>h F' bu H' ae s1 h1 a cls vs R (s.trans z)
 | false =>
  rintro bu ae H1 s1 e s' I ⟨a,cls,a0,B,H',h1,h2,h3,h4,h5,h6,⟨c,F',R,z⟩,h8⟩
  exact h bu ae H1 s1 e s' I ⟨a,cls,a0,B,H',h1,h2,h3,h4,h5,h6,⟨c,F',R,s.trans z⟩,h8⟩
def E2(X:Cx)(aa:Hp)(ab F:Fz)(P:α->bX->Prop):Rs α×bX->Prop
 | (.ok a,st)=>P a st
 | (.ex m C,st)=>EZ X aa ab F C st m
def At(X:Cx)(aa:Hp)(ab F:Fz)(st:bX)(f:Gx α)(P:α->bX->Prop):Prop:=∃r,f st=some r/\E2 X aa ab F P r
def E2.imp(h:E2 X aa ab F P r)(g:Gr F F1)(i:∀a bK,P a bK->P' a bK):E2 X aa ab F1 P' r:=by
 match r,h with
 | (.ok a,st),h=>exact i a st h
 | (.ex m C,st),h=>exact EZ.mono h g
def At.imp(h:At X aa ab F st f P)(g:Gr F F1)(i:∀a bK,P a bK->P' a bK):At X aa ab F1 st f P' :=
 let ⟨r,h1,h2⟩:=h;⟨r,h1,h2.imp g i⟩
def aF(h:o.bind f=some b):∃a,o=some a/\f a=some b:=by
 cases o with
 | none=>cases h
 | some a=>exact⟨a,rfl,h⟩
def aL(h:o.map f=some b):∃a,o=some a/\f a=b:=by
 simp_all
def At.bnd(h:At X aa ab F st (bnd f k) P):At X aa ab F st f (λa aI=>At X aa ab F aI (k a) P):=by
 obtain⟨r,h1,h2⟩:=h;obtain⟨q,e1,e2⟩:=aF h1;refine⟨q,e1,?_⟩
 match q,e2 with
 | (.ok a,s1),e2=>exact⟨r,e2,h2⟩
 | (.ex m C,s1),e2=>cases e2;exact h2
def At.bT(h:At X aa ab F st (bT a) P):P a st:=by
 obtain⟨r,h1,h2⟩:=h;cases h1;exact h2
def At.hp(h:At X aa ab F st (hp g) P):∃a,g st.h=some a/\P a st:=by
 obtain⟨r,h1,h2⟩:=h;obtain⟨a,e1,e2⟩:=aL h1;subst e2;exact⟨a,e1,h2⟩
def At.fD(h:At X aa ab F st (fD g) P):∃a,g=some a/\P a st:=by
 obtain⟨r,h1,h2⟩:=h;obtain⟨a,e1,e2⟩:=aL h1;subst e2;exact⟨a,e1,h2⟩
def Tx(X:Cx)(aa:Hp)(ab:Fz)(rl:Fz->α->β->Prop)(F:Fz)(st:bX)(f:Gx α)(σ:St)(Q:β->Hp->Prop):Prop :=
 At X aa ab F st f λa bK=>∀b H' F',Rep X.K aa ab F' bK σ H'->Gr F F'->rl F' a b->Q b H'
def tX(X:Cx)(aa:Hp)(ab:Fz)(rl:Fz->α->β->Prop)(f:Gx α):St->Hp->(β->Hp->Prop)->Prop:=λσ H Q=>∃F st,Rep X.K aa ab F st σ H/\Tx X aa ab rl F st f σ Q
def Tx.mono(h:Tx X aa ab rl F st f σ Q)(g:Gr F F1)(i:∀b H',Q b H'->Q' b H'):Tx X aa ab rl F1 st f σ Q' :=
 At.imp h g λa bK q b H' F' R s r=>i _ _ (q b H' F' R (g.trans s) r)
def Tx.bnd(h:Tx X aa ab rl' F st (bnd f k) σ Q)
  (i:∀a b F1 aI H1,Rep X.K aa ab F1 aI σ H1->Gr F F1->rl F1 a b->Tx X aa ab rl' F1 aI (k a) σ Q->Q' b H1):Tx X aa ab rl F st f σ Q' :=
 At.imp (At.bnd h) (Gr.refl F) λa aI q b H1 F1 R1 g1 r1=>i a b F1 aI H1 R1 g1 r1 (Tx.mono (q) g1 λ_ _ z=>z)
def Tx.bT(h:Tx X aa ab rl F st (bT a) σ Q):∀b H' F',Rep X.K aa ab F' st σ H'->Gr F F'->rl F' a b->Q b H':=At.bT h
def Tx.hp(h:Tx X aa ab rl F st (hp g) σ Q):∃a,g st.h=some a/\∀b H' F',Rep X.K aa ab F' st σ H'->Gr F F'->rl F' a b->Q b H':=At.hp h
def Tx.fD(h:Tx X aa ab rl F st (fD g) σ Q):∃a,g=some a/\∀b H' F',Rep X.K aa ab F' st σ H'->Gr F F'->rl F' a b->Q b H':=At.fD h
end
abbrev rB:Fz->Bool->Bool->Prop:=λ_ a b=>a=b
abbrev tE(X:Cx)(aa:Hp)(ab:Fz)(f:Gx PV):TE:=tX X aa ab (aZ X.K) f
abbrev tT(X:Cx)(aa:Hp)(ab:Fz)(f:Gx Bool):TT:=tX X aa ab rB f
abbrev tA(X:Cx)(aa:Hp)(ab:Fz)(f:Gx (List PV)):TA:=tX X aa ab (ao X.K) f
section
variable {X:Cx} {aa:Hp} {ab:Fz} {a b c e:Expr} {es rest:List Expr} {fa fb fc:Gx PV} {ga gb:Gx Bool} {ts:Gx (List PV)} {pos:Pos}
noncomputable def rd(i:Nat):Gx PV:=λst=>(st.ρ[i]?).join.map λp=>(.ok p,st)
def Ls(i:Nat)(h:PE X (.Name x pos) (Ms i)):PE X (.Name x pos) (tE X aa ab (rd i)):=h.imp <| by
 rintro σ H Q ⟨F,st,R,r,h1,h2⟩
 obtain⟨p,e1,e2⟩:=aL h1;subst e2;cases z:st.ρ[i]? with
 | none=>rw[z]at e1;cases e1
 | some o =>
  rw[z]at e1;cases o with
  | none=>cases e1
  | some p' =>
   cases e1;obtain⟨v,h3,h4⟩:=R.l.av i p z;exact⟨v,h3,h2 v H F R (Gr.refl F) h4⟩
def vQ(h:PE X e (tC v))(hb:∀F,aZ X.K F p v):PE X e (tE X aa ab (bT p)):=h.imp (by rintro σ H Q ⟨F,st,R,q⟩;exact q.bT v H F R (Gr.refl F) (hb F))
def Rq{j pos}:PE X (.Constant (.int i) j pos) (tE X aa ab (bT (.int i))):=vQ Mt λ_=>au.mpr rfl
def V0{j pos}:PE X (.Constant (.bool i) j pos) (tE X aa ab (bT (.bl i))):=vQ QE λ_=>aS.mpr rfl
def Rt{j pos}:PE X (.Constant .none j pos) (tE X aa ab (bT .aV)):=vQ Mu λ_=>cG.mpr rfl
def Ru{j pos}:PE X (.Constant (.str i) j pos) (tE X aa ab (bT (.str i))):=vQ Mv λ_=>bj.mpr rfl
abbrev G2:=List ai->PV->PV->Option PV
def rT(K:W.Frag)(g:G2):R2:=λx y H Q=>∃aa ab F st τ pa pb p,g st.h pa pb=some p/\Rep K aa ab F st τ H/\aZ K F pa x/\aZ K F pb y/\∀v H' F',Rep K aa ab F' st τ H'->Gr F F'->aZ K F' p v->Q v H'
abbrev qr(X:Cx)(f:Value->Value->Sem Value)(g:G2):Prop:=OpR X f (rT X.K g)
def op2(g:G2)(fa fb:Gx PV):Gx PV:=bnd fa λx=>bnd fb λy=>hp λh=>g h x y
def nG(h:tE X aa ab (op2 g fa fb) σ H Q):MK (rT X.K g) (tE X aa ab fa) (tE X aa ab fb) σ H Q:=by
 obtain⟨F,st,R,h⟩:=h;refine⟨F,st,R,h.bnd λp v F1 aI H1 R1 g1 b1 h1=>⟨F1,aI,R1,h1.bnd λq w F2 dF H2 R2 g2 b2 h2=>?_⟩⟩
 obtain⟨o,e,z⟩:=h2.hp;exact⟨aa,ab,F2,dF,σ,p,q,o,e,R2,b1.mono g2,b2,z⟩
def V1(ho:qr X (binaryOp op) g)(ha:PE X a (tE X aa ab fa))(hb:PE X b (tE X aa ab fb)):PE X (.BinOp a op b pos) (tE X aa ab (op2 g fa fb)):=(Ll ho ha hb).imp λ_ _ _ h=>nG h
def Rv(ho:qr X (compareOp op) g)(ha:PE X a (tE X aa ab fa))(hb:PE X b (tE X aa ab fb))(hm:behindInMarks op b=false):PE X (.Compare a [op] [b] pos) (tE X aa ab (op2 g fa fb)):=(AF ho ha hb hm).imp λ_ _ _ h=>nG h
noncomputable def vR:PV->Option Bool | .bl b=>some b | _=>none
def jZ{b:Bool}(h:vR p=some b):p=.bl b:=by
 cases p<;>first | (cases h;rfl) | cases h
def toB(f:Gx PV):Gx Bool:=bnd f λp=>fD (vR p)
def toB_imp(h:tT X aa ab (toB fa) σ H Q):tE X aa ab fa σ H λv H1=>∃k,v=.bl k/\Q k H1:=by
 obtain⟨F,st,R,h⟩:=h;refine⟨F,st,R,h.bnd λp v F1 aI H1 R1 g1 b1 h1=>?_⟩
 obtain⟨k,e,z⟩:=h1.fD;rw[jZ e]at b1;exact⟨k,aS.mp b1,z k H1 F1 R1 (Gr.refl _) rfl⟩
def Rx(ho:qr X (compareOp op) g)(ha:PE X a (tE X aa ab fa))(hb:PE X b (tE X aa ab fb))(hm:behindInMarks op b=false):PT X (.Compare a [op] [b] pos) (tT X aa ab (toB (op2 g fa fb))) :=
 (AG ho ha hb hm).imp λ_ _ _ h=>nG (toB_imp h)
def chain(g g':G2)(fa fb fc:Gx PV):Gx PV:=bnd fa λx=>bnd fb λy=>bnd (hp λh=>(g h x y).bind vR) λk=>if k=true then bnd fc λz=>hp λh=>g' h y z else bT (.bl false)
def rJ(h:tE X aa ab (chain g g' fa fb fc) σ H Q):yQ (rT X.K g) (rT X.K g') (tE X aa ab fa) (tE X aa ab fb) (tE X aa ab fc) σ H Q:=by
 obtain⟨F,st,R,h⟩:=h;refine⟨F,st,R,h.bnd λp v F1 aI H1 R1 g1 b1 h1=>⟨F1,aI,R1,h1.bnd λq w F2 dF H2 R2 g2 b2 h2=>?_⟩⟩
 obtain⟨k,e,z⟩:=At.hp (At.bnd h2);obtain⟨o,e1,e2⟩:=aF e;rw[jZ e2]at e1;refine⟨aa,ab,F2,dF,σ,p,q,_,e1,R2,b1.mono g2,b2,λu H3 F3 R3 g3 b3=>⟨k,aS.mp b3,?_⟩⟩
 cases k with
 | true =>
  have z:Tx X aa ab (aZ X.K) F2 dF (bnd fc λz=>hp λh=>g' h q z) σ Q:=z
  refine⟨F3,dF,R3,(z.mono g3 λ_ _ y=>y).bnd λt o F4 HU H4 R4 g4 b4 h4=>?_⟩
  obtain⟨o,e,z⟩:=h4.hp;exact⟨aa,ab,F4,HU,σ,q,t,o,e,R4,b2.mono (g3.trans g4),b4,z⟩
 | false=>exact Tx.bT z _ H3 F3 R3 g3 (aS.mpr rfl)
def Jk(ho:qr X (compareOp op) g)(oH:qr X (compareOp vn) g')(ha:PE X a (tE X aa ab fa))(hb:PE X b (tE X aa ab fb))(hc:PE X c (tE X aa ab fc))
  (hm:lastMarks [op,vn] [b,c]=false):PE X (.Compare a [op,vn] [b,c] pos) (tE X aa ab (chain g g' fa fb fc)):=(EE ho oH ha hb hc hm).imp λ_ _ _ h=>rJ h
end
def dv(h:List ai):PV->Option (Kd×List PV)
 | .nd k ps=>some (k,ps)
 | .ref n=>(h[n]?).bind λc=>if live c=true then some (c.k,c.ps)else none
 | _=>none
def bE{α:Type}{c:Prop} [Decidable c] {x:Option α} {y:α} (h:(if c then x else none)=some y):c/\x=some y:=by
 grind
def aw{α:Type}{c:Prop} [Decidable c] {x y:α} (h:(if c then some x else none)=some y):c/\x=y:=by
 grind
section
variable {K:W.Frag} {aa H:Hp} {ab F:Fz} {st:bX} {σ:St}
def Rep.at(R:Rep K aa ab F st σ H){p:PV}{k:Kd}{ps:List PV}{v:V}(e:dv st.h p=some (k,ps))(b:aZ K F p v):∃a vs,v=.ref a/\jW K F.F H a false k vs/\ao K F ps vs:=by
 cases p with
 | nd k' vo =>
  cases e;obtain⟨a,vs,h1,h2,h3⟩:=hJ.mp b;exact⟨a,vs,h1,h2.to (b8.refl _) (λo q=>R.sub _ _ q) id,h3⟩
 | ref n =>
  obtain⟨c,e1,e2⟩:=aF e;obtain⟨hl,e3⟩:=aw e2;cases e3;obtain⟨a,h1,h2⟩:=dt.mp b;obtain⟨_,vs,h3,h4⟩:=R.c.cell n c a e1 h1 hl;exact⟨a,vs,h2,h3.to (b8.refl _) (λo q=>q) (λz=>by cases z),h4⟩
 | _=>cases e
def E3(h:List ai)(p:PV):Option (List PV):=match dv h p with
 | some (.aj,ps)=>some ps
 | some (.lst,ps)=>some ps
 | _=>none
def Rep.seq(R:Rep K aa ab F st σ H){p:PV}{ps:List PV}{v:V}(e:E3 st.h p=some ps)(b:aZ K F p v):∃a vs,v=.ref a/\(fx K H a vs\/gE K H a vs)/\ao K F ps vs:=by
 unfold E3 at e;split at e
 ·rename_i z;cases e;obtain⟨a,vs,h1,h2,h3⟩:=R.at z b;exact⟨a,vs,h1,.inl h2.2,h3⟩
 ·rename_i z;cases e;obtain⟨a,vs,h1,h2,h3⟩:=R.at z b;exact⟨a,vs,h1,.inr h2,h3⟩
 ·cases e
def Ci(h:List ai):PV->Option Bool
 | .aV=>some false
 | .bl b=>some b
 | .int i=>some (i != 0)
 | p=>match dv h p with
  | some (.aj,ps)=>some !ps.isEmpty
  | some (.lst,ps)=>some !ps.isEmpty
  | some (.eW false _,ps)=>some !ps.isEmpty
  | _=>none
def oU{ps:List PV}{vs:List V}(h:ao K F ps vs):ps.isEmpty=vs.isEmpty:=by
 cases ps with
 | nil=>rw[h.bL];rfl
 | cons p ps=>obtain⟨v,r,rfl,_,_⟩:=h.bB;rfl
def Rep.Yq(R:Rep K aa ab F st σ H){p:PV}{k:Bool}{v:V}(e:Ci st.h p=some k)(b:aZ K F p v):IQ K v H k:=by
 have more:(match dv st.h p with
  | some (.aj,ps)=>some !ps.isEmpty
  | some (.lst,ps)=>some !ps.isEmpty
  | some (.eW false _,ps)=>some !ps.isEmpty
  | _=>none)=some k->IQ K v H k:=λe=>by
  split at e
  ·rename_i z;cases e;obtain⟨a,vs,rfl,h2,h3⟩:=R.at z b;exact .inr (.inl ⟨vs,h2.2,by rw[oU h3]⟩)
  ·rename_i z;cases e;obtain⟨a,vs,rfl,h2,h3⟩:=R.at z b;exact .inl ⟨vs,gE.sq h2,by rw[oU h3]⟩
  ·rename_i z;cases e;obtain⟨a,vs,rfl,⟨kvs,h2,_,h4⟩,h3⟩:=R.at z b;refine .inr (.inr ⟨kvs,h2,?_⟩);rw[oU h3,<-h4,lO]
  ·cases e
 cases p with
 | aV=>rw[cG.mp b];exact(bG e).symm
 | bl c=>rw[aS.mp b];exact(bG e).symm
 | int i=>rw[au.mp b];exact(bG e).symm
 | str x=>exact more e
 | ref n=>exact more e
 | fn x=>exact more e
 | nd k ps=>exact more e
end
section
variable {X:Cx} {aa:Hp} {ab:Fz} {a b c e:Expr} {es rest:List Expr} {fa fb fc:Gx PV} {ga gb:Gx Bool} {ts:Gx (List PV)} {pos:Pos}
def vS(f:Gx PV):Gx Bool:=bnd f λp=>hp λh=>Ci h p
def Ry(h:PE X e (tE X aa ab fa))(he:∀iu,isTrue e X.env iu=(do let v <-iu;standAt e.pos;holding [v] (truthy v))):PT X e (tT X aa ab (vS fa)) :=
 (EH h he).imp λσ H Q ⟨F,st,R,h⟩=>⟨F,st,R,h.bnd λp v F1 aI H1 R1 g1 b1 h1=>by
  obtain⟨k,e,z⟩:=h1.hp;exact⟨k,R1.Yq e b1,z k H1 F1 R1 (Gr.refl _) rfl⟩⟩
def Jl{op vn:CmpOp}{g g':G2}(ho:qr X (compareOp op) g)(oH:qr X (compareOp vn) g')(ha:PE X a (tE X aa ab fa))(hb:PE X b (tE X aa ab fb))(hc:PE X c (tE X aa ab fc))
  (hm:lastMarks [op,vn] [b,c]=false):PT X (.Compare a [op,vn] [b,c] pos) (tT X aa ab (toB (chain g g' fa fb fc))):=(EF ho oH ha hb hc hm).imp λ_ _ _ h=>rJ (toB_imp h)
def iX{α:Type}(gc:Gx Bool)(f g:Gx α):Gx α:=bnd gc λx=>if x=true then f else g
def um{α β:Type}{rl:Fz->α->β->Prop}{f g:Gx α}{σ:St}{H:Hp}{Q:β->Hp->Prop}(h:tX X aa ab rl (iX ga f g) σ H Q):tT X aa ab ga σ H λc H1=>if c=true then tX X aa ab rl f σ H1 Q else tX X aa ab rl g σ H1 Q:=by
 obtain⟨F,st,R,h⟩:=h;refine⟨F,st,R,h.bnd λx y F1 aI H1 R1 g1 b1 h1=>?_⟩
 cases b1;cases x with
 | true=>exact⟨F1,aI,R1,h1⟩
 | false=>exact⟨F1,aI,R1,h1⟩
def uo{α β:Type}{rl:Fz->α->β->Prop}{a:α}{b:β}{σ:St}{H:Hp}{Q:β->Hp->Prop}(h:tX X aa ab rl (bT a) σ H Q)(hb:∀F,rl F a b):Q b H:=by
 obtain⟨F,st,R,h⟩:=h;exact h.bT b H F R (Gr.refl _) (hb F)
def vT{P P' Q Q':Prop}{c:Bool}(h:if c=true then P else Q)(h1:P->P')(h2:Q->Q'):if c=true then P' else Q':=by
 grind
def AR{α β:Type}{rl:Fz->α->β->Prop}{f:Gx α}{σ:St}{H:Hp}{Q Q':β->Hp->Prop}(h:tX X aa ab rl f σ H Q)(i:∀b H',Q b H'->Q' b H'):tX X aa ab rl f σ H Q':=let ⟨F,st,R,h⟩:=h;⟨F,st,R,h.mono (Gr.refl _) i⟩
def Rz(ha:PT X a (tT X aa ab ga))(hb:PW X (.BoolOp .And (b::rest) pos) (tT X aa ab gb)):PW X (.BoolOp .And (a::b::rest) pos) (tT X aa ab (iX ga gb (bT false))) :=
 (Mx ha hb).imp λσ H Q h=>AR (um h) λ_ _ z=>vT z id λz=>uo z λ_=>rfl
def V2(ha:PT X a (tT X aa ab ga))(hb:PW X (.BoolOp .Or (b::rest) pos) (tT X aa ab gb)):PW X (.BoolOp .Or (a::b::rest) pos) (tT X aa ab (iX ga (bT true) gb)) :=
 (QF ha hb).imp λσ H Q h=>AR (um h) λ_ _ z=>vT z (λz=>uo z λ_=>rfl) id
def zd(f:Gx Bool):Gx Bool:=bnd f λx=>bT !x
def RA(ha:PT X a (tT X aa ab ga)):PT X (.UnaryOp .Not a pos) (tT X aa ab (zd ga)):=(My ha).imp λσ H Q ⟨F,st,R,h⟩=>⟨F,st,R,h.bnd λx y F1 aI H1 R1 g1 b1 h1=>by
 cases b1;exact h1.bT _ H1 F1 R1 (Gr.refl _) rfl⟩
def Nc(fa fb:Gx PV):Gx PV:=bnd fa λx=>bnd (hp λh=>Ci h x) λk=>if k=true then fb else bT x
def UJ(fa fb:Gx PV):Gx PV:=bnd fa λx=>bnd (hp λh=>Ci h x) λk=>if k=true then bT x else fb
def E4{f g:PV->Gx PV}{ae:List (Addr×Obj)}{s:Shared}{σ:St}{H:Hp}{Q:VK}(ha:PE X a (tE X aa ab fa))(I:Inv X ae σ H s)
  (h:tE X aa ab (bnd fa λx=>bnd (hp λh=>Ci h x) λk=>if k=true then f x else g x) σ H Q) :
  wpAny (model X.prog X.w) X.A (eval a X.env) (λv s1=>wpAny (model X.prog X.w) X.A (truthy v) (λk s2=>∃p xv F1 aI H1,Inv X ae σ H1 s2/\RelV xv v/\Rep X.K aa ab F1 aI σ H1/\aZ X.K F1 p xv/\Tx X aa ab (aZ X.K) F1 aI (if k=true then f p else g p) σ Q) X.xe s1) X.xe s:=by
 obtain⟨F,st,R,h⟩:=h;refine thn (ha ae s σ H (λv H1=>∃F1 aI p,Rep X.K aa ab F1 aI σ H1/\aZ X.K F1 p v/\Tx X aa ab (aZ X.K) F1 aI (bnd (hp λh=>Ci h p) λk=>if k=true then f p else g p) σ Q) I
  ⟨F,st,R,h.bnd λp v F1 aI H1 R1 g1 b1 h1=>⟨F1,aI,p,R1,b1,h1⟩⟩) λv s1 ⟨xv,H1,I1,r1,F1,aI,p,R1,b1,h1⟩=>?_
 obtain⟨k,e,z⟩:=At.hp (At.bnd h1);exact thn (EG ae s1 σ H1 xv v (λk' H'=>k'=k/\H'=H1) I1 r1 ⟨k,R1.Yq e b1,rfl,rfl⟩) <| by
  rintro c s2 ⟨H2,I2,ec,eh⟩
  subst ec eh;exact⟨p,xv,F1,aI,H2,I2,r1,R1,b1,z⟩
def V3(ha:PE X a (tE X aa ab fa))(hb:PE X (.BoolOp .Or (b::rest) pos) (tE X aa ab fb)):PE X (.BoolOp .Or (a::b::rest) pos) (tE X aa ab (UJ fa fb)):=λae s σ H Q I h =>
 BoolOp_or (thn (E4 ha I h) λv s1 z=>thn z <| by
  rintro k s2 ⟨p,xv,F1,aI,H1,I1,r1,R1,b1,z⟩
  cases k with
  | true=>exact⟨xv,H1,I1,r1,Tx.bT (z) _ H1 F1 R1 (Gr.refl _) b1⟩
  | false=>exact hb ae s2 σ H1 Q I1 ⟨F1,aI,R1,z⟩)
def RB(ha:PE X a (tE X aa ab fa))(hb:PE X (.BoolOp .And (b::rest) pos) (tE X aa ab fb)):PE X (.BoolOp .And (a::b::rest) pos) (tE X aa ab (Nc fa fb)):=λae s σ H Q I h =>
 BoolOp_and (thn (E4 ha I h) λv s1 z=>thn z <| by
  rintro k s2 ⟨p,xv,F1,aI,H1,I1,r1,R1,b1,z⟩
  cases k with
  | false=>exact⟨xv,H1,I1,r1,Tx.bT (z) _ H1 F1 R1 (Gr.refl _) b1⟩
  | true=>exact hb ae s2 σ H1 Q I1 ⟨F1,aI,R1,z⟩)
def Nd(fa:Gx PV):Gx PV:=bnd (toB fa) λx=>bT (.bl !x)
def RC(ha:PE X a (tE X aa ab fa)):PE X (.UnaryOp .Not a pos) (tE X aa ab (Nd fa)):=(Mz ha).imp λσ H Q ⟨F,st,R,h⟩ =>
 toB_imp ⟨F,st,R,h.bnd λx y F1 aI H1 R1 g1 b1 h1=>by
  cases b1;exact h1.bT _ H1 F1 R1 (Gr.refl _) (aS.mpr rfl)⟩
def V4(hc:PT X c (tT X aa ab ga))(ha:PE X a (tE X aa ab fa))(hb:PE X b (tE X aa ab fb)):PE X (.IfExp c a b pos) (tE X aa ab (iX ga fa fb)):=(Er hc ha hb).imp λ_ _ _ h=>um h
def dB(f:Gx PV)(g:Gx (List PV)):Gx (List PV):=bnd f λx=>bnd g λxs=>bT (x::xs)
def RD:PA X [] (tA X aa ab (bT [])):=oP.imp λσ H Q h=>uo h λ_=>.nil
def Nf(ha:PE X e (tE X aa ab fa))(hr:PA X es (tA X aa ab ts))(hs:starEach (e::es) X.env=(false,eval e X.env)::starEach es X.env:=by rfl):PA X (e::es) (tA X aa ab (dB fa ts)) :=
 (gg ha hr hs).imp (by rintro σ H Q ⟨F,st,R,h⟩;exact⟨F,st,R,h.bnd λp v F1 aI H1 R1 g1 b1 h1=>⟨F1,aI,R1,h1.bnd λps vs F2 dF H2 R2 g2 b2 h2=>h2.bT _ H2 F2 R2 (Gr.refl _) (.cons (b1.mono g2) b2)⟩⟩)
noncomputable def gV:Nat:=4000000
def dh{n:Nat}(h:n<=gV):n<=sizeLine:=aM h (by decide)
def small(ps:List PV)(p:PV):Option PV:=if ps.length<=gV then some p else none
def Lu(k:Kd)(ts:Gx (List PV)):Gx PV:=bnd ts λps=>fD (small ps (.nd k ps))
def RE{x1}(h:PA X es (tA X aa ab ts)):PE X (.Tuple es x1 pos) (tE X aa ab (Lu .aj ts)):=(MY h).imp λσ H Q ⟨F,st,R,h⟩=>⟨F,st,R,h.bnd λps vs F1 aI H1 R1 g1 b1 h1=>by
 obtain⟨p,e,z⟩:=h1.fD;obtain⟨hl,rfl⟩:=aw e;refine⟨dh (by rw[<-b1.length];exact hl),λa hn=>?_⟩
 obtain⟨R2,s2⟩:=R1.laid (.aj vs) hn;exact z _ _ _ R2 s2 (bt.mpr ⟨a,vs,rfl,fx.of ar,b1.mono s2⟩)⟩
def RF(h:PA X es (tA X aa ab ts)):PE X (.List es pos) (tE X aa ab (Lu .lst ts)):=(EJ h).imp λσ H Q ⟨F,st,R,h⟩=>⟨F,st,R,h.bnd λps vs F1 aI H1 R1 g1 b1 h1=>by
 obtain⟨p,e,z⟩:=h1.fD;obtain⟨hl,rfl⟩:=aw e;refine⟨dh (by rw[<-b1.length];exact hl),λa hn=>?_⟩
 obtain⟨R2,s2⟩:=R1.laid (.lst vs) hn;exact z _ _ _ R2 s2 (cP.mpr ⟨a,vs,rfl,gE.of ar,b1.mono s2⟩)⟩
noncomputable def ia(c:ai):Gx PV:=λst=>some (.ok (.ref st.h.length),⟨st.ρ,st.h++[c]⟩)
def Tx.ia{c:ai}{F:Fz}{st:bX}{σ:St}{H:Hp}{Q:VK}{p:Addr}{o:HO}{vs:List V}(h:Tx X aa ab (aZ X.K) F st (ia c) σ Q)(R:Rep X.K aa ab F st σ H)(hp:H p=none)
  (hn:jW X.K F.F (cj H p o) p true c.k vs) (hb:ao X.K F c.ps vs):Q (.ref p) (cj H p o):=by
 obtain⟨r,h1,h2⟩:=h;cases h1;obtain⟨C,g,hm⟩:=R.c.alloc hp hn hb;exact h2 _ _ _ ⟨C,R.l.mono g⟩ g (dt.mpr ⟨p,hm,rfl⟩)
def Jm(ts:Gx (List PV)):Gx PV:=bnd ts λps=>bnd (fD (small ps .aV)) λ_=>ia ⟨.lst,ps⟩
def Ng(h:PA X es (tA X aa ab ts)):PE X (.List es pos) (tE X aa ab (Jm ts)):=(EJ h).imp λσ H Q ⟨F,st,R,h⟩=>⟨F,st,R,h.bnd λps vs F1 aI H1 R1 g1 b1 h1=>by
 obtain⟨p,e,z⟩:=At.fD (At.bnd h1);obtain⟨hl,rfl⟩:=aw e;exact⟨dh (by rw[<-b1.length];exact hl),λa hn=>Tx.ia z R1 hn ar b1⟩⟩
end
inductive d9 where
 | nx | bk | ct | rt (p:PV)
def vU(X:Cx)(aa:Hp)(ab F:Fz)(D:vF):d9->bX->Prop
 | .nx,st=>∀F' bu H',Rep X.K aa ab F' st bu H'->Gr F F'->D.nx bu H'
 | .bk,st=>∀F' bu H',Rep X.K aa ab F' st bu H'->Gr F F'->D.bk bu H'
 | .ct,st=>∀F' bu H',Rep X.K aa ab F' st bu H'->Gr F F'->D.ct bu H'
 | .rt p,st=>∀v F' H',jY X.K aa ab F' st.h H'->Gr F F'->aZ X.K F' p v->D.rt v H'
def Sa(X:Cx)(aa:Hp)(ab F:Fz)(D:vF)(st:bX)(f:Gx d9):Prop:=At X aa ab F st f (vU X aa ab F D)
noncomputable def tS(X:Cx)(aa:Hp)(ab:Fz)(f:Gx d9):TS:=λD σ H=>∃F st,Rep X.K aa ab F st σ H/\Sa X aa ab F D st f
section
variable {X:Cx} {aa:Hp} {ab F F1:Fz} {D:vF} {st:bX} {α β:Type}
theorem vU.mono(g:Gr F F1):∀(o:d9) (st:bX),vU X aa ab F D o st->vU X aa ab F1 D o st
 | .nx,_,h=>λF' bu H' R z=>h F' bu H' R (g.trans z)
 | .bk,_,h=>λF' bu H' R z=>h F' bu H' R (g.trans z)
 | .ct,_,h=>λF' bu H' R z=>h F' bu H' R (g.trans z)
 | .rt _,_,h=>λv F' H' R z=>h v F' H' R (g.trans z)
def Sa.mono(h:Sa X aa ab F D st f)(g:Gr F F1):Sa X aa ab F1 D st f:=At.imp h g (vU.mono g)
def Sa.bnd(h:Sa X aa ab F D st (bnd f k))
  (i:∀a b F1 aI H1,Rep X.K aa ab F1 aI σ H1->Gr F F1->rl F1 a b->Sa X aa ab F1 D aI (k a)->Q b H1):Tx X aa ab rl F st f σ Q :=
 At.imp (At.bnd h) (Gr.refl F) λa aI q b H1 F1 R1 g1 r1=>i a b F1 aI H1 R1 g1 r1 (Sa.mono q g1)
end
section
variable {X:Cx} {aa:Hp} {ab:Fz} {a b c e tg iter:Expr} {es:List Expr} {fe:Gx PV} {gc:Gx Bool} {pos:Pos} {s:Stmt} {ss body:List Stmt} {f g fb:Gx d9}
def onK(g:Gx d9):d9->Gx d9
 | .nx=>g
 | .bk=>bT .bk
 | .ct=>bT .ct
 | .rt p=>bT (.rt p)
def l8(f g:Gx d9):Gx d9:=bnd f (onK g)
def Nh:PSs X [] (tS X aa ab (bT .nx)):=Iz.imp (by rintro D σ H ⟨F,st,R,h⟩;exact At.bT h F σ H R (Gr.refl F))
def Jn(h1:PS X s (tS X aa ab f))(h2:PSs X ss (tS X aa ab g)):PSs X (s::ss) (tS X aa ab (l8 f g)):=(Et h1 h2).imp λD σ H ⟨F,st,R,h⟩ =>
 ⟨F,st,R,At.imp (At.bnd h) (Gr.refl F) λo aI q=>match o,q with
  | .nx,q=>λF1 hV H1 R1 g1=>⟨F1,aI,R1,Sa.mono q g1⟩
  | .bk,q=>λF' bu H'=>At.bT q F' bu H'
  | .ct,q=>λF' bu H'=>At.bT q F' bu H'
  | .rt p,q=>λv F' H'=>At.bT q v F' H'⟩
def Ni(h1:PS X s (tS X aa ab f)):PSs X [s] (tS X aa ab f):=IA h1
def Nj:PS X (.Pass pos) (tS X aa ab (bT .nx)):=IB.imp (by rintro D σ H ⟨F,st,R,h⟩;exact At.bT h F σ H R (Gr.refl F))
def Jo:PS X (.Break pos) (tS X aa ab (bT .bk)):=Eu.imp (by rintro D σ H ⟨F,st,R,h⟩;exact At.bT h F σ H R (Gr.refl F))
def Nk:PS X (.Continue pos) (tS X aa ab (bT .ct)):=vG.imp (by rintro D σ H ⟨F,st,R,h⟩;exact At.bT h F σ H R (Gr.refl F))
def zf(fe:Gx PV):Gx d9:=bnd fe λp=>bT (.rt p)
def Lv(he:PE X e (tE X aa ab fe)):PS X (.Return (some e) pos) (tS X aa ab (zf fe)):=(MB he).imp (by rintro D σ H ⟨F,st,R,h⟩;exact⟨F,st,R,h.bnd λp v F1 aI H1 R1 g1 b1 h1=>At.bT h1 v F1 H1 R1.c (Gr.refl _) b1⟩)
def Nl:PS X (.Return none pos) (tS X aa ab (bT (.rt .aV))):=ID.imp (by rintro D σ H ⟨F,st,R,h⟩;exact At.bT h _ F H R.c (Gr.refl _) (cG.mpr rfl))
def V5(hc:PT X c (tT X aa ab gc))(ha:PSs X p (tS X aa ab f))(hb:PSs X r (tS X aa ab g)):PS X (.If c p r pos) (tS X aa ab (iX gc f g)) :=
 (QK hc ha hb).imp λD σ H ⟨F,st,R,h⟩=>⟨F,st,R,h.bnd λx y F1 aI H1 R1 g1 b1 h1=>by
  cases b1;cases x with
  | true=>exact⟨F1,aI,R1,h1⟩
  | false=>exact⟨F1,aI,R1,h1⟩⟩
def AS(fe:Gx PV):Gx d9:=bnd fe λ_=>bT .nx
def Nm(he:PE X e (tE X aa ab fe))(hs:swapsWith e none pos.line X.env=pure false:=by rfl):PS X (.Expr e pos) (tS X aa ab (AS fe)):=(IC he hs).imp λD σ H ⟨F,st,R,h⟩ =>
 ⟨F,st,R,h.bnd λp v F1 aI H1 R1 g1 b1 h1=>At.bT h1 F1 σ H1 R1 (Gr.refl _)⟩
abbrev Tg:=PV->bX->Option bX
abbrev P8:=List PV->bX->Option bX
def tG(K:W.Frag)(aa:Hp)(ab:Fz)(g:Tg):TG:=λv σ H Q=>∃F st p bK,Rep K aa ab F st σ H/\aZ K F p v/\g p st=some bK/\∀bu H' F',Rep K aa ab F' bK bu H'->Gr F F'->Q bu H'
def RG(K:W.Frag)(aa:Hp)(ab:Fz)(g:P8):Lk:=λvs σ H Q=>∃F st ps bK,Rep K aa ab F st σ H/\ao K F ps vs/\g ps st=some bK/\∀bu H' F',Rep K aa ab F' bK bu H'->Gr F F'->Q bu H'
noncomputable def cg(i:Nat):Tg:=λp st=>if i<st.ρ.length then some ⟨st.ρ.set i (some p),st.h⟩else none
def Lc.set{K:W.Frag}(L:Lc K F ρ σ)(hi:i<ρ.length)(hb:aZ K F p v):Lc K F (ρ.set i (some p)) (σ.set i (some v)) where
 av:=λj q e=>by
  by_cases h:i=j
  ·subst h;rw[tj hi]at e;cases e;exact⟨v,tj (by rw[<-L.len];exact hi),hb⟩
  ·rw[jJ h]at e;rw[jJ h];exact L.av j q e
 len:=by rw[tM,tM];exact L.len
def Nn(i:Nat)(h:PG X (.Name x pos) (gName i)):PG X (.Name x pos) (tG X.K aa ab (cg i)):=h.imp <| by
 rintro v σ H Q ⟨F,st,p,bK,R,hb,hf,q⟩
 obtain⟨hi,rfl⟩:=aw hf;exact q _ _ _ ⟨R.c,R.l.set hi hb⟩ (Gr.refl F)
noncomputable def m4:P8:=λps st=>match ps with | []=>some st | _=>none
noncomputable def dw(g:Tg)(r:P8):P8:=λps st=>match ps with | p::ps=>(g p st).bind λbK=>r ps bK | []=>none
def Np:PGs X [] (RG X.K aa ab m4):=IF.imp <| by
 rintro vs σ H Q ⟨F,st,ps,bK,R,hb,hf,q⟩
 cases ps with
 | nil=>cases hf;exact⟨hb.bL,q _ _ _ R (Gr.refl F)⟩
 | cons _ _=>cases hf
def Jp(h1:PG X e (tG X.K aa ab t))(h2:PGs X es (RG X.K aa ab u))(hs:(assignEach (e::es) X.env).map (·.2)=assign e X.env::(assignEach es X.env).map (·.2):=by rfl) :
  PGs X (e::es) (RG X.K aa ab (dw t u)):=(Ey h1 h2 hs).imp <| by
 rintro vs σ H Q ⟨F,st,ps,bK,R,hb,hf,q⟩
 cases ps with
 | nil=>cases hf
 | cons p ps =>
  obtain⟨v,r,rfl,b1,b2⟩:=hb.bB;obtain⟨aI,e1,e2⟩:=aF hf;exact⟨v,r,rfl,F,st,p,aI,R,b1,e1,λhV H1 F1 R1 s1=>⟨F1,aI,ps,bK,R1,b2.mono s1,e2,λAE H2 F2 R2 s2=>q AE H2 F2 R2 (s1.trans s2)⟩⟩
def _root_.L2.Inv.kM{s:Shared}{a:Addr}(I:Inv X ae σ H s)(h:gE X.K H a xs):∃(ak:List Value) (n:Nat),Vals xs ak/\s.heap.get? a=some {cls:=.type "list",data:=.seq ak.toArray n}/\xs.length<=sizeLine:=by
 rcases h with h | ⟨ak,n,e,z,r⟩
 ·obtain⟨z,ak,n,r,e⟩:=h.ok I.hok;exact⟨ak,n,r,e,z⟩
 ·exact⟨ak,n,r,I.oG a _ e,by rw[r.length];exact z⟩
def Nq{es:List Expr}{k:Nat}{t:Lk}{n:Nat}(hc:X.calm=true)(h:PGs X es t)
 (hn:(assignEach es X.env).length=n:=by rfl) (kr:(assignEach es X.env).findIdx? (·.1)=none:=by rfl):PG X (.Tuple es k pos) (λv σ H Q=>∃a xs,v=.ref a/\gE X.K H a xs/\xs.length=n/\t xs σ H Q):=by
 intro ae s σ H v u Q I r hw;obtain⟨a,xs,e1,hq,hl,hw⟩:=hw;subst e1;cases r;obtain⟨ak,m,rv,e,hz⟩:=I.kM hq;rw[PyProof.Rows.assign_Tuple];refine af (t6 ?_);unfold unpack;rw[show(assignEach es X.env).length=ak.toArray.size by simp[hn,<-hl,rv.length],kr]
 refine af (c7 (W.kun_itemsOf (I.ok.hd hc) ⟨_,e,rfl,_,rfl⟩ λh' hx=>?_))
 have I1:=I.kept (t':=s.toks) λb o e=>hx b o (aO (az e)) e
 exact h ae _ σ H xs _ Q I1 (by grind) hw
noncomputable def kN(n:Nat)(t:P8):Tg:=λp st=>match p with | .nd .aj ps=>if ps.length=n then t ps st else none | .nd .lst ps=>if ps.length=n then t ps st else none | _=>none
def RH(hc:X.calm=true)(h:PGs X es (RG X.K aa ab t))(hn:(assignEach es X.env).length=n:=by rfl)(kr:(assignEach es X.env).findIdx? (·.1)=none:=by rfl) :
  PG X (.Tuple es k pos) (tG X.K aa ab (kN n t)):=by
 rintro ae s σ H v u Q I r ⟨F,st,p,bK,R,hb,hf,q⟩
 unfold kN at hf;split at hf
 ·obtain⟨hl,hf⟩:=bE hf;obtain⟨a,vs,rfl,hs,uq⟩:=bt.mp hb;exact MC hc h hn kr ae s σ H _ u Q I r ⟨a,vs,rfl,aT R.sub hs,by rw[<-uq.length];exact hl,F,st,_,bK,R,uq,hf,q⟩
 ·obtain⟨hl,hf⟩:=bE hf;obtain⟨a,vs,rfl,hs,uq⟩:=cP.mp hb;exact Nq hc h hn kr ae s σ H _ u Q I r ⟨a,vs,rfl,gI R.sub hs,by rw[<-uq.length];exact hl,F,st,_,bK,R,uq,hf,q⟩
 ·cases hf
noncomputable def stp(g:bX->Option bX):Gx d9:=λst=>(g st).map λbK=>(.ok .nx,bK)
def Sa.stp{st:bX}{g:bX->Option bX}(h:Sa X aa ab F D st (stp g)):∃bK,g st=some bK/\∀F' bu H',Rep X.K aa ab F' bK bu H'->Gr F F'->D.nx bu H':=by
 obtain⟨r,h1,h2⟩:=h;obtain⟨bK,e1,e2⟩:=aL h1;subst e2;exact⟨bK,e1,h2⟩
def kO(fe:Gx PV)(g:Tg):Gx d9:=bnd fe λp=>stp (g p)
def Jq{g:Tg}(h:tS X aa ab (kO fe g) D σ H):IG (tE X aa ab fe) (tG X.K aa ab g) D σ H:=by
 obtain⟨F,st,R,h⟩:=h;refine⟨F,st,R,h.bnd λp v F1 aI H1 R1 g1 b1 h1=>?_⟩
 obtain⟨bK,e,z⟩:=h1.stp;exact⟨F1,aI,p,bK,R1,b1,e,λAE H2 F2 R2 s2=>z F2 AE H2 R2 s2⟩
def RI{g:Tg}(he:PE X e (tE X aa ab fe))(hg:PG X tg (tG X.K aa ab g))(hs:swapsWithSole [tg] e pos.line X.env=pure false:=by rfl)(hw:swappedStores [tg] e X.env=pure none:=by rfl)
  (h1:(assignEach [tg] X.env).map (·.2)=[assign tg X.env]:=by rfl):PS X (.Assign [tg] e pos) (tS X aa ab (kO fe g)):=(Ez he hg hs hw h1).imp λ_ _ _ h=>Jq h
def Walk(K:W.Frag)(F:Fz)(ps:List PV)(J:It):Prop:=∀(aa:Hp) (ab F':Fz) (st:bX) (σ:St) (H:Hp),Rep K aa ab F' st σ H->Gr F F'->∀i:Nat,
 (∀p,ps[i]?=some p->J.go i H/\∀x H',J.yld i H x H'->∃E5,Rep K aa ab E5 st σ H'/\Gr F' E5/\aZ K E5 p x)/\(ps[i]?=none->J.stop i H)
abbrev tI(X:Cx)(aa:Hp)(ab:Fz)(f:Gx (List PV)):TI:=tX X aa ab (Walk X.K) f
def vV(r:Gx d9):d9->Gx d9
 | .nx=>r
 | .ct=>r
 | .bk=>bT .nx
 | .rt p=>bT (.rt p)
def dO(g:Tg)(body:Gx d9):List PV->Gx d9
 | []=>bT .nx
 | p::ps=>bnd (stp (g p)) λ_=>bnd body (vV (dO g body ps))
def Sa.oJ{st:bX}(N:St->Hp->Prop)(hN:∀F1 aI hV H1,Rep X.K aa ab F1 aI hV H1->Gr F F1->Sa X aa ab F1 D aI r->N hV H1)(h:Sa X aa ab F D st (U.bnd fb (vV r))):Sa X aa ab F {D with nx:=N,ct:=N,bk:=D.nx} st fb :=
 At.imp (At.bnd h) (Gr.refl F) λo aI q=>match o,q with
  | .nx,q=>λF1 hV H1 R1 g1=>hN F1 aI hV H1 R1 g1 (Sa.mono q g1)
  | .ct,q=>λF1 hV H1 R1 g1=>hN F1 aI hV H1 R1 g1 (Sa.mono q g1)
  | .bk,q=>λF' bu H'=>At.bT q F' bu H'
  | .rt p,q=>λv F' H'=>At.bT q v F' H'
def l9(gc:Gx Bool)(body:Gx d9):Nat->Gx d9
 | 0=>λ_=>none
 | n+1=>bnd gc λc=>if c=true then bnd body (vV (l9 gc body n))else bT .nx
def Jr(n:Nat)(hp:PassesOwn (model X.prog X.w) X.A X.env X.xe)(hc:PT X c (tT X aa ab gc))(hb:PSs X body (tS X aa ab fb)):PS X (.While c body [] pos) (tS X aa ab (l9 gc fb n)) :=
 (EA hp hc hb).imp <| by
 rintro D σ H ⟨F,st,R,h⟩
 refine⟨λm bu H'=>∃F' bK,Rep X.K aa ab F' bK bu H'/\Sa X aa ab F' D bK (l9 gc fb m),⟨n,F,st,R,h⟩,λm bu H' ⟨F',bK,R',h'⟩=>?_⟩
 cases m with
 | zero=>obtain⟨r,e,_⟩:=h';cases e
 | succ m =>
  refine⟨F',bK,R',Sa.bnd h' λx y F1 aI H1 R1 g1 b1 h1=>?_⟩
  cases b1;cases x with
  | false=>exact At.bT h1 F1 bu H1 R1 (Gr.refl _)
  | true=>exact⟨λAE H2=>∃F2 dF,Rep X.K aa ab F2 dF AE H2/\Sa X aa ab F2 D dF (l9 gc fb m),λAE H2 n2=>⟨m,lP m,n2⟩,F1,aI,R1,Sa.oJ _ (λF4 HU Lw H4 R4 g4 z=>⟨F4,HU,R4,z⟩) h1⟩
end
def sizeOk(n:Nat)(p:PV):Option PV:=if n<=gV then some p else none
def iY(h:sizeOk n p=some q):n<=sizeLine/\p=q:=by
 obtain⟨h1,h2⟩:=aw h;exact⟨dh h1,h2⟩
def ma(h:List ai)(p:PV):Option (List PV):=match dv h p with | some (.lst,ps)=>some ps | _=>none
def du(e:ma h p=some ps):dv h p=some (.lst,ps):=by
 unfold ma at e;split at e
 ·grind
 ·cases e
def jt:G2:=λh p q=>match p,q with
 | .int i,.int j=>some (.int (i+j))
 | .str x,.str y=>sizeOk (x.length+y.length) (.str (x++y))
 | .nd .aj xs,.nd .aj ys=>sizeOk (xs.length+ys.length) (.aj (xs++ys))
 | p,q=>(ma h p).bind λxs=>(ma h q).bind λys=>sizeOk (xs.length+ys.length) (.lst (xs++ys))
noncomputable def m5(c:Int->Int->Bool)(f:Int->Int->PV):G2:=λ_ p q=>match p,q with
 | .int i,.int j=>if c i j=true then some (f i j)else none
 | _,_=>none
noncomputable def qB:Int:=18446744073709551616
def RJ:G2:=m5 (λ_ _=>true) λi j=>.int (i-j)
def Nr:G2:=m5 (λi j=>decide ((-qB<i/\i<qB)\/(-qB<j/\j<qB))) λi j=>.int (i*j)
def AU:G2:=m5 (λ_ j=>decide (0<j/\j<1073741824)) λi j=>.int (i/j)
def Cj:G2:=m5 (λ_ j=>decide (0<j)) λi j=>.int (i%j)
def E6:G2:=m5 (λi j=>decide (0<=j/\j<=1000/\i.natAbs<1000)) λi j=>.int (i^j.toNat)
def Yr:G2:=m5 (λ_ _=>true) λi j=>.bl (decide (i<j))
def Ys:G2:=m5 (λ_ _=>true) λi j=>.bl (decide (i<=j))
def Yt:G2:=m5 (λ_ _=>true) λi j=>.bl (decide (j<=i))
section
variable {X:Cx}
def vW{ws:List Value}(ht:IsTup s.heap t ([]:List Value).toArray)(hb:IsTup s.heap b ws.toArray)(h1:Q (.ref b) s):wpAny (model prog w) A (binaryOp .Add (.ref t) (.ref b)) Q E s:=by
 obtain⟨⟨cls,dd,data,sl⟩,ho,hc,n,hd⟩:=id ht;obtain⟨⟨VM,UB,Q7,UC⟩,M0,Q8,n2,Q9⟩:=id hb;simp only at hc hd Q8 Q9;subst hc hd Q8 Q9;exact concat_meets ⟨_,ho,rfl⟩ ⟨_,M0,rfl⟩ yy seq_tuple_add yg yb (xZ _ _) (tuple_addW0 t b _ ws.toArray n n2 dd UB sl UC (by simp)) ⟨ho,M0,h1⟩
def Js:qr X (binaryOp .Add) jt:=by
 rintro ae s σ H x y v u Q I rx ry ⟨aa,ab,F,st,τ,pa,pb,p,e,R,ba,bb,k⟩
 unfold jt at e;split at e
 ·cases e;rw[au.mp ba]at rx;rw[au.mp bb]at ry;exact MN ae s σ H _ _ v u Q I rx ry ⟨_,_,rfl,rfl,k _ H F R (Gr.refl F) (au.mpr rfl)⟩
 ·obtain⟨hz,rfl⟩:=iY e;rw[bj.mp ba]at rx;rw[bj.mp bb]at ry;exact yS ae s σ H _ _ v u Q I rx ry ⟨_,_,rfl,rfl,hz,k _ H F R (Gr.refl F) (bj.mpr rfl)⟩
 ·rename_i xs ys;obtain⟨hz,rfl⟩:=iY e;obtain⟨a,vs,rfl,ha,eR⟩:=bt.mp ba;obtain⟨b,ws,rfl,hb,HV⟩:=bt.mp bb;have Nt:=aT R.sub ha;have jj:=aT R.sub hb;cases xs with
  | nil =>
   rw[eR.bL]at Nt;cases rx;cases ry;obtain⟨ak,r1,p1,_⟩:=I.tuple Nt;obtain⟨cM,r2,p2,_⟩:=I.tuple jj;cases r1;exact vW p1 p2 ⟨.ref b,H,I,rfl,k _ H F R (Gr.refl F) (bt.mpr ⟨b,ws,rfl,hb,HV⟩)⟩
  | cons x0 xr =>
   refine Jb ae s σ H _ _ v u Q I rx ry ⟨a,b,vs,ws,rfl,rfl,Nt,jj,?_,by rw[<-eR.length,<-HV.length];exact hz,λz=>?_,λz q hq=>?_⟩
   ·intro z;have:=eR.length;rw[z]at this;cases this
   ·subst z;have hy:=iF HV.length;subst hy;rw[fq]at k;exact k _ H F R (Gr.refl F) (bt.mpr ⟨a,vs,rfl,ha,eR⟩)
   ·obtain⟨R2,s2⟩:=R.laid (.aj (vs++ws)) hq;exact k _ _ _ R2 s2 (bt.mpr ⟨q,_,rfl,fx.of ar,(eR.append HV).mono s2⟩)
 ·obtain⟨xs,e1,e⟩:=aF e;obtain⟨ys,e2,e⟩:=aF e;obtain⟨hz,rfl⟩:=iY e;obtain⟨a,vs,rfl,ha,eR⟩:=R.at (du e1) ba;obtain⟨b,ws,rfl,hb,HV⟩:=R.at (du e2) bb;cases rx;cases ry;obtain⟨ak,n,r,e1,z1⟩:=I.kM ha;obtain⟨cM,n2,r2,e2,z2⟩:=I.kM hb;have hl:=r.length;have UK:=r2.length;have hz':vs.length+ws.length<=sizeLine:=by rw[<-eR.length,<-HV.length];exact hz
  refine PySem.P.add_list e1 e2 ?_ (by grind)
  have ea:ak.toArray++cM.toArray=(ak++cM).toArray:=by simp
  rw[ea];obtain⟨R2,s2⟩:=R.laid (.lst (vs++ws)) I.fresh;exact⟨.ref _,_,I.M8 (r.append r2) (by grind),rfl,k _ _ _ R2 s2 (cP.mpr ⟨_,_,rfl,gE.of ar,(eR.append HV).mono s2⟩)⟩
def eM(ho:OpR X f (rI C h))(hc:∀i j,c i j=true->C i j)(hg:∀i j F,aZ X.K F (g i j) (h i j)):qr X f (m5 c g):=by
 rintro ae s σ H x y v u Q I rx ry ⟨aa,ab,F,st,τ,pa,pb,p,e,R,ba,bb,k⟩
 unfold m5 at e;split at e
 ·obtain⟨h1,rfl⟩:=aw e;rw[au.mp ba]at rx;rw[au.mp bb]at ry;exact ho ae s σ H _ _ v u Q I rx ry ⟨_,_,rfl,rfl,hc _ _ h1,k _ H F R (Gr.refl F) (hg _ _ F)⟩
 ·cases e
def rK(ho:OpR X f (HQ h)):OpR X f (rI (λ_ _=>True) h):=(by rintro ae s σ H x y v u Q I rx ry ⟨i,j,h1,h2,_,q⟩;exact ho ae s σ H x y v u Q I rx ry ⟨i,j,h1,h2,q⟩)
end
def Nu:Operator->Option G2
 | .Add=>some jt
 | .Sub=>some RJ
 | .Mult=>some Nr
 | .FloorDiv=>some AU
 | .Mod=>some Cj
 | .Pow=>some E6
 | _=>none
def AV(h:Nu op=some g):qr X (binaryOp op) g:=by
 unfold Nu at h;split at h<;>cases h
 ·exact Js
 ·exact eM (rK MO) (by grind) λ_ _ _=>au.mpr rfl
 ·exact eM MP (λi j e=>show(-qB<i/\i<qB)\/(-qB<j/\j<qB)from eY e) λ_ _ _=>au.mpr rfl
 ·exact eM IL (λ_ j e=>show 0<j/\j<1073741824 from eY e) λ_ _ _=>au.mpr rfl
 ·exact eM MQ (λ_ _ e=>eY e) λ_ _ _=>au.mpr rfl
 ·exact eM MR (λ_ _ e=>let ⟨h1,h2,h3⟩:=eY e;⟨h1,by lia,g8 h3 (by decide)⟩) λ_ _ _=>au.mpr rfl
inductive Tr where
 | aV | bl (b:Bool) | int (i:Int) | str (x:Str) | aj (xs:List Tr) | lst (xs:List Tr)
mutual
def eqT:Tr->Tr->Bool
 | .aV,.aV=>true
 | .bl a,.bl b=>a==b
 | .bl a,.int b=>(if a then 1 else 0)==b
 | .int a,.bl b=>a==(if b then 1 else 0)
 | .int a,.int b=>a==b
 | .str a,.str b=>a==b
 | .aj xs,.aj ys=>f9 xs ys
 | .lst xs,.lst ys=>f9 xs ys
 | _,_=>false
def f9:List Tr->List Tr->Bool
 | [],[]=>true
 | x::xs,y::ys=>eqT x y&&f9 xs ys
 | _,_=>false
end
mutual
def dep:Tr->Nat
 | .aj xs=>ju xs+1
 | .lst xs=>ju xs+1
 | _=>0
def ju:List Tr->Nat
 | []=>0
 | x::xs=>max (dep x) (ju xs)
end
mutual
theorem oV:∀p:Tr,eqT p p=true
 | .aV=>rfl
 | .bl b=>iP b
 | .int b=>iP b
 | .str b=>iP b
 | .aj xs=>me xs
 | .lst xs=>me xs
theorem me:∀ps:List Tr,f9 ps ps=true
 | []=>rfl
 | x::xs=>nY.mpr ⟨oV x,me xs⟩
end
theorem kP:∀{xs ys:List Tr},xs.length≠ys.length->f9 xs ys=false
 | [],[],h=>absurd rfl h
 | [],_::_,_=>rfl
 | _::_,[],_=>rfl
 | x::xs,y::ys,h=>by show(eqT x y&&f9 xs ys)=false;rw[kP (by simpa using h),Bool.and_false]
noncomputable def oW(xs ys:List Tr)(j:Nat):Bool:=match xs[j]?,ys[j]? with
 | some x,some y=>eqT x y
 | _,_=>true
theorem kQ:∀{xs ys:List Tr},xs.length=ys.length->(List.range xs.length).all (oW xs ys)=f9 xs ys
 | [],[],_=>rfl
 | [],_::_,h=>by cases h
 | _::_,[],h=>by cases h
 | x::xs,y::ys,h=>by
  have ih:=kQ (by simpa using h)
  rw[bZ,List.range_succ_eq_map,gu,List.all_map];have e0:oW (x::xs) (y::ys) 0=eqT x y:=rfl;have e1:(oW (x::xs) (y::ys) ∘ Nat.succ)=oW xs ys:=by
   funext j
   simp[oW,Function.comp]
  rw[e0,e1,ih];rfl
def AW(h1:xs.length=m)(h2:ys.length=n):((List.range (min m n)).all (oW xs ys)&&(m==n))=f9 xs ys:=by
 subst h1 h2;by_cases h:xs.length=ys.length
 ·rw[<-h,Nat.min_self,kQ h];simp
 ·rw[kP h];simp[h]
mutual
def cQ(s:Shared):Tr->Value->Prop
 | .aV,u=>u=.none
 | .bl b,u=>u=.bool b
 | .int i,u=>∃t,u=.int i t
 | .str x,u=>∃t,u=.str x t
 | .aj ts,u=>∃a ak,u=.ref a/\s.heap.IsTuple a ak.toArray/\bC s ts ak
 | .lst ts,u=>∃a ak,u=.ref a/\s.heap.IsList a ak.toArray/\bC s ts ak
def bC(s:Shared):List Tr->List Value->Prop
 | [],us=>us=[]
 | t::ts,us=>∃u r,us=u::r/\cQ s t u/\bC s ts r
end
section
variable {A:Around} {s:Shared}
theorem bC.len:∀{ts:List Tr} {us:List Value},bC s ts us->ts.length=us.length
 | [],_,h=>by simp only[bC]at h;rw[h];rfl
 | _::_,_,h=>by
  simp only[bC]at h;obtain⟨u,r,rfl,_,h⟩:=h;simp[bC.len h]
def ji(h1:s.heap.IsTuple a x)(h2:s.heap.IsTuple a y):x=y:=by
 obtain⟨o,e,_,n,d⟩:=h1;obtain⟨o',e',_,n',d'⟩:=h2;rw[e]at e';cases e';rw[d]at d';cases d';rfl
def kD(h1:s.heap.IsList a x)(h2:s.heap.IsList a y):x=y:=by
 obtain⟨o,e,_,n,d⟩:=h1;obtain⟨o',e',_,n',d'⟩:=h2;rw[e]at e';cases e';rw[d]at d';cases d';rfl
def oX(h1:s.heap.IsTuple a x)(h2:s.heap.IsList a y):False:=by
 obtain⟨o,e,c,n,d⟩:=h1;obtain⟨o',e',c',n',d'⟩:=h2;rw[e]at e';cases e';rw[c]at c';simp at c'
mutual
theorem cQ.inj:∀{p q:Tr} {u:Value},cQ s p u->cQ s q u->p=q
 | .aV,q,u,h,h'=>by cases q<;>simp_all [cQ]
 | .bl b,q,u,h,h'=>by cases q<;>simp_all [cQ]
 | .int b,q,u,h,h'=>by
  simp only[cQ]at h;obtain⟨t,rfl⟩:=h;cases q<;>simp_all [cQ]
 | .str b,q,u,h,h'=>by
  simp only[cQ]at h;obtain⟨t,rfl⟩:=h;cases q<;>simp_all [cQ]
 | .aj xs,q,u,h,h'=>by
  simp only[cQ]at h;obtain⟨a,ak,rfl,h1,h2⟩:=h;cases q with
  | aj ys =>
   simp only[cQ]at h';obtain⟨b,RK,e,g1,g2⟩:=h';cases e;have:=ji h1 g1;have e:ak=RK:=by simpa using this
   subst e;rw[bC.inj h2 g2]
  | lst ys =>
   simp only[cQ]at h';obtain⟨b,RK,e,g1,g2⟩:=h';cases e;exact(oX h1 g1).elim
  | _=>simp[cQ]at h'
 | .lst xs,q,u,h,h'=>by
  simp only[cQ]at h;obtain⟨a,ak,rfl,h1,h2⟩:=h;cases q with
  | lst ys =>
   simp only[cQ]at h';obtain⟨b,RK,e,g1,g2⟩:=h';cases e;have:=kD h1 g1;have e:ak=RK:=by simpa using this
   subst e;rw[bC.inj h2 g2]
  | aj ys =>
   simp only[cQ]at h';obtain⟨b,RK,e,g1,g2⟩:=h';cases e;exact(oX g1 h1).elim
  | _=>simp[cQ]at h'
theorem bC.inj:∀{ps qs:List Tr} {us:List Value},bC s ps us->bC s qs us->ps=qs
 | [],qs,us,h,h'=>by
  simp only[bC]at h;subst h;cases qs with
  | nil=>rfl
  | cons _ _=>simp[bC]at h'
 | p::ps,qs,us,h,h'=>by
  simp only[bC]at h;obtain⟨u,r,rfl,h1,h2⟩:=h;cases qs with
  | nil=>simp[bC]at h'
  | cons q qs =>
   simp only[bC]at h';obtain⟨u',r',e,g1,g2⟩:=h';cases e;rw[cQ.inj h1 g1,bC.inj h2 g2]
end
def oY(h:b=c)(r:SeqAt.RcAt A s u w b):SeqAt.RcAt A s u w c:=h▸r
def j0(h:b = !c)(r:SeqAt.RcNeAt A s u w b):SeqAt.RcNeAt A s u w (!c):=h▸r
def AX(hf:∀x t,u≠.float x t)(h:SeqAt.RcAt A s u w b)(hb:u=w->b=true):SeqAt.EqAt A s u w b:=λprog v E Q hq=>by
 unfold eqBool;refine c7 ?_;refine wpAny_ite_split (λz=>?_) (λ_=>?_)
 ·rw[hb (aG z)]at hq;exact af (iT (ag hq))
 ·cases u with
  | float x t=>exact absurd rfl (hf x t)
  | _=>exact af (h prog v E _ (iN hq))
def cQ.Lx(h:cQ s p u):∀y t,u≠.float y t:=λy t z=>by
 subst z;cases p<;>simp[cQ]at h
mutual
theorem uu:∀(p q:Tr) (A:Around) (u w:Value),cQ s p u->cQ s q w->A.units+dep p<cLine->SeqAt.RcAt A s u w (eqT p q)/\SeqAt.RcNeAt A s u w (!(eqT p q))
 | .aV,q,A,u,w,ha,hb,hu=>by
  have fO:A.units<cLine := ‹_›;subst ha;cases q with
  | aV=>cases hb;exact⟨.none_none,.none_none⟩
  | bl=>cases hb;exact⟨(.none_bool _),(.none_bool _)⟩
  | int=>obtain⟨t,rfl⟩:=hb;exact⟨(.none_int _ _),(.none_int _ _)⟩
  | str=>obtain⟨t,rfl⟩:=hb;exact⟨(.none_str _ _),(.none_str _ _)⟩
  | aj=>obtain⟨a,ak,rfl,pR,_⟩:=hb;exact⟨(.none_tuple pR fO),(.none_tuple pR fO)⟩
  | lst=>obtain⟨a,ak,rfl,pR,_⟩:=hb;exact⟨(.none_list pR fO),(.none_list pR fO)⟩
 | .bl k,q,A,u,w,ha,hb,hu=>by
  have fO:A.units<cLine := ‹_›;subst ha;cases q with
  | aV=>cases hb;exact⟨(.bool_none _),(.bool_none _)⟩
  | bl=>cases hb;exact⟨(.bool_bool _ _),(.bool_bool _ _)⟩
  | int=>obtain⟨t,rfl⟩:=hb;exact⟨(.bool_int _ _ _),(.bool_int _ _ _)⟩
  | str=>obtain⟨t,rfl⟩:=hb;exact⟨(.bool_str _ _ _),(.bool_str _ _ _)⟩
  | aj=>obtain⟨a,ak,rfl,pR,_⟩:=hb;exact⟨(.bool_tuple _ pR fO),(.bool_tuple _ pR fO)⟩
  | lst=>obtain⟨a,ak,rfl,pR,_⟩:=hb;exact⟨(.bool_list _ pR fO),(.bool_list _ pR fO)⟩
 | .int k,q,A,u,w,ha,hb,hu=>by
  have fO:A.units<cLine := ‹_›;obtain⟨tk,rfl⟩:=ha;cases q with
  | aV=>cases hb;exact⟨(.int_none _ _),(.int_none _ _)⟩
  | bl=>cases hb;exact⟨(.int_bool _ _ _),(.int_bool _ _ _)⟩
  | int=>obtain⟨t,rfl⟩:=hb;exact⟨(.int_int _ _ _ _),(.int_int _ _ _ _)⟩
  | str=>obtain⟨t,rfl⟩:=hb;exact⟨(.int_str _ _ _ _),(.int_str _ _ _ _)⟩
  | aj=>obtain⟨a,ak,rfl,pR,_⟩:=hb;exact⟨(.int_tuple _ _ pR fO),(.int_tuple _ _ pR fO)⟩
  | lst=>obtain⟨a,ak,rfl,pR,_⟩:=hb;exact⟨(.int_list _ _ pR fO),(.int_list _ _ pR fO)⟩
 | .str k,q,A,u,w,ha,hb,hu=>by
  have fO:A.units<cLine := ‹_›;obtain⟨tk,rfl⟩:=ha;cases q with
  | aV=>cases hb;exact⟨(.str_none _ _),(.str_none _ _)⟩
  | bl=>cases hb;exact⟨(.str_bool _ _ _),(.str_bool _ _ _)⟩
  | int=>obtain⟨t,rfl⟩:=hb;exact⟨(.str_int _ _ _ _),(.str_int _ _ _ _)⟩
  | str=>obtain⟨t,rfl⟩:=hb;exact⟨(.str_str _ _ _ _),(.str_str _ _ _ _)⟩
  | aj=>obtain⟨a,ak,rfl,pR,_⟩:=hb;exact⟨(.str_tuple _ _ pR fO),(.str_tuple _ _ pR fO)⟩
  | lst=>obtain⟨a,ak,rfl,pR,_⟩:=hb;exact⟨(.str_list _ _ pR fO),(.str_list _ _ pR fO)⟩
 | .aj xs,q,A,u,w,ha,hb,hu=>by
  have fO:A.units<cLine:=by lia
  obtain⟨al,Jt,rfl,pL,tL⟩:=ha;cases q with
  | aV=>cases hb;exact⟨(.tuple_none pL fO),(.tuple_none pL fO)⟩
  | bl=>cases hb;exact⟨(.tuple_bool _ pL fO),(.tuple_bool _ pL fO)⟩
  | int=>obtain⟨t,rfl⟩:=hb;exact⟨(.tuple_int _ _ pL fO),(.tuple_int _ _ pL fO)⟩
  | str=>obtain⟨t,rfl⟩:=hb;exact⟨(.tuple_str _ _ pL fO),(.tuple_str _ _ pL fO)⟩
  | lst=>obtain⟨a,ak,rfl,pR,_⟩:=hb;exact⟨(.tuple_list pL pR fO),(.tuple_list pL pR fO)⟩
  | aj ys =>
   obtain⟨a,Ju,rfl,pR,tR⟩:=hb;have e1:xs.length=Jt.toArray.size:=by rw[bU,tL.len]
   have e2:ys.length=Ju.toArray.size:=by rw[bU,tR.len]
   have el:=λj (h1:j<Jt.toArray.size) (h2:j<Ju.toArray.size)=>uv xs ys A.in1 Jt Ju tL tR (by rw[oi];have hu:_+(ju _+1)<_:=hu;lia) j (by simpa using h1) (by simpa using h2)
   exact⟨oY (AW e1 e2) (.tuples pL pR fO el),j0 (by rw[AW e1 e2];rfl) (.tuples pL pR fO el)⟩
 | .lst xs,q,A,u,w,ha,hb,hu=>by
  have fO:A.units<cLine:=by lia
  obtain⟨al,Jt,rfl,pL,tL⟩:=ha;cases q with
  | aV=>cases hb;exact⟨(.list_none pL fO),(.list_none pL fO)⟩
  | bl=>cases hb;exact⟨(.list_bool _ pL fO),(.list_bool _ pL fO)⟩
  | int=>obtain⟨t,rfl⟩:=hb;exact⟨(.list_int _ _ pL fO),(.list_int _ _ pL fO)⟩
  | str=>obtain⟨t,rfl⟩:=hb;exact⟨(.list_str _ _ pL fO),(.list_str _ _ pL fO)⟩
  | aj=>obtain⟨a,ak,rfl,pR,_⟩:=hb;exact⟨(.list_tuple pL pR fO),(.list_tuple pL pR fO)⟩
  | lst ys =>
   obtain⟨a,Ju,rfl,pR,tR⟩:=hb;have e1:Jt.toArray.size=xs.length:=by rw[bU,tL.len]
   have e2:Ju.toArray.size=ys.length:=by rw[bU,tR.len]
   by_cases hl:xs.length=ys.length
   ·have sz:Jt.toArray.size=Ju.toArray.size:=by rw[e1,e2];exact hl
    have el:=λj (h1:j<Jt.toArray.size) (h2:j<Ju.toArray.size)=>uv xs ys A.in1 Jt Ju tL tR (by rw[oi];have hu:_+(ju _+1)<_:=hu;lia) j (by simpa using h1) (by simpa using h2)
    exact⟨oY (by rw[e1,kQ hl];rfl) (.lists pL pR sz fO el),j0 (by rw[e1,kQ hl];rfl) (.lists pL pR sz fO el)⟩
   ·have sz:(Jt.toArray.size != Ju.toArray.size)=true:=by rw[e1,e2];simpa using hl
    exact⟨oY (kP hl).symm (.lists_lengths pL pR sz fO),j0 (eu not (kP hl)).symm (.lists_lengths pL pR sz fO)⟩
theorem uv:∀(ps qs:List Tr) A (us zs:List Value),bC s ps us->bC s qs zs->A.units+ju ps<cLine ->
  ∀j h1 (h2:j<zs.length),SeqAt.EqAt A s us[j] zs[j] (oW ps qs j)
 | [],qs,A,us,zs,b1,b2,hu=>λj h1 h2=>by
  simp only[bC]at b1;subst b1;cases h1
 | p::ps,qs,A,us,zs,b1,b2,hu=>λj h1 h2=>by
  simp only[bC]at b1;obtain⟨u,ur,rfl,c1,d1⟩:=b1;cases qs with
  | nil =>
   simp only[bC]at b2;subst b2;cases h2
  | cons q qs =>
   simp only[bC]at b2;obtain⟨z,zr,rfl,c2,d2⟩:=b2;have hm:A.units+dep p<cLine/\A.units+ju ps<cLine:=by
    simp only[ju]at hu
    lia
   cases j with
   | zero =>
    refine AX c1.Lx (uu p q A _ _ c1 c2 hm.1).1 λe=>?_
    simp only[List.getElem_cons_zero]at e;rw[e]at c1;rw[c1.inj c2];exact oV q
   | succ j=>exact uv ps qs A _ _ d1 d2 hm.2 j (by simpa using h1) (by simpa using h2)
end
def Nv(b1:cQ s p u)(b2:cQ s q w)(hu:A.units+dep p<cLine):SeqAt.EqAt A s u w (eqT p q):=by
 refine AX b1.Lx (uu p q A _ _ b1 b2 hu).1 λz=>?_
 rw[z]at b1;rw[b1.inj b2];exact oV q
end
noncomputable def aQ{α β:Type}(f:α->Option β):List α->Option (List β)
 | []=>some []
 | x::xs=>(f x).bind λy=>(aQ f xs).map λys=>y::ys
noncomputable def m6:Kd->List Tr->Option Tr
 | .aj,ts=>some (.aj ts)
 | .lst,ts=>some (.lst ts)
 | _,_=>none
def toT(h:List ai):Nat->PV->Option Tr
 | 0,_=>none
 | n+1,p=>match p with
  | .aV=>some .aV
  | .bl b=>some (.bl b)
  | .int i=>some (.int i)
  | .str x=>some (.str x)
  | .fn _=>none
  | p=>(dv h p).bind λq=>(aQ (toT h n) q.2).bind (m6 q.1)
def cW(h:aQ f (x::xs)=some ys):∃y r,f x=some y/\aQ f xs=some r/\ys=y::r:=by
 obtain⟨y,h1,h2⟩:=aF h;obtain⟨r,h3,h4⟩:=aL h2;exact⟨y,r,h1,h3,h4.symm⟩
theorem uw(h:List ai):∀(n:Nat) (p:PV) (t:Tr),toT h n p=some t->dep t<=n
 | 0,_,_,e=>by cases e
 | n+1,p,t,e=>by
  have go:((dv h p).bind λq=>(aQ (toT h n) q.2).bind (m6 q.1))=some t->dep t<=n+1:=λe=>by
   obtain⟨q,_,e⟩:=aF e;obtain⟨ts,e1,e2⟩:=aF e;have hd:∀ps ts,aQ (toT h n) ps=some ts->ju ts<=n:=by
    intro ps;induction ps with
    | nil=>intro ts z;cases z;simp[ju]
    | cons p ps ih =>
     intro ts z;obtain⟨y,r,h1,h2,rfl⟩:=cW z;have:=uw h n p y h1;have:=ih r h2;simp only[ju];lia
   have:=hd _ _ e1;unfold m6 at e2;split at e2<;>cases e2<;>simp only[dep]<;>lia
  unfold toT at e;split at e<;>first | (cases e;simp[dep];done) | (cases e;done) | exact go e
section
variable {X:Cx} {ae:List (Addr×Obj)} {σ τ:St} {s:Shared} {aa H:Hp} {ab F:Fz} {st:bX}
theorem Rep.tree(R:Rep X.K aa ab F st τ H)(I:Inv X ae σ H s):∀(n:Nat) (p:PV) (t:Tr) (v:V) (u:Value),toT st.h n p=some t->aZ X.K F p v->RelV v u->cQ s t u
 | 0,_,_,_,_,e,_,_=>by cases e
 | n+1,p,t,v,u,e,b,r=>by
  have go:((dv st.h p).bind λq=>(aQ (toT st.h n) q.2).bind (m6 q.1))=some t->cQ s t u:=λe=>by
   obtain⟨⟨k,ps⟩,e0,e⟩:=aF e;obtain⟨ts,e1,e2⟩:=aF e;obtain⟨a,vs,rfl,h2,h3⟩:=R.at e0 b;have hd:∀ps ts vs us,aQ (toT st.h n) ps=some ts->ao X.K F ps vs->Vals vs us->bC s ts us:=by
    intro ps;induction ps with
    | nil=>intro ts vs us z b r;cases z;rw[b.bL]at r;cases r;simp[bC]
    | cons p ps ih =>
     intro ts vs us z b r;obtain⟨y,q,h1,h2,rfl⟩:=cW z;obtain⟨v,w,rfl,b1,b2⟩:=b.bB;cases r with
     | cons ra rr =>
      simp only[bC];exact⟨_,_,rfl,R.tree I n p y v _ h1 b1 ra,ih q w _ h2 b2 rr⟩
   cases r
   match k,e2,h2 with
   | .aj,e2,h2 =>
    cases e2;obtain⟨ak,rr,pl,_⟩:=I.tuple h2.2;simp only[cQ];exact⟨a,ak,rfl,pl,hd _ _ _ _ e1 h3 rr⟩
   | .lst,e2,h2 =>
    cases e2;obtain⟨ak,rr,pl,_⟩:=I.list (gE.sq h2);simp only[cQ];exact⟨a,ak,rfl,pl.isList,hd _ _ _ _ e1 h3 rr⟩
  unfold toT at e;split at e
  ·cases e;rw[cG.mp b]at r;cases r;simp[cQ]
  ·cases e;rw[aS.mp b]at r;cases r;simp[cQ]
  ·cases e;rw[au.mp b]at r;obtain⟨t,rfl⟩:=r;simp[cQ]
  ·cases e;rw[bj.mp b]at r;obtain⟨t,rfl⟩:=r;simp[cQ]
  ·cases e
  ·exact go e
end
def dP:Nat:=1000
def RL(h:List ai)(p q:PV):Option Bool:=(toT h dP p).bind λx=>(toT h dP q).map λy=>eqT x y
def qt:G2:=λh p q=>(RL h p q).map .bl
def xP:G2:=λh p q=>(RL h p q).map λb=>.bl !b
noncomputable def jD:PV->Bool
 | .aV=>true
 | _=>false
noncomputable def V6(b:Bool):PV->Option Bool
 | .bl a=>some (a==b)
 | _=>none
def vX(h:V6 b p=some c):∃a,p=.bl a/\c=(a==b):=by
 cases p<;>cases h
 exact⟨_,rfl,rfl⟩
def UL:G2:=λ_ p q=>match q with | .aV=>some (.bl (jD p)) | .bl b=>(V6 b p).map .bl | _=>none
def V7(h:List ai)(p:PV)(ps:List PV):Option Bool:=(toT h dP p).bind λx=>(aQ (toT h dP) ps).map λys=>ys.any λy=>eqT y x
section
variable {X:Cx}
def vY(e:RL h p q=some b):∃x y,toT h dP p=some x/\toT h dP q=some y/\b=eqT x y:=by
 obtain⟨x,e1,e⟩:=aF e;obtain⟨y,e2,e3⟩:=aL e;exact⟨x,y,e1,e2,e3.symm⟩
def Nw(hu:X.A.units+1150<cLine):qr X (compareOp .Eq) qt:=by
 rintro ae s σ H x y v u Q I rx ry ⟨aa,ab,F,st,τ,pa,pb,p,e,R,ba,bb,k⟩
 obtain⟨b,e',rfl⟩:=aL e;obtain⟨ta,tb,e1,e2,rfl⟩:=vY e';have hd:=uw _ _ _ _ e1;exact(uu ta tb X.A v u (R.tree I _ _ _ _ _ e1 ba rx) (R.tree I _ _ _ _ _ e2 bb ry) (by unfold dP at hd;lia)).1 X.prog X.w X.xe _ ⟨.bl _,H,I,rfl,k _ H F R (Gr.refl F) (aS.mpr rfl)⟩
def Nx(hu:X.A.units+1150<cLine):qr X (compareOp .NotEq) xP:=by
 rintro ae s σ H x y v u Q I rx ry ⟨aa,ab,F,st,τ,pa,pb,p,e,R,ba,bb,k⟩
 obtain⟨b,e',rfl⟩:=aL e;obtain⟨ta,tb,e1,e2,rfl⟩:=vY e';have hd:=uw _ _ _ _ e1;exact(uu ta tb X.A v u (R.tree I _ _ _ _ _ e1 ba rx) (R.tree I _ _ _ _ _ e2 bb ry) (by unfold dP at hd;lia)).2 X.prog X.w X.xe _ ⟨.bl _,H,I,rfl,k _ H F R (Gr.refl F) (aS.mpr rfl)⟩
def AY{K:W.Frag}(b:aZ K F p x):decide (x=.aV)=jD p:=by
 cases p with
 | aV=>rw[cG.mp b];rfl
 | bl _=>rw[aS.mp b];rfl
 | int _=>rw[au.mp b];rfl
 | str _=>rw[bj.mp b];rfl
 | ref _=>obtain⟨_,_,rfl⟩:=dt.mp b;rfl
 | fn _=>obtain⟨_,rfl,_⟩:=l7.mp b;rfl
 | nd _ _=>obtain⟨_,_,rfl,_⟩:=hJ.mp b;rfl
def Ny:qr X (compareOp .Is) UL:=by
 rintro ae s σ H x y v u Q I rx ry ⟨aa,ab,F,st,τ,pa,pb,p,e,R,ba,bb,k⟩
 unfold UL at e;split at e
 ·cases e;exact MT ae s σ H x y v u Q I rx ry ⟨cG.mp bb,k _ H F R (Gr.refl F) (aS.mpr (by rw[AY ba]))⟩
 ·rename_i b;obtain⟨c,e1,rfl⟩:=aL e;obtain⟨a,rfl,rfl⟩:=vX e1;rw[aS.mp ba]at rx;rw[aS.mp bb]at ry;cases rx;cases ry;exact wpAny_is_plain rfl ⟨.bl _,H,I,(by cases a<;>cases b<;>rfl),k _ H F R (Gr.refl F) (aS.mpr rfl)⟩
 ·cases e
open Classical in
noncomputable def jv (s:Shared) (p:Tr) (u:Value):Bool:=if h:∃q,cQ s q u then eqT h.choose p else false
def ux(b:cQ s q u):jv s p u=eqT q p:=by
 have h:∃q,cQ s q u:=⟨q,b⟩
 unfold jv;rw[dif_pos h,cQ.inj h.choose_spec b]
theorem uy:∀{ts:List Tr} {us:List Value},bC s ts us->us.any (jv s p)=ts.any λy=>eqT y p
 | [],_,b=>by simp only[bC]at b;subst b;rfl
 | q::ts,_,b=>by
  simp only[bC]at b;obtain⟨u,r,rfl,c1,d1⟩:=b;rw[lR,lR,ux c1,uy d1]
theorem nH(bp:cQ s p w):∀{ts:List Tr} {us:List Value},bC s ts us->A.units+ju ts<cLine->∀u∈us,SeqAt.EqAt A s u w (jv s p u)
 | [],_,b,_=>λu hu=>by simp only[bC]at b;subst b;cases hu
 | q::ts,_,b,hz=>λu hu=>by
  simp only[bC]at b;obtain⟨u',r,rfl,c1,d1⟩:=b;simp only[ju]at hz;rcases bh.mp hu with rfl | hu
  ·rw[ux c1];exact Nv c1 bp (by lia)
  ·exact nH bp d1 (by lia) u hu
theorem Rep.trees{st:bX}(R:Rep X.K aa ab F st τ H)(I:Inv X ae σ H s)(n:Nat):∀(ps:List PV) (ts:List Tr) (vs:List V) (us:List Value),aQ (toT st.h n) ps=some ts->ao X.K F ps vs->Vals vs us->bC s ts us/\ju ts<=n
 | [],ts,vs,us,z,b,r=>by cases z;rw[b.bL]at r;cases r;simp[bC,ju]
 | p::ps,ts,vs,us,z,b,r=>by
  obtain⟨y,q,h1,h2,rfl⟩:=cW z;obtain⟨v,w,rfl,b1,b2⟩:=b.bB;cases r with
  | cons ra rr =>
   obtain⟨h3,h4⟩:=R.trees I n ps q w _ h2 b2 rr;have:=uw _ _ _ _ h1;simp only[ju];exact⟨⟨_,_,rfl,R.tree I n p y v _ h1 b1 ra,h3⟩,by lia⟩
def E7(e:V7 h p ps=some b):∃x ys,toT h dP p=some x/\aQ (toT h dP) ps=some ys/\b=ys.any λy=>eqT y x:=by
 obtain⟨x,e1,e⟩:=aF e;obtain⟨y,e2,e3⟩:=aL e;exact⟨x,y,e1,e2,e3.symm⟩
def E8(hu:X.A.units+1150<cLine){st:bX}(I:Inv X ae σ H s)(rx:RelV x v)(ry:RelV y u)(R:Rep X.K aa ab F st τ H)(ba:aZ X.K F pa x)(bb:aZ X.K F pb y)
  (es:E3 st.h pb=some ps) (eb:V7 st.h pa ps=some b) :
  (Q (.bl b) H->wpAny (model X.prog X.w) X.A (compareOp .In v u) (EP X ae σ Q) X.xe s)/\(Q (.bl !b) H->wpAny (model X.prog X.w) X.A (compareOp .NotIn v u) (EP X ae σ Q) X.xe s):=by
 obtain⟨t,ts,e1,e2,rfl⟩:=E7 eb;obtain⟨a,vs,rfl,hs,hb⟩:=R.seq es bb;have tp:=R.tree I _ _ _ _ _ e1 ba rx;cases ry;rcases hs with hs | hs
 ·obtain⟨ak,r,pl,_⟩:=I.tuple hs;obtain⟨h1,h2⟩:=R.trees I _ _ _ _ _ e2 hb r;have ml:=λw (hw:w∈ak.toArray)=>nH (A:=X.A.in1) tp h1 (by rw[oi];unfold dP at h2;lia) w (by grind)
  have ea:ak.toArray.any (jv s t)=ts.any λy=>eqT y t:=by rw[show ak.toArray.any (jv s t)=ak.any (jv s t) by simp,uy h1]
  exact⟨λq=>SeqAt.in_tupleAt (jv s t) pl ml ⟨.bl _,H,I,rfl,by grind⟩,λq=>SeqAt.notIn_tupleAt (jv s t) pl ml ⟨.bl _,H,I,rfl,by grind⟩⟩
 ·obtain⟨ak,r,pl,_⟩:=I.list hs.sq;obtain⟨h1,h2⟩:=R.trees I _ _ _ _ _ e2 hb r;have ml:=λw (hw:w∈ak.toArray)=>nH (A:=X.A.in1) tp h1 (by rw[oi];unfold dP at h2;lia) w (by grind)
  have ea:ak.toArray.any (jv s t)=ts.any λy=>eqT y t:=by rw[show ak.toArray.any (jv s t)=ak.any (jv s t) by simp,uy h1]
  exact⟨λq=>SeqAt.in_listAt (jv s t) pl.isList ml ⟨.bl _,H,I,rfl,by grind⟩,λq=>SeqAt.notIn_listAt (jv s t) pl.isList ml ⟨.bl _,H,I,rfl,by grind⟩⟩
end
section
variable {K:W.Frag} {F:Fz}
def ao.mY{ps:List PV}{vs:List V}{i:Int}{p:PV}(h:ao K F ps vs)(e:L2.mY ps i=some p):∃v,L2.mY vs i=some v/\aZ K F p v:=by
 unfold L2.mY at e ⊢;rw[<-h.length];cases z:HS ps.length i with
 | none=>rw[z]at e;cases e
 | some j =>
  rw[z]at e;exact h.get e
def iZ(xs:List PV)(lo hi:Option Int):List PV:=(xs.drop (HT.dz xs.length 0 lo)).take (HT.dz xs.length xs.length hi-HT.dz xs.length 0 lo)
def ao.Yu{ps:List PV}{vs:List V}(h:ao K F ps vs)(lo hi:Option Int):ao K F (iZ ps lo hi) (vL vs lo hi):=by
 unfold iZ vL;rw[h.length];exact(h.drop _).take _
def cu{p:PV}{vs:List V}(b:ao K F [p] vs):∃v,vs=[v]/\aZ K F p v:=by
 obtain⟨v,r,rfl,c,d⟩:=b.bB;rw[d.bL];exact⟨v,rfl,c⟩
def kR{p q:PV}{vs:List V}(b:ao K F [p,q] vs):∃v w,vs=[v,w]/\aZ K F p v/\aZ K F q w:=by
 obtain⟨v,r,rfl,c,d⟩:=b.bB;obtain⟨w,rfl,e⟩:=cu d;exact⟨v,w,rfl,c,e⟩
end
def kT{prog:Program}{w:World}{A:Around}{E:Value->Shared->Prop}{s:Shared}{t sl:Addr}{ak:Array Value}{vl vu:Value}{lo hi:Option Int}{Q:Value->Shared->Prop}(ht:IsTup s.heap t ak)(hs:s.heap.IsSliceOf sl vl vu .none)(pl:IsPart vl lo)(pu:IsPart vu hi)
  (h0:HT.dz ak.size 0 lo=0) (h1:HT.dz ak.size ak.size hi=ak.size) (h:Q (.ref t) s):wpAny (model prog w) A (getItem (.ref t) (.ref sl)) Q E s:=by
 obtain⟨os,HR,UD,Lp⟩:=id hs;have hT:s.TypeIs (.ref sl) "slice":=⟨os,HR,UD⟩;unfold getItem
 try with_reducible refine c7 ?_
 first | refine af (ag ?_) | skip
 refine af (wpAny_sequenceKey ht.typeIs (by decide) ?_)
 refine af (eX ht.typeIs lD (fg lD ht.typeIs entry_tuple_getitem ?_ (args_tuple_getitem _ _)));show wpAny _ _ (Builtin.Tuple.tupleItemsOf (.ref t) >>= _) _ _ s;refine af (tupleItemsOf_ ht (af (jU hT ?_)));refine af (HT.gG hs pl pu ?_);have hc:(((HT.dz ak.size 0 lo:Nat):Int)==0&&(1:Int)==1&&(HT.dz ak.size ak.size hi-HT.dz ak.size 0 lo)==ak.size)=true:=by
  rw[h0,h1];simp
 show wpAny _ _ (if(((HT.dz ak.size 0 lo:Nat):Int)==0&&1==1&&(HT.dz ak.size ak.size hi-HT.dz ak.size 0 lo)==ak.size)=true then _ else _) _ _ s
 rw[if_pos hc];unfold Builtin.Tuple.tupleIsExact;refine af (af (jU ht.typeIs (ag ?_)));exact af (iT (ag ⟨_,rfl,ag h⟩))
def E9(h:List ai)(lo hi:Option Int)(p:PV):Option PV:=match dv h p with
 | some (.lst,ps)=>some (.lst (iZ ps lo hi))
 | some (.aj,ps)=>some (.aj (iZ ps lo hi))
 | _=>none
section
variable {X:Cx} {aa:Hp} {ab:Fz} {a b e:Expr} {es:List Expr} {fa fb:Gx PV} {ts:Gx (List PV)} {pos p1 p2:Pos} {lo hi:Option Expr}
def rSl(K:W.Frag):V->Option Int->Option Int->Hp->VK->Prop:=λx lo hi H Q=>∃aa ab F st τ pa p,E9 st.h lo hi pa=some p/\Rep K aa ab F st τ H/\aZ K F pa x/\∀v H' F',Rep K aa ab F' st τ H'->Gr F F'->aZ K F' p v->Q v H'
def slT:UE X (rSl X.K):=by
 rintro ae s σ H x v vl vu lo hi sl Q I rx hs pl pu ⟨aa,ab,F,st,τ,pa,p,e,R,ba,k⟩
 unfold E9 at e;split at e
 ·rename_i z;cases e;obtain⟨a,vs,rfl,ha,eR⟩:=R.at z ba;refine Je ae s σ H _ v vl vu lo hi sl Q I rx hs pl pu ⟨a,vs,rfl,gE.sq ha,λq hq=>?_⟩
  obtain⟨R2,s2⟩:=R.laid (.lst (vL vs lo hi)) hq;exact k _ _ _ R2 s2 (cP.mpr ⟨q,_,rfl,gE.of ar,(eR.Yu lo hi).mono s2⟩)
 ·rename_i ps z;cases e;cases pa with
  | nd kk pp =>
   cases z;obtain⟨a,vs,rfl,ha,eR⟩:=bt.mp ba;by_cases hw:HT.dz vs.length 0 lo=0/\HT.dz vs.length vs.length hi=vs.length
   ·cases rx;obtain⟨ak,r,ht,hz⟩:=I.tuple (aT R.sub ha);have dr:ak.toArray.size=vs.length:=by rw[bU];exact r.length.symm
    refine⟨"tuple",_,lD.lookup,ht.typeIs,?_⟩;refine kT ht hs pl pu (by grind) (by grind) ⟨.ref a,H,I,rfl,k _ H F R (Gr.refl F) ?_⟩
    have hc:iZ ps lo hi=ps:=by
     unfold iZ;rw[eR.length,hw.1,hw.2,List.drop_zero,Nat.sub_zero,<-eR.length,tD]
    rw[hc];exact ba
   ·refine M3 ae s σ H _ v vl vu lo hi sl Q I rx hs pl pu ⟨a,vs,rfl,aT R.sub ha,hw,λq hq=>?_⟩
    obtain⟨R2,s2⟩:=R.laid (.aj (vL vs lo hi)) hq;exact k _ _ _ R2 s2 (bt.mpr ⟨q,_,rfl,fx.of ar,(eR.Yu lo hi).mono s2⟩)
  | ref n =>
   obtain⟨c,e1,e2⟩:=aF z;obtain⟨hl,e3⟩:=aw e2;have hk:c.k=.aj:=by grind
   unfold live at hl;rw[hk]at hl;cases hl
  | _=>cases z
 ·cases e
abbrev Jv(X:Cx)(aa:Hp)(ab:Fz)(f:Gx (Option Int)):TO:=tX X aa ab (λ_ a b=>a=b) f
def _root_.L2.PO.imp{X:Cx}{e:Option Expr}{t t':TO}(h:PO X e t)(hi:∀σ H Q,t' σ H Q->t σ H Q):PO X e t':=λae s σ H Q I hw=>h ae s σ H Q I (hi _ _ _ hw)
noncomputable def qC:PV->Option Int | .int i=>some i | _=>none
def eE{p:PV}{i:Int}(h:qC p=some i):p=.int i:=by
 cases p<;>first | (cases h;rfl) | cases h
def Fb(fe:Gx PV):Gx (Option Int):=bnd fe λp=>fD ((qC p).map some)
def NA:PO X none (Jv X aa ab (bT none)):=I0.imp λσ H Q h=>uo h λ_=>rfl
def NB(h:PE X e (tE X aa ab fa)):PO X (some e) (Jv X aa ab (Fb fa)):=(Ja h).imp λσ H Q ⟨F,st,R,h⟩=>⟨F,st,R,h.bnd λp v F1 aI H1 R1 g1 b1 h1=>by
 obtain⟨o,e,z⟩:=h1.fD;obtain⟨i,e1,rfl⟩:=aL e;rw[eE e1]at b1;exact⟨i,au.mp b1,z _ H1 F1 R1 (Gr.refl _) rfl⟩⟩
def cutE(fa:Gx PV)(fl fh:Gx (Option Int)):Gx PV:=bnd fa λp=>bnd fl λl=>bnd fh λr=>hp λh=>E9 h l r p
def RM{fl fh:Gx (Option Int)}(ha:PE X e (tE X aa ab fa))(hl:PO X lo (Jv X aa ab fl))(hh:PO X hi (Jv X aa ab fh)):PE X (.Subscript e (.Slice lo hi none p2) pos) (tE X aa ab (cutE fa fl fh)):=(EM slT ha hl hh).imp λσ H Q ⟨F,st,R,h⟩ =>
 ⟨F,st,R,h.bnd λp v F1 aI H1 R1 g1 b1 h1=>⟨F1,aI,R1,h1.bnd λl l' F2 dF H2 R2 g2 b2 h2=>⟨F2,dF,R2,h2.bnd λr r' F3 II H3 R3 g3 b3 h3=>by
  cases b2;cases b3;obtain⟨o,e,z⟩:=h3.hp;exact⟨aa,ab,F3,II,σ,p,o,e,R3,b1.mono (g2.trans g3),z⟩⟩⟩⟩
abbrev GC:=List ai->List PV->Option PV
def rC(K:W.Frag)(g:GC):List V->Hp->VK->Prop:=λxs H Q=>∃aa ab F st τ ps p,g st.h ps=some p/\Rep K aa ab F st τ H/\ao K F ps xs/\∀v H' F',Rep K aa ab F' st τ H'->Gr F F'->aZ K F' p v->Q v H'
abbrev zg(X:Cx)(f:Value)(g:GC):Prop:=jB X f (rC X.K g)
def zh(g:GC)(ts:Gx (List PV)):Gx PV:=bnd ts λps=>hp λh=>g h ps
def ib{g:GC}{σ:St}{H:Hp}{Q:VK}(h:tE X aa ab (zh g ts) σ H Q):VL (rC X.K g) (tA X aa ab ts) σ H Q:=by
 obtain⟨F,st,R,h⟩:=h;refine⟨F,st,R,h.bnd λps vs F1 aI H1 R1 g1 b1 h1=>?_⟩
 obtain⟨o,e,z⟩:=h1.hp;exact⟨aa,ab,F1,aI,σ,ps,o,e,R1,b1,z⟩
def Yv(h:List ai)(p:PV):Option Nat:=match dv h p with
 | some (.aj,ps)=>some ps.length
 | some (.lst,ps)=>some ps.length
 | some (.eW _ ks,_)=>some ks.length
 | _=>none
def gH:GC:=λh ps=>match ps with
 | [.str z]=>if z.length<=gV then some (.int z.length)else none
 | [p]=>(Yv h p).map λn=>.int n
 | _=>none
def Fc:GC:=λh ps=>match ps with
 | [.nd .aj qs]=>some (.aj qs)
 | [p]=>(ma h p).map λqs=>.aj qs
 | _=>none
noncomputable def Fe:GC:=λ_ ps=>match ps with
 | [.int i]=>some (.int i)
 | [.bl b]=>some (.int (if b then 1 else 0))
 | _=>none
noncomputable def Ck:GC:=λ_ ps=>match ps with
 | [.int i]=>if 0<=i/\i<1000 then some (.str (toString i))else none
 | _=>none
def Ff(ps:List PV):Option (List Int):=aQ qC ps
def Jw:GC:=λh ps=>match ps with
 | [p]=>(ma h p).bind λqs=>(Ff qs).map λns=>.int ns.sum
 | _=>none
def vZ{A:Around}{E:Value->Shared->Prop}{s:Shared}{d:Addr}{o:Obj}{es:Array DictEntry}{ep n:Nat}{Q:Value->Shared->Prop}(hd:(d==sysModules)=false)(ho:s.heap.get? d=some o)(hc:o.ExactDict)(mh:o.data=.dict es ep)(hn:es.size=n)(RN:(n:Int)<2^63)
  (h:Q (.int n (s.toks+1)) {s with toks:=s.toks+1+1}):wpAny (model X.prog X.w) A (call (.builtin "len") [.ref d]) Q E s:=by
 have ty:s.TypeIs (.ref d) "dict":=⟨o,ho,hc.1⟩;have hm:MeetsIn X.prog X.w (Builtin.«dict.__len__» ⟨[.ref d],[]⟩) (λ_ R s'=>s'.heap.get? d=some o/\R (.ok (.ret (.int n s'.toks))) {s' with toks:=s'.toks+1}):=.of_wp <| by
  rintro A R s' ⟨oH,hR⟩
  show wpAny _ _ (dictSize d >>= _) _ _ s';refine af (af (yu oH mh (ag ?_)));refine af (wpAny_pendingCount_other hd ?_);refine wpAny_ret_mkInt ?_;rw[Nat.add_zero,hn];exact hR
 refine Calls.call_function_entry kind_len plain_len entry_len (args_len1 _) ?_;refine af (ag ?_);refine af (eX ty F.slot_dict_len (call_meetsIn F.slot_dict_len ty F.entry_dict_len (F.args_dict_len_1 _) hm ⟨ho,?_⟩));show wpAny _ _ _ _ _ {s with toks:=s.toks+1}
 refine af (c7 (ag ?_));refine af (lV ?_);show wpAny _ _ (if((n:Nat):Int)>=2^63 then _ else _) _ _ _
 rw[if_neg (by lia)]
 exact af (wpAny_mkInt (ag ⟨_,rfl,h⟩))
def AZ{n:Nat}(h:n<=sizeLine):(n:Int)<2^63:=by
 have h1:n<=2^62:=aM h (by decide)
 have h62:2^62=4611686018427387904:=by decide
 lia
def Jx{ae:List (Addr×Obj)}{s:Shared}{σ:St}{H:Hp}{a:Addr}{t:Bool}{ks:List (List cL)}{vs:List V}{us:List Value}{Q:VK}{F:Hp}(I:Inv X ae σ H s)(rs:Vals [V.ref a] us)(h:jW X.K F H a false (.eW t ks) vs)(q:Q (.int ks.length) H):wpAny (model X.prog X.w) X.A (call (.builtin "len") us) (λu s'=>∃v H',Inv X ae σ H' s'/\RelV v u/\Q v H') X.xe s:=by
 obtain⟨u,rfl,ru⟩:=iw rs;cases ru;cases t with
 | false =>
  obtain⟨kvs,h1,h2,h3⟩:=h;obtain⟨z,y,ws,hk,o,es,ep,g1,g2,g3,g4,g5,g6⟩:=(I.hok a _ h1);have hl:ks.length=kvs.length:=by grind
  have hn:es.size=ks.length:=by rw[hl,iR hk,<-g5.length,lI]
  exact vZ y g1 g2 g3 hn (AZ (by grind)) ⟨.int ks.length,H,I.tok _,⟨_,rfl⟩,q⟩
 | true =>
  obtain⟨xs,h1,_,h2,_⟩:=h;obtain⟨z,y,o,es,ep,g1,g2,g3,g4,g5⟩:=(I.hok a _ h1);have hl:ks.length=xs.length:=by grind
  exact vZ y g1 g2 g3 (by rw[<-lI,g4,ah,hl]) (AZ (by grind)) ⟨.int ks.length,H,I.tok _,⟨_,rfl⟩,q⟩
def Cm:zg X (.builtin "len") gH:=by
 rintro ae s σ H xs us Q I rs ⟨aa,ab,F,st,τ,ps,p,e,R,bs,k⟩
 unfold gH at e;split at e
 ·obtain⟨hz,rfl⟩:=aw e;obtain⟨v,rfl,b⟩:=cu bs;rw[bj.mp b]at rs;exact uk ae s σ H _ us Q I rs ⟨_,rfl,dh hz,k _ H F R (Gr.refl F) (au.mpr rfl)⟩
 ·obtain⟨n,e1,rfl⟩:=aL e;obtain⟨v,rfl,b⟩:=cu bs;unfold Yv at e1;split at e1
  ·rename_i z;cases e1;obtain⟨a,vs,rfl,ha,eR⟩:=R.at z b;exact kJ ae s σ H _ us Q I rs ⟨a,vs,rfl,.inr ha.2,k _ H F R (Gr.refl F) (au.mpr (by rw[eR.length]))⟩
  ·rename_i z;cases e1;obtain⟨a,vs,rfl,ha,eR⟩:=R.at z b;exact kJ ae s σ H _ us Q I rs ⟨a,vs,rfl,.inl (gE.sq ha),k _ H F R (Gr.refl F) (au.mpr (by rw[eR.length]))⟩
  ·rename_i z;cases e1;obtain⟨a,vs,rfl,ha,eR⟩:=R.at z b;exact Jx I rs ha (k _ H F R (Gr.refl F) (au.mpr rfl))
  ·cases e1
 ·cases e
def Cn:zg X (.type "tuple") Fc:=by
 rintro ae s σ H xs us Q I rs ⟨aa,ab,F,st,τ,ps,p,e,R,bs,k⟩
 unfold Fc at e;split at e
 ·cases e;obtain⟨v,rfl,b⟩:=cu bs;obtain⟨a,vs,rfl,ha,eR⟩:=bt.mp b;exact jC ae s σ H _ us Q I rs ⟨a,vs,rfl,.inr ⟨aT R.sub ha,k _ H F R (Gr.refl F) b⟩⟩
 ·obtain⟨qs,e1,rfl⟩:=aL e;obtain⟨v,rfl,b⟩:=cu bs;obtain⟨a,vs,rfl,ha,eR⟩:=R.at (du e1) b;refine jC ae s σ H _ us Q I rs ⟨a,vs,rfl,.inl ⟨gE.sq ha,λq hq=>?_⟩⟩
  obtain⟨R2,s2⟩:=R.laid (.aj vs) hq;exact k _ _ _ R2 s2 (bt.mpr ⟨q,_,rfl,fx.of ar,eR.mono s2⟩)
 ·cases e
def Co:zg X (.type "int") Fe:=by
 rintro ae s σ H xs us Q I rs ⟨aa,ab,F,st,τ,ps,p,e,R,bs,k⟩
 unfold Fe at e;split at e
 ·cases e;obtain⟨v,rfl,b⟩:=cu bs;rw[au.mp b]at rs;exact rm ae s σ H _ us Q I rs (.inl ⟨_,rfl,k _ H F R (Gr.refl F) (au.mpr rfl)⟩)
 ·cases e;obtain⟨v,rfl,b⟩:=cu bs;rw[aS.mp b]at rs;exact rm ae s σ H _ us Q I rs (.inr ⟨_,rfl,k _ H F R (Gr.refl F) (au.mpr rfl)⟩)
 ·cases e
def Cp:zg X (.type "str") Ck:=by
 rintro ae s σ H xs us Q I rs ⟨aa,ab,F,st,τ,ps,p,e,R,bs,k⟩
 unfold Ck at e;split at e
 ·rename_i i;obtain⟨⟨h0,h1⟩,rfl⟩:=aw e;obtain⟨v,rfl,b⟩:=cu bs;rw[au.mp b]at rs;exact uh ae s σ H _ us Q I rs ⟨i,rfl,(by
   by_cases h:i.natAbs=0
   ·simp_all
   ·exact n5 (Nat.log2_le_self _) (by lia)),k _ H F R (Gr.refl F) (bj.mpr rfl)⟩
 ·cases e
theorem v3{K:W.Frag}{F:Fz}:∀{ps:List PV} {ns:List Int} {vs:List V},Ff ps=some ns->ao K F ps vs->vs=ns.map V.int
 | [],ns,vs,h,b=>by cases h;exact b.bL
 | p::r,ns,vs,h,b=>by
  obtain⟨i,ms,h1,h2,rfl⟩:=cW h;obtain⟨v,vr,rfl,c,d⟩:=b.bB;rw[eE h1]at c;rw[au.mp c,v3 h2 d];rfl
def Jy{ae:List (Addr×Obj)}{σ:St}{H:Hp}{s:Shared}{F:Fz}(I:Inv X ae σ H s){a:Addr}{vs:List V}{ps:List PV}{ns:List Int}(hn:Ff ps=some ns)(ha:gE X.K H a vs)(eR:ao X.K F ps vs) :
  ∃xs:Array (Int×Tok),s.heap.IsList a (intItems xs)/\ns=xs.toList.map (·.1):=by
 obtain⟨ak,r,pl,_⟩:=I.list ha.sq;have ev:=v3 hn eR;subst ev;have hi:=y0 r;obtain⟨xs,ex⟩:=hi.allInts.items;exact⟨xs,by rw[<-ex];exact pl.isList,by rw[<-hi.numsOf,<-nums_intItems,<-ex]⟩
def Cq(hc:X.A.handled=none):zg X (.builtin "sum") Jw:=by
 rintro ae s σ H xs us Q I rs ⟨aa,ab,F,st,τ,ps,p,e,R,bs,k⟩
 unfold Jw at e;split at e
 ·obtain⟨qs,e1,e⟩:=aF e;obtain⟨ns,e2,rfl⟩:=aL e;obtain⟨v,rfl,b⟩:=cu bs;obtain⟨a,vs,rfl,ha,eR⟩:=R.at (du e1) b;obtain⟨xs,hl,hn⟩:=Jy I e2 ha eR;obtain⟨u,rfl,ru⟩:=iw rs;cases ru;refine sum_intListG hc hl λh' tk t' hk=>⟨.int ns.sum,H,I.kept hk,⟨t',?_⟩,k _ H F R (Gr.refl F) (au.mpr rfl)⟩
  rw[preSum_eq,lE (by simp),hn]
 ·cases e
inductive Ty where
 | int | str | bool | tuple | list
noncomputable def Ty.nm:Ty->String
 | .int=>"int" | .str=>"str" | .bool=>"bool" | .tuple=>"tuple" | .list=>"list"
def RO(h:List ai):PV->Option String
 | .aV=>some "NoneType"
 | .bl _=>some "bool"
 | .int _=>some "int"
 | .str _=>some "str"
 | p=>match dv h p with
  | some (.aj,_)=>some "tuple"
  | some (.lst,_)=>some "list"
  | _=>none
def NC(t:Ty)(y:String):Bool:=y==t.nm || (t.nm=="int"&&y=="bool")
def V8(t:Ty)(fa:Gx PV):Gx PV:=bnd fa λp=>hp λh=>(RO h p).map λy=>.bl (NC t y)
def rIs(K:W.Frag)(t:Ty):List V->Hp->VK->Prop:=λxs H Q=>∃aa ab F st τ p x y,xs=[x,.ty t.nm]/\Rep K aa ab F st τ H/\aZ K F p x/\RO st.h p=some y/\Q (.bl (NC t y)) H
def Jz(t:Ty):jB X (.builtin "isinstance") (rIs X.K t):=by
 rintro ae s σ H xs us Q I rs ⟨aa,ab,F,st,τ,p,x,y,ex,R,b,ey,q⟩
 subst ex;obtain⟨u,w,rfl,ru,Jd⟩:=AH rs;cases Jd;have iU:∀tk,EP X ae σ Q (.bool (NC t y)) {s with toks:=tk}:=λtk=>⟨.bl _,H,I.tok tk,rfl,q⟩
 have more:(match dv st.h p with
  | some (.aj,_)=>some "tuple"
  | some (.lst,_)=>some "list"
  | _=>none)=some y->wpAny (model X.prog X.w) X.A (call (.builtin "isinstance") [u,.type t.nm]) (EP X ae σ Q) X.xe s:=λey=>by
  split at ey
  ·rename_i z;cases ey;obtain⟨a,vs,rfl,h2,h3⟩:=R.at z b;cases ru;obtain⟨ak,_,⟨o,h1,h2,_⟩,_⟩:=I.tuple h2.2;exact W.kia_one W.kitx_tuple I.oG ⟨o,h1,h2⟩ (by cases t<;>kernel_rfl) (λz=>nomatch z) iU
  ·rename_i z;cases ey;obtain⟨a,vs,rfl,h2,h3⟩:=R.at z b;cases ru;obtain⟨ak,n,_,h1,_⟩:=I.kM h2;exact W.kia_one W.kitx_list I.oG ⟨_,h1,rfl⟩ (by cases t<;>kernel_rfl) (λz=>nomatch z) iU
  ·cases ey
 cases p with
 | aV =>
  cases ey;rw[cG.mp b]at ru;cases ru;exact W.kia_one W.kitx_none I.oG True.intro (by cases t<;>kernel_rfl) (λz=>nomatch z) iU
 | bl y =>
  cases ey;rw[aS.mp b]at ru;cases ru;exact W.kia_one W.kitx_bool I.oG True.intro (by cases t<;>kernel_rfl) (λz=>nomatch z) iU
 | int i =>
  cases ey;rw[au.mp b]at ru;obtain⟨tk,rfl⟩:=ru;exact W.kia_one W.kitx_int I.oG True.intro (by cases t<;>kernel_rfl) (λz=>nomatch z) iU
 | str y =>
  cases ey;rw[bj.mp b]at ru;obtain⟨tk,rfl⟩:=ru;exact W.kia_one W.kitx_str I.oG True.intro (by cases t<;>kernel_rfl) (λz=>nomatch z) iU
 | ref n=>exact more ey
 | fn x=>exact more ey
 | nd k ps=>exact more ey
def m7:bootBuiltins "isinstance"=some (.builtin "isinstance"):=by kernel_rfl
def ic(t:Ty):bootBuiltins (Str.ofString t.nm)=some (.type t.nm):=by cases t<;>kernel_rfl
noncomputable def tys:List Ty:=[.int,.str,.bool,.tuple,.list]
def A0(x:Str):Option Ty:=tys.find? λt=>x==Str.ofString t.nm
def Fg{x:Str}{t:Ty}(h:A0 x=some t):x=Str.ofString t.nm:=by
 have:=List.find?_some h;exact aG this
def V9{x:Str}{t:Ty}(ht:A0 x=some t)(hg:Gl X "isinstance")(hm:X.mg "isinstance"=none)(hg2:Gl X x)(Wa:X.mg x=none)(ha:PE X a (tE X aa ab fa))(hs:∀es,starEach (a::es) X.env=(false,eval a X.env)::starEach es X.env) :
  PE X (.Call (.Name "isinstance" p1) [a,.Name x p2] [] pos) (tE X aa ab (V8 t fa)):=by
 have hx:=Fg ht;subst hx;refine(iV (Jz t) hg hm m7 (gg ha (gg (Iw (v:=.ty t.nm) hg2 Wa (ic t) rfl (by cases t<;>decide) (by cases t<;>decide)) oP rfl) (hs _)) (by decide) (by decide) (hs _)).imp λσ H Q ⟨F,st,R,h⟩=>?_
 refine⟨F,st,R,h.bnd λp v F1 aI H1 R1 g1 b1 h1=>?_⟩
 obtain⟨o,e,z⟩:=h1.hp;obtain⟨y,e1,rfl⟩:=aL e;exact⟨aa,ab,F1,aI,σ,p,v,y,rfl,R1,b1,e1,z _ H1 F1 R1 (Gr.refl _) (aS.mpr rfl)⟩
def ND(fa:Gx PV):Gx PV:=bnd fa λp=>fD ((qC p).map λi=>.int (-i))
def RP(ha:PE X a (tE X aa ab fa)):PE X (.UnaryOp .USub a pos) (tE X aa ab (ND fa)):=(QQ MS ha).imp λσ H Q ⟨F,st,R,h⟩=>⟨F,st,R,h.bnd λp v F1 aI H1 R1 g1 b1 h1=>by
 obtain⟨o,e,z⟩:=h1.fD;obtain⟨i,e1,rfl⟩:=aL e;rw[eE e1]at b1;exact⟨i,au.mp b1,z _ H1 F1 R1 (Gr.refl _) (au.mpr rfl)⟩⟩
end
noncomputable def mH(a m:Int)(n:Nat):List Nat:=sliceRange (sliceBounds (some a) none (some m) n).1 (sliceBounds (some a) none (some m) n).2.1 (sliceBounds (some a) none (some m) n).2.2
def ix{α:Type}(a m:Int)(ps:List α):List α:=(mH a m ps.length).filterMap (ps[·]?)
def NF(p:PV)(l m:Option Int):Option PV:=match p,l,m with
 | .nd .lst ps,some a,some b=>if(b != 0&&decide ((mH a b ps.length).length<=gV))=true then some (.lst (ix a b ps))else none
 | _,_,_=>none
def NG(fa:Gx PV)(fl fm:Gx (Option Int)):Gx PV:=bnd fa λp=>bnd fl λl=>bnd fm λm=>fD (NF p l m)
theorem mi{xs:List V}{us:List Value}(r:Vals xs us):∀is:List Nat,Vals (is.filterMap (xs[·]?)) (is.filterMap (us[·]?))
 | []=>.nil
 | i::is=>by
  cases h:xs[i]? with
  | none =>
   rw[td h,td (r.none_of h)];exact mi r is
  | some x =>
   obtain⟨u,h1,h2⟩:=r.get h;rw[tf h,tf h1];exact .cons h2 (mi r is)
theorem mj{K:W.Frag}{F:Fz}{ps:List PV}{vs:List V}(r:ao K F ps vs):∀is:List Nat,ao K F (is.filterMap (ps[·]?)) (is.filterMap (vs[·]?))
 | []=>.nil
 | i::is=>by
  cases h:ps[i]? with
  | none =>
   have h2:vs[i]?=none:=by
    have:=r.length;have:=fH.mp h;exact fH.mpr (by lia)
   rw[td h,td h2];exact mj r is
  | some p =>
   obtain⟨v,h1,h2⟩:=r.get h;rw[tf h,tf h1];exact .cons h2 (mj r is)
section
variable {X:Cx} {aa:Hp} {ab:Fz} {e:Expr} {fa:Gx PV} {pos p2:Pos} {lo:Option Expr} {hi:Expr}
def rSp(K:W.Frag):V->Option Int->Option Int->Hp->VK->Prop:=λx l m H Q=>∃c a b vs,x=.ref c/\l=some a/\m=some b/\gE K H c vs/\b≠0/\(mH a b vs.length).length<=gV/\∀q,H q=none->Q (.ref q) (cj H q (.lst (ix a b vs)))
def NH{te:TE}{tl th:TO}(he:PE X e te)(hl:PO X lo tl)(hu:PO X (some hi) th):PE X (.Subscript e (.Slice lo none (some hi) p2) pos) (Yl (rSp X.K) te tl th):=by
 intro ae s σ H Q I h;refine Subscript_ (thn (he ae s σ H _ I h) λv s1 ⟨x,H1,I1,r1,q1⟩=>?_)
 refine wpAny_Slice (thn (hl ae s1 σ H1 _ I1 q1) λvl s2 ⟨l,H2,I2,pl,q2⟩=>?_)
 rw[evalPart_none];refine ag ?_;refine thn (hu ae s2 σ H2 _ I2 q2) λvu s3 ⟨u,H3,I3,pu,q3⟩=>?_
 have I4:Inv X ae σ H3 {s3 with heap:=s3.heap.push {cls:=.type "slice",data:=.fields #[vl,.none,vu]}}:=I3.kept λb ob q=>ax _ q
 show wpAny (model X.prog X.w) X.A (subscriptTail e (.Slice lo none (some hi) p2) v (.ref s3.heap.objs.size)) (EP X ae σ Q) X.xe {s3 with heap:=s3.heap.push {cls:=.type "slice",data:=.fields #[vl,.none,vu]}}
 obtain⟨c,a,b,vs,rfl,rfl,rfl,hs,Yw,uq,q⟩:=q3;cases r1;obtain⟨ak,r,ht,hz⟩:=I4.list (gE.sq hs);have dr:ak.toArray.size=vs.length:=by rw[bU];exact r.length.symm
 have hg:wpAny (model X.prog X.w) X.A (getItem (.ref c) (.ref s3.heap.objs.size)) (EP X ae σ Q) X.xe {s3 with heap:=s3.heap.push {cls:=.type "slice",data:=.fields #[vl,.none,vu]}}:=by
  refine wpAny_getItem_list_slice ht.isList (Heap.IsSliceOf.new ..) pl .none pu (by simpa using Yw) ?_ (by rw[dr];exact hz)
  have RQ:slicePick ak.toArray (some a) none (some b)=((mH a b vs.length).filterMap (ak[·]?)).toArray:=by
   unfold slicePick mH;rw[dr];refine eu (λf=>(List.filterMap f _).toArray) (funext λi=>?_)
   rw[lF]
  rw[RQ];refine⟨.ref _,_,I4.laid (o:=.lst (ix a b vs)) (λb ob q=>ax _ q) (aq _) ?_,rfl,q _ (I4.hok.fresh (aq _))⟩
  exact⟨aM (List.length_filterMap_le _ _) (aM uq (by decide)),_,0,mi r _,bc _ rfl⟩
 exact lX (ops:=[.ref c,.ref s3.heap.objs.size]) ht.isList.typeIs slot_list_getitem.lookup hg (by with_unfolding_all rfl)
def RR{fl fh:Gx (Option Int)}(ha:PE X e (tE X aa ab fa))(hl:PO X lo (Jv X aa ab fl))(hh:PO X (some hi) (Jv X aa ab fh)):PE X (.Subscript e (.Slice lo none (some hi) p2) pos) (tE X aa ab (NG fa fl fh)):=(NH ha hl hh).imp λσ H Q ⟨F,st,R,h⟩ =>
 ⟨F,st,R,h.bnd λp v F1 aI H1 R1 g1 b1 h1=>⟨F1,aI,R1,h1.bnd λl l' F2 dF H2 R2 g2 b2 h2=>⟨F2,dF,R2,h2.bnd λr r' F3 II H3 R3 g3 b3 h3=>by
  cases b2;cases b3;obtain⟨o,e,z⟩:=h3.fD;unfold NF at e;split at e
  ·rename_i ps a b;obtain⟨hc,rfl⟩:=aw e;simp only[aC,bne_iff_ne,iO]at hc;obtain⟨ad,vs,rfl,hs,hb⟩:=cP.mp (b1.mono (g2.trans g3));rw[hb.length]at hc;refine⟨ad,a,b,vs,rfl,rfl,rfl,gI R3.sub hs,hc.1,hc.2,λq hq=>?_⟩
   obtain⟨R4,s4⟩:=R3.laid (.lst (ix a b vs)) hq;refine z _ _ _ R4 s4 (cP.mpr ⟨q,_,rfl,gE.of ar,?_⟩);unfold ix;rw[hb.length];exact(mj hb _).mono s4
  ·cases e⟩⟩⟩
end
noncomputable def Fh:PV->Option cL
 | .int i=>some (.inl i)
 | .str x=>some (.inr x)
 | _=>none
def i3:Bool->PV->Option (List cL)
 | false,p=>(Fh p).map λk=>[k]
 | true,.nd .aj ps=>if ps.length<1000 then aQ Fh ps else none
 | true,_=>none
noncomputable def gw(k:List cL)(ks:List (List cL)):Bool:=ks.any λj=>decide (j=k)
noncomputable def dj(k:List cL):List (List cL)->List PV->Option PV
 | j::ks,p::ps=>if j=k then some p else dj k ks ps
 | _,_=>none
noncomputable def v9(k:List cL)(q:PV):List (List cL)->List PV->List PV
 | j::ks,p::ps=>(if j=k then q else p)::v9 k q ks ps
 | _,ps=>ps
def wa:v9 k q [] ps=ps:=by cases ps<;>rfl
def uz(t:Bool)(k:List cL)(q:PV)(ks:List (List cL))(ps:List PV):ai:=if gw k ks=true then⟨.eW t ks,v9 k q ks ps⟩else⟨.eW t (ks++[k]),ps++[q]⟩
section
variable {K:W.Frag} {F:Fz}
def oZ(h:Fh p=some k)(b:aZ K F p v):v=kV k:=by
 cases p<;>cases h
 ·exact au.mp b
 ·exact bj.mp b
theorem rL:∀{ps:List PV} {ks:List cL} {vs:List V},aQ Fh ps=some ks->ao K F ps vs->vs=ks.map kV
 | [],_,_,h,b=>by cases h;exact b.bL
 | _::_,_,_,h,b=>by
  obtain⟨k,r,h1,h2,rfl⟩:=cW h;obtain⟨v,w,rfl,b1,b2⟩:=b.bB;rw[oZ h1 b1,rL h2 b2];rfl
def gJ(h:i3 false p=some k)(b:aZ K F p v):∃j,k=[j]/\v=kV j:=by
 obtain⟨j,e,rfl⟩:=aL h;exact⟨j,rfl,oZ e b⟩
def i4(h:i3 true p=some k)(b:aZ K F p v):∃c,v=.ref c/\fx K F.F c (k.map kV):=by
 unfold i3 at h;split at h
 ·grind
 ·obtain⟨_,h⟩:=bE h;obtain⟨c,vs,rfl,hs,hb⟩:=bt.mp b;rw[rL h hb]at hs;exact⟨c,rfl,hs⟩
 ·cases h
theorem i5(j:cL):∀kvs:List (cL×V),gw [j] (kvs.map λy=>[y.1])=(f7 kvs j).isSome
 | []=>rfl
 | (i,v)::r=>by
  have ih:=i5 j r;unfold gw at ih ⊢;rw[aA,lR,ih];by_cases h:i=j
  ·subst h;rw[kK rfl];simp
  ·rw[kL h];simp[h]
theorem nI:∀{kvs:List (cL×V)} {ps:List PV} {p:PV},dj [j] (kvs.map λy=>[y.1]) ps=some p->ao K F ps (kvs.map (·.2))->∃v,f7 kvs j=some v/\aZ K F p v
 | [],_,_,h,_=>by cases h
 | (i,v)::r,[],_,h,_=>by cases h
 | (i,v)::r,q::ps,p,h,b=>by
  obtain⟨v',w,e,b1,b2⟩:=b.bB;cases e;have h:(if [i]=[j]then some q else dj [j] (r.map λy=>[y.1]) ps)=some p:=h
  by_cases hi:i=j
  ·subst hi;rw[if_pos rfl]at h;cases h;exact⟨v,kK rfl,b1⟩
  ·rw[if_neg (by grind)]at h
   rw[kL hi];exact nI h b2
def Fj(bq:aZ K F q v)(b:ao K F ps (kvs.map (·.2))) :
  ∃rM vo,uz false [j] q (kvs.map λy=>[y.1]) ps=⟨.eW false rM,vo⟩/\(putK kvs j v).map (λy=>[y.1])=rM/\ao K F vo ((putK kvs j v).map (·.2)):=by
 unfold uz putK;rw[i5,oS];cases e:(f7 kvs j).isSome with
 | false=>exact⟨_,_,rfl,by simp,by simpa using b.append (.cons bq .nil)⟩
 | true =>
  refine⟨_,_,rfl,?_,?_⟩
  ·rw[if_pos rfl,cC];exact List.map_congr_left λy _=>by grind
  ·rw[if_pos rfl];clear e;induction kvs generalizing ps with
   | nil=>rw[bI,wa];exact b
   | cons y r ih =>
    cases ps with
    | nil=>have:=b.length;simp at this
    | cons p ps =>
     obtain⟨v',w,e,b1,b2⟩:=b.bB;simp only[aA,ou]at e;obtain⟨rfl,rfl⟩:=e;have ih:=ih b2;by_cases hy:y.1=j
     ·simpa only[aA,v9,hy,dc]using ao.cons bq ih
     ·have:¬ [y.1]=[j]:=by grind
      simpa only[aA,v9,hy,this,b6]using ao.cons b1 ih
def zi(k:List cL)(xs:List (List cL×Addr×Value)):gw k (xs.map (·.1))=(atKey xs k).isSome:=(Cg xs k).symm
theorem A1:∀{xs:List (List cL×Addr×Value)} {ps:List PV} {vs:List V} {p:PV},dj k (xs.map (·.1)) ps=some p->ao K F ps vs->Vals vs (xs.map (·.2.2))->∃a r v,atKey xs k=some (a,r)/\RelV v r/\aZ K F p v
 | [],_,_,_,h,_,_=>by cases h
 | x::r,[],_,_,h,_,_=>by cases h
 | x::r,q::ps,vs,p,h,b,rv=>by
  obtain⟨v',w,rfl,b1,b2⟩:=b.bB;cases rv with
  | cons r1 r2 =>
   have h:(if x.1=k then some q else dj k (r.map (·.1)) ps)=some p:=h
   by_cases hi:x.1=k
   ·rw[if_pos hi]at h;cases h;exact⟨x.2.1,x.2.2,v',by simp[atKey,hi],r1,b1⟩
   ·rw[if_neg hi]at h;obtain⟨a,r',v,h1,h2,h3⟩:=A1 h b2 r2;exact⟨a,r',v,by unfold atKey at h1 ⊢;rw[oo,bz hi];exact h1,h2,h3⟩
def NI(bq:aZ K F q v)(rq:RelV v r)(hc:fx K F.F c (k.map kV))(hk:ez K F.F xs)(b:ao K F ps vs)(rv:Vals vs (xs.map (·.2.2))) :
  ∃rM vo wb,uz true k q (xs.map (·.1)) ps=⟨.eW true rM,vo⟩/\(storedH xs k c r).map (·.1)=rM/\ez K F.F (storedH xs k c r)/\ao K F vo wb/\Vals wb ((storedH xs k c r).map (·.2.2)):=by
 unfold uz storedH;rw[zi];cases e:(atKey xs k).isSome with
 | false =>
  refine⟨_,_,vs++[v],rfl,by simp,λx hx=>?_,b.append (.cons bq .nil),by simpa using rv.append (.cons rq .nil)⟩
  simp only[cN,b6,cB,bF]at hx;rcases hx with hx | rfl
  ·exact hk x hx
  ·exact hc
 | true =>
  simp only[dc];have hm:(xs.map (putAt k r)).map (·.1)=xs.map (·.1):=by
   rw[cC];exact List.map_congr_left λy _=>by simp only[Function.comp,putAt];split<;>rfl
  have key:ez K F.F (xs.map (putAt k r)):=λx hx=>by
   obtain⟨y,hy,rfl⟩:=cJ.mp hx;have:=hk y hy;unfold putAt;split<;>exact this
  suffices h:∃wb,ao K F (v9 k q (xs.map (·.1)) ps) wb/\Vals wb ((xs.map (putAt k r)).map (·.2.2)) by
   obtain⟨wb,h1,h2⟩:=h;exact⟨_,_,wb,rfl,hm,key,h1,h2⟩
  clear e hk hm key;induction xs generalizing ps vs with
  | nil=>exact⟨vs,by rw[bI,wa];exact b,rv⟩
  | cons x xs ih =>
   cases ps with
   | nil=>rw[b.bL]at rv;cases rv
   | cons p ps =>
    obtain⟨v',w,rfl,b1,b2⟩:=b.bB;cases rv with
    | cons r1 r2 =>
     obtain⟨wb,h1,h2⟩:=ih b2 r2;by_cases hx:x.1=k
     ·exact⟨v::wb,by simpa only[aA,v9,hx,dc]using ao.cons bq h1,by simpa only[aA,putAt,hx,dc]using Paired.cons rq h2⟩
     ·exact⟨v'::wb,by simpa only[aA,v9,hx,b6]using ao.cons b1 h1,by simpa only[aA,putAt,hx,b6]using Paired.cons r1 h2⟩
end
def dX:G2:=λh p q=>match p with
 | .str z=>(qC q).bind λi=>if z.length<=gV then(mY z.cps.toList i).map λc=>.str ⟨#[c]⟩else none
 | p=>match dv h p with
  | some (.aj,ps)=>(qC q).bind (mY ps)
  | some (.lst,ps)=>(qC q).bind (mY ps)
  | some (.eW t ks,ps)=>(i3 t q).bind λk=>dj k ks ps
  | _=>none
section
variable {X:Cx} {aa:Hp} {ab:Fz} {a b e:Expr} {fa fb:Gx PV} {pos:Pos}
def ixT(hu:X.A.units+1150<cLine):P7 X (rT X.K dX):=by
 rintro value slice ae s σ H x y v u Q I rx ry ⟨aa,ab,F,st,τ,pa,pb,p,e,R,ba,bb,k⟩ hs
 have more:(match dv st.h pa with
  | some (.aj,ps)=>(qC pb).bind (mY ps)
  | some (.lst,ps)=>(qC pb).bind (mY ps)
  | some (.eW t ks,ps)=>(i3 t pb).bind λk=>dj k ks ps
  | _=>none)=some p->wpAny (model X.prog X.w) X.A (subscriptTail value slice v u) (EP X ae σ Q) X.xe s:=λe=>by
  split at e
  ·rename_i z;obtain⟨i,e1,e2⟩:=aF e;rw[eE e1]at bb;rw[au.mp bb]at ry;obtain⟨a,vs,rfl,ha,eR⟩:=R.at z ba;obtain⟨w,hw,bw⟩:=eR.mY e2;exact M5 value slice ae s σ H _ _ v u Q I rx ry ⟨a,vs,_,w,rfl,rfl,ha.2,hw,k _ H F R (Gr.refl F) bw⟩ hs
  ·rename_i z;obtain⟨i,e1,e2⟩:=aF e;rw[eE e1]at bb;rw[au.mp bb]at ry;obtain⟨a,vs,rfl,ha,eR⟩:=R.at z ba;obtain⟨w,hw,bw⟩:=eR.mY e2;exact Jc value slice ae s σ H _ _ v u Q I rx ry ⟨a,vs,_,w,rfl,rfl,gE.sq ha,hw,k _ H F R (Gr.refl F) bw⟩ hs
  ·rename_i t ks ps z;obtain⟨kk,e1,e2⟩:=aF e;obtain⟨a,vs,rfl,ha,eR⟩:=R.at z ba;cases rx;cases t with
   | false =>
    obtain⟨kvs,g1,g2,g3⟩:=ha;obtain⟨j,rfl,rfl⟩:=gJ e1 bb;subst g2 g3;obtain⟨w,hw,bw⟩:=nI e2 eR;obtain⟨_,hd,us,rel,dd⟩:=AQ I.hok (.inl g1);have hr:=rel.val j;rw[hw]at hr;cases hv:valueAt us j with
    | none=>rw[hv]at hr;exact hr.elim
    | some u' =>
     rw[hv]at hr;exact lX dd.typeIs PySem.F.slot_dict_getitem.lookup (wpAny_getItem_of (mG ry) dd.mapOf hv ⟨w,H,I.tok _,hr,k _ H F R (Gr.refl F) bw⟩) hs
   | true =>
    obtain⟨xs,g1,g2,g3,g4⟩:=ha;obtain⟨c,rfl,hc⟩:=i4 e1 bb;cases ry;subst g3;obtain⟨ad,r,w,hw,Jd,bw⟩:=A1 e2 eR g4;obtain⟨_,hd,dd⟩:=rH I (.inl g1) (λz hz=>aT R.sub (g2 z hz))
    obtain⟨o,_,_,ho,hx,_⟩:=id dd;refine lX ⟨o,ho,hx.1⟩ PySem.F.slot_dict_getitem.lookup (Rm (by lia) I (.inl g1) (λz hz=>aT R.sub (g2 z hz)) (aT R.sub hc) hw λs' I'=>⟨w,H,I',Jd,k _ H F R (Gr.refl F) bw⟩) hs
  ·cases e
 cases pa with
 | str z =>
  obtain⟨i,e1,e2⟩:=aF e;rw[eE e1]at bb;obtain⟨hz,e2⟩:=bE e2;obtain⟨c,e3,rfl⟩:=aL e2;rw[bj.mp ba]at rx;rw[au.mp bb]at ry;exact M6 value slice ae s σ H _ _ v u Q I rx ry ⟨z,i,c,rfl,rfl,dh hz,e3,k _ H F R (Gr.refl F) (bj.mpr rfl)⟩ hs
 | aV=>exact more e
 | bl _=>exact more e
 | int _=>exact more e
 | ref _=>exact more e
 | fn _=>exact more e
 | nd _ _=>exact more e
def Wb(hu:X.A.units+1150<cLine)(ha:PE X a (tE X aa ab fa))(hb:PE X b (tE X aa ab fb))(hs:kH b):PE X (.Subscript a b pos) (tE X aa ab (op2 dX fa fb)):=(EN (ixT hu) ha hb hs).imp λ_ _ _ h=>nG h
def qu(n:Bool):G2:=λh p q=>match dv h q with
 | some (.eW t ks,_)=>(i3 t p).map λk=>.bl (if n=true then !gw k ks else gw k ks)
 | _=>(E3 h q).bind λqs=>(V7 h p qs).map λb=>.bl (if n=true then !b else b)
def NJ(hu:X.A.units+1150<cLine):qr X (compareOp .In) (qu false):=by
 rintro ae s σ H x y v u Q I rx ry ⟨aa,ab,F,st,τ,pa,pb,p,e,R,ba,bb,k⟩
 unfold qu at e;split at e
 ·rename_i t ks ps z;obtain⟨kk,e1,rfl⟩:=aL e;obtain⟨a,vs,rfl,ha,eR⟩:=R.at z bb;cases ry;cases t with
  | false =>
   obtain⟨kvs,g1,g2,g3⟩:=ha;obtain⟨j,rfl,rfl⟩:=gJ e1 ba;obtain⟨_,hd,us,rel,dd⟩:=AQ I.hok (.inl g1);refine wpAny_in_of (mG rx) hd dd.mapOf ⟨.bl (f7 kvs j).isSome,H,I.tok _,?_,k _ H F R (Gr.refl F) (aS.mpr ?_)⟩
   ·rw[(rel.val j).rF];rfl
   ·rw[<-g2,i5];rfl
  | true =>
   obtain⟨xs,g1,g2,g3,g4⟩:=ha;obtain⟨c,rfl,hc⟩:=i4 e1 ba;cases rx;exact Rk (by lia) I (.inl g1) (λz hz=>aT R.sub (g2 z hz)) (aT R.sub hc) λs' I'=>⟨.bl _,H,I',rfl,k _ H F R (Gr.refl F) (aS.mpr (by rw[<-g3,zi];rfl))⟩
 ·obtain⟨qs,e1,e⟩:=aF e;obtain⟨b,e2,rfl⟩:=aL e;exact(E8 hu I rx ry R ba bb e1 e2).1 (k _ H F R (Gr.refl F) (aS.mpr rfl))
def Cr(hu:X.A.units+1150<cLine):qr X (compareOp .NotIn) (qu true):=by
 rintro ae s σ H x y v u Q I rx ry ⟨aa,ab,F,st,τ,pa,pb,p,e,R,ba,bb,k⟩
 unfold qu at e;split at e
 ·rename_i t ks ps z;obtain⟨kk,e1,rfl⟩:=aL e;obtain⟨a,vs,rfl,ha,eR⟩:=R.at z bb;cases ry;cases t with
  | false =>
   obtain⟨kvs,g1,g2,g3⟩:=ha;obtain⟨j,rfl,rfl⟩:=gJ e1 ba;obtain⟨_,hd,us,rel,dd⟩:=AQ I.hok (.inl g1);refine wpAny_notIn_of (mG rx) hd dd.mapOf ⟨.bl (!(f7 kvs j).isSome),H,I.tok _,?_,k _ H F R (Gr.refl F) (aS.mpr ?_)⟩
   ·rw[(rel.val j).rF];rfl
   ·rw[<-g2,i5];rfl
  | true =>
   obtain⟨xs,g1,g2,g3,g4⟩:=ha;obtain⟨c,rfl,hc⟩:=i4 e1 ba;cases rx;exact Rl (by lia) I (.inl g1) (λz hz=>aT R.sub (g2 z hz)) (aT R.sub hc) λs' I'=>⟨.bl _,H,I',rfl,k _ H F R (Gr.refl F) (aS.mpr (by rw[<-g3,zi];rfl))⟩
 ·obtain⟨qs,e1,e⟩:=aF e;obtain⟨b,e2,rfl⟩:=aL e;exact(E8 hu I rx ry R ba bb e1 e2).2 (k _ H F R (Gr.refl F) (aS.mpr rfl))
end
def JA:G2:=λ_ p q=>match q with | .aV=>some (.bl (!jD p)) | .bl b=>(V6 b p).map λc=>.bl (!c) | _=>none
def JB:qr X (compareOp .IsNot) JA:=by
 rintro ae s σ H x y v u Q I rx ry ⟨aa,ab,F,st,τ,pa,pb,p,e,R,ba,bb,k⟩
 unfold JA at e;split at e
 ·cases e;exact IP ae s σ H x y v u Q I rx ry ⟨cG.mp bb,k _ H F R (Gr.refl F) (aS.mpr (by rw[AY ba]))⟩
 ·rename_i b;obtain⟨c,e1,rfl⟩:=aL e;obtain⟨a,rfl,rfl⟩:=vX e1;rw[aS.mp ba]at rx;rw[aS.mp bb]at ry;cases rx;cases ry;exact wpAny_isNot_plain rfl ⟨.bl _,H,I,(by cases a<;>cases b<;>rfl),k _ H F R (Gr.refl F) (aS.mpr rfl)⟩
 ·cases e
def Yx:G2:=m5 (λ_ _=>true) λi j=>.bl (decide (j<i))
def wc:G2:=λh p q=>match p,q with
 | .str a,.str b=>some (.bl (!(decide (b.cps.toList<a.cps.toList))))
 | p,q=>Ys h p q
def NK:qr X (compareOp .LtE) wc:=by
 rintro ae s σ H x y v u Q I rx ry ⟨aa,ab,F,st,τ,pa,pb,p,e,R,ba,bb,k⟩
 unfold wc at e;split at e
 ·cases e;rw[bj.mp ba]at rx;rw[bj.mp bb]at ry;obtain⟨t1,rfl⟩:=rx;obtain⟨t2,rfl⟩:=ry;exact PySem.P.le_str ⟨.bl _,H,I,rfl,k _ H F R (Gr.refl F) (aS.mpr rfl)⟩
 ·exact eM (rK QS) (λ_ _ _=>trivial) (λ_ _ _=>aS.mpr rfl) ae s σ H x y v u Q I rx ry ⟨aa,ab,F,st,τ,pa,pb,p,e,R,ba,bb,k⟩
def zj:CmpOp->Option G2
 | .Eq=>some qt
 | .NotEq=>some xP
 | .Lt=>some Yr
 | .LtE=>some wc
 | .Gt=>some Yx
 | .GtE=>some Yt
 | .Is=>some UL
 | .IsNot=>some JA
 | .In=>some (qu false)
 | .NotIn=>some (qu true)
def jk(hu:X.A.units+1150<cLine)(h:zj op=some g):qr X (compareOp op) g:=by
 have nn:∀i j:Int,(λ_ _=>true) i j=true->(λ_ _=>True) i j:=by grind
 cases op<;>cases h
 ·exact Nw hu
 ·exact Nx hu
 ·exact eM (rK QR) nn λ_ _ _=>aS.mpr rfl
 ·exact NK
 ·exact eM (rK QT) nn λ_ _ _=>aS.mpr rfl
 ·exact eM (rK QU) nn λ_ _ _=>aS.mpr rfl
 ·exact Ny
 ·exact JB
 ·exact NJ hu
 ·exact Cr hu
end L2.U
namespace L2
open PySem PySem.Spec PyProof.Rows
section
variable {X:Cx}
def Fl:PE X (.Dict [] [] pos) (Lr (.dK [])):=λae s σ H Q I h =>
 wpAny_Dict_empty ⟨.ref s.heap.objs.size,_,I.laid (o:=.dK []) (λ_ _ q=>ax _ q) (aq _)
  ⟨fK _,g7.mpr (bJ (aO (iW I))),[],.nil,yE s.heap⟩,rfl,h _ (I.hok.fresh (aq _))⟩
def RS:V->List V->Hp->VK->Prop:=λx vs H Q=>∃a kvs k y,x=.ref a/\vs=[kV k,y]/\H a=some (.dK kvs)/\kvs.length<sizeLine/\(∀v,f7 kvs k=some v->Q v H)/\(f7 kvs k=none->Q y (cj H a (.dK (kvs++[(k,y)]))))
def NL:M4 X "dict.setdefault" RS:=by
 intro ae s σ H x xs v us Q I rx rv h;obtain⟨a,kvs,k,y,rfl,rfl,e,hl,h1,h2⟩:=h;cases rx;obtain⟨u1,u2,rfl,r1,r2⟩:=rv.two;obtain⟨z,hd,vs,rel,dd⟩:=EW I.hok e;refine call_meetsIn DU dd.typeIs PySem.F.entry_dict_setdefault (PySem.F.args_dict_setdefault_3 _ _ _) (kt_meets_setdefault (bA X.prog X.w) a (mG r1) hd u2) ⟨vs,dd,by rw[<-rel.length];exact z,λw hw=>?_,λhn h' Na hs=>?_⟩
 ·have rk:=rel.val k;rw[hw]at rk;cases hv:f7 kvs k with
  | none=>rw[hv]at rk;exact rk.elim
  | some v0=>rw[hv]at rk;exact⟨v0,H,I.tok _,rk,h1 v0 hv⟩
 ·have rk:=rel.val k;rw[hn]at rk;have hv:f7 kvs k=none:=by
   cases hv:f7 kvs k with
   | none=>rfl
   | some v0=>rw[hv]at rk;exact rk.elim
  have JC:=rel.put k r2;rw[EV y hv]at JC;have he:∃q,h'.get? a=some q:=let ⟨q,_,_,hq,_⟩:=Na;⟨q,hq⟩
  exact⟨y,_,I.write (o:=.dK (kvs++[(k,y)])) (by rw[e];exact True.intro) (.inl rfl) (λc q' hc z=>(hs.2 c hc).trans z) he ⟨by rw[cz];exact hl,hd,_,JC,Na⟩,r2,h2 hv⟩
def A2:V->List V->Hp->VK->Prop:=λx vs H Q=>∃(l:Addr) (xs:List V) (i:Int) (y:V),x=.ref l/\vs=[.int i,y]/\H l=some (.lst xs)/\xs.length<sizeLine/\0<=i/\i<=1000000/\Q .aV (cj H l (.lst (xs.take i.toNat++y::xs.drop i.toNat)))
def NM(h0:0<=i)(hi:i<=1000000):¬(!Builtin.List.listFitsIndex i)=true:=by
 unfold Builtin.List.listFitsIndex;have h1:decide (-(2^63:Int)<=i)=true:=by grind
 have h2:decide (i<2^63)=true:=by grind
 rw[h1,h2];simp
noncomputable def RT(i:Int)(u:Value):Array Value->Array Value:=λxs=>have k:=if i<0 then(i+((xs.size:Nat):Int)).toNat else min i.toNat xs.size;(xs.extract 0 k).push u++xs.extract k
def JD(h0:0<=i)(ak:List Value)(u:Value):RT i u ak.toArray=(ak.take i.toNat++u::ak.drop i.toNat).toArray:=by
 unfold RT;have h1:¬i<0:=by lia
 simp only[h1,bU];apply Array.ext';simp only[List.extract_eq_drop_take];by_cases hb:i.toNat<=ak.length
 ·rw[ox hb];have h2:List.take (ak.length-i.toNat) (List.drop i.toNat ak)=List.drop i.toNat ak:=lE (by grind)
  simp[h2]
 ·grind
def Cs:UG X "list.insert" A2:=by
 intro ae s σ H x vs v us Q I rx rv h;obtain⟨l,xs,i,y,rfl,rfl,hH,hz,h0,hi,q⟩:=h;cases rx;obtain⟨u1,u2,rfl,⟨t,rfl⟩,r2⟩:=rv.two;obtain⟨z,ak,n,r,hl,e⟩:=I.iB hH;have UM:=r.length;have J:=I.Jf (t':=s.toks) hH e (JD h0 ak u2) ((r.take i.toNat).append (.cons r2 (r.drop i.toNat))) (by grind)
 exact dN F.slot_list_insert ⟨_,e,rfl⟩ F.entry_list_insert (F.args_list_insert_3 _ _ _) (@PySem.AutoListH.list_insert_list_int_val_1 l ak.toArray n i t u2 (NM h0 hi) (by grind)) ⟨e,.aV,_,J,rfl,q⟩
def NN(K:W.Frag):V->List V->Hp->VK->Prop:=λx vs H Q=>∃l b xs zs,x=.ref l/\vs=[.ref b]/\H l=some (.lst xs)/\(fx K H b zs\/gE K H b zs)/\xs.length+zs.length<=sizeLine/\Q .aV (cj H l (.lst (xs++zs)))
def uA(l:Addr)(ak:Array Value)(n:Nat)(b:Addr)(more:Array Value)(n2:Nat)(dd:Option Addr)(sl:Array (Option Value))(h0:¬(!ak.isEmpty&&Builtin.List.listTooLong (ak.size+more.size))=true)(h1:ak.size<=sizeLine)(h2:ak.size+more.size<=sizeLine+1) :
  Meets (Builtin.«list.extend» ⟨[.ref l,.ref b],[]⟩) (λ_ R s=>s.heap.get? l=some {cls:=.type "list",dict:=none,data:=.seq ak n,slots:=#[]}/\s.heap.get? b=some {cls:=.type "tuple",dict:=dd,data:=.seq more n2,slots:=sl} /\
   R (.ok (.ret Value.none)) {s with heap:=s.heap.update l (Obj.mapSeq λx=>x++more),toks:=s.toks}) :=
 .of_wp λprog w A R s h=>by
  obtain⟨hp,g,d,tk,os⟩:=s;obtain⟨hl,hb,h⟩:=h;have f1:=AutoSeq1.idx_int;have f2:=AutoSeq1.sub_tuple_tuple;have f3:=AutoSeq1.sub_list_list;have f4:=AutoSeq1.sub_tuple_list;have f5:=AutoSeq1.sub_list_tuple
  wp_walk using (oj hl rfl (_hz':=(by rw[Array.size_append];exact h2))),iH hl,iH hb
  exact⟨_,rfl,h⟩
def NO:UG X "list.extend" (NN X.K):=by
 intro ae s σ H x vs v us Q I rx rv h;obtain⟨l,b,xs,zs,rfl,rfl,hH,hB,hz,q⟩:=h;cases rx;obtain⟨u,rfl,ru⟩:=rv.one;cases ru;obtain⟨z,ak,n,r,hl,e⟩:=I.iB hH;have go:∀cM,Vals zs cM->(¬(!ak.toArray.isEmpty&&Builtin.List.listTooLong (ak.toArray.size+cM.toArray.size))=true/\ak.toArray.size<=sizeLine/\ak.toArray.size+cM.toArray.size<=sizeLine+1) /\
   EP X ae σ Q Value.none {s with heap:=s.heap.update l (Obj.mapSeq λx=>x++cM.toArray),toks:=s.toks}:=λcM r2=>by
  have UK:=r2.length;have hsz:ak.toArray.size+cM.toArray.size<=sizeLine:=by grind
  refine⟨⟨?_,by grind,(Nat.le_add_right_of_le ‹_›)⟩,.aV,_,I.Jf hH e (by simp) (r.append r2) (by grind),rfl,q⟩
  rw[vM hsz,Bool.and_false];exact dJ
 rcases hB with hB | hB
 ·obtain⟨cM,r2,⟨⟨cls,dd,Yy,sl⟩,e2,hc,n2,hd⟩,_⟩:=I.tuple hB;simp only at hc hd;subst hc hd;obtain⟨⟨g1,g2,g3⟩,g4⟩:=go cM r2;exact dN F.slot_list_extend ⟨_,e,rfl⟩ F.entry_list_extend (F.args_list_extend_2 _ _) (uA l ak.toArray n b cM.toArray n2 dd sl g1 g2 g3) ⟨e,e2,g4⟩
 ·obtain⟨cM,n2,r2,e2,_⟩:=I.kM hB;obtain⟨⟨g1,g2,g3⟩,g4⟩:=go cM r2;exact dN F.slot_list_extend ⟨_,e,rfl⟩ F.entry_list_extend (F.args_list_extend_2 _ _) (AutoSeq1.list_extend_list_list_0 l ak.toArray n b cM.toArray n2 g1 g2 g3) ⟨e,e2,g4⟩
def A3(kvs:List (cL×V))(k:cL)(v:V):(putK kvs k v).length<=kvs.length+1:=by
 unfold putK;split
 ·grind
 ·grind
def RU:Ew:=λo i v H Q=>∃a kvs k,o=.ref a/\i=kV k/\H a=some (.dK kvs)/\kvs.length<sizeLine/\Q (cj H a (.dK (putK kvs k v)))
def NP:Ex X RU:=by
 rintro ae s σ H o i v ov iv u Q I ro ri rv ⟨a,kvs,k,ex,ey,e1,e2,q⟩
 subst ex ey;cases ro;obtain⟨z,hd,vs,rel,dd⟩:=EW I.hok e1;refine wpAny_setItem_pairs (mG ri) dd (λh' Na RV=>?_) (by rw[<-rel.length];exact z)
 have JC:=rel.put k rv;have he:∃q,h'.get? a=some q:=let ⟨q,_,_,hq,_⟩:=Na;⟨q,hq⟩
 exact⟨_,I.write (o:=.dK (putK kvs k v)) (by rw[e1];exact True.intro) (.inl rfl) (λc q' hc z=>(RV.2 c hc).trans z) he ⟨by have:=A3 kvs k v;lia,hd,_,JC,Na⟩,q⟩
def RW(K:W.Frag):Ew:=λo i v H Q=>∃a b xs k,o=.ref a/\i=.ref b/\H a=some (.dT xs)/\ez K H xs/\fx K H b (k.map kV)/\xs.length<sizeLine/\∀r,RelV v r->Q (cj H a (.dT (storedH xs k b r)))
def NQ(hu:X.A.units+1<cLine):Ex X (RW X.K):=by
 rintro ae s σ H o i v ov iv u Q I ro ri rv ⟨a,b,xs,k,ex,ey,e1,e2,e3,e4,q⟩
 subst ex ey;cases ro;cases ri;exact M9 hu I e1 e2 e3 e4 λs4 I4=>⟨_,I4,q u rv⟩
end
end L2
namespace L2.U
open PySem PySem.Spec PyProof.Rows
abbrev MG:=ai->List PV->Option (ai×PV)
def Ct(h:List ai):PV->Option (Nat×ai)
 | .ref n=>(h[n]?).bind λc=>if live c=true then some (n,c)else none
 | _=>none
def gK(e:Ct h p=some (n,c)):p=.ref n/\h[n]?=some c/\live c=true:=by
 cases p with
 | ref m =>
  obtain⟨d,e1,e2⟩:=aF e;obtain⟨hl,e3⟩:=aw e2;cases e3;exact⟨rfl,e1,hl⟩
 | _=>cases e
def o6(g:MG)(p:PV)(as:List PV):Gx PV:=λst=>(Ct st.h p).bind λc=>(g c.2 as).map λr=>(.ok r.2,⟨st.ρ,st.h.set c.1 r.1⟩)
section
variable {X:Cx} {aa H:Hp} {ab F:Fz} {st:bX} {σ:St}
def wd(K:W.Frag)(r:V->List V->Hp->VK->Prop)(g:MG):Prop:=∀(aa H:Hp) (ab F:Fz) (st:bX) (σ:St) (n:Nat) (c c':ai) (a:Addr) (as:List PV) (ws:List V) (q:PV) (Q:VK),
 Rep K aa ab F st σ H->st.h[n]?=some c->live c=true->F.μ[n]?=some a->g c as=some (c',q)->ao K F as ws->(∀v F' H',Rep K aa ab F' ⟨st.ρ,st.h.set n c'⟩ σ H'->Gr F F'->aZ K F' q v->Q v H')->r (.ref a) ws H Q
def Rep.put(R:Rep X.K aa ab F st σ H){c d:ai}(hc:st.h[n]?=some c)(hl:live c=true)(ha:F.μ[n]?=some a)(hn:jW X.K F.F (cj H a o) a true d.k vs)(hb:ao X.K F d.ps vs) :
  Rep X.K aa ab F ⟨st.ρ,st.h.set n d⟩ σ (cj H a o):=⟨R.c.write hc hl ha hn hb,R.l⟩
noncomputable def iB(f:List PV->List PV->Option (List PV)):MG:=λc as=>match c.k with
 | .lst=>(f c.ps as).map λqs=>(⟨.lst,qs⟩,.aV)
 | _=>none
def uB
  (h:∀(H:Hp) (F:Fz) (ps as qs:List PV) (vs ws:List V) (a:Addr) (Q:VK) (h:List ai),b8 F.F H->f ps as=some qs->H a=some (.lst vs)->ao X.K F ps vs->ao X.K F as ws->(∀wb,ao X.K F qs wb->Q .aV (cj H a (.lst wb)))->r (.ref a) ws H Q):wd X.K r (iB f):=by
 intro aa H ab F st σ n c c' a as ws q Q R hc hl ha hg hb k;unfold iB at hg;split at hg
 ·rename_i hk;obtain⟨qs,e1,e2⟩:=aL hg;cases e2;obtain⟨_,vs,h2,h3⟩:=R.c.cell n c a hc ha hl;rw[hk]at h2;exact h H F c.ps as qs vs ws a Q st.h R.sub e1 h2 h3 hb λwb b'=>k _ F _ (R.put hc hl ha ar b') (Gr.refl _) (cG.mpr rfl)
 ·cases hg
def zk:List PV->List PV->Option (List PV):=λps as=>match as with | [p]=>if ps.length<gV then some (ps++[p])else none | _=>none
def JE:wd X.K AO (iB zk):=uB λH F ps as qs vs ws a Q h hs hf ha bp ba k=>by
 unfold zk at hf;split at hf
 ·obtain⟨hl,rfl⟩:=aw hf;obtain⟨v,rfl,b⟩:=cu ba;exact⟨a,vs,v,rfl,rfl,ha,by rw[<-bp.length];exact bP hl (dh (aq _)),k _ (bp.append ba)⟩
 ·cases hf
noncomputable def JF:List PV->List PV->Option (List PV):=λps as=>match as with | []=>some ps.reverse | _=>none
def JG:wd X.K vN (iB JF):=uB λH F ps as qs vs ws a Q h hs hf ha bp ba k=>by
 unfold JF at hf;split at hf
 ·cases hf;exact⟨a,vs,rfl,ba.bL,ha,k _ bp.reverse⟩
 ·cases hf
def JH:List PV->List PV->Option (List PV):=λps as=>match as with
 | [.int i,p]=>if(0<=i/\i<=1000000/\ps.length<gV)then some (ps.take i.toNat++p::ps.drop i.toNat)else none
 | _=>none
def JI:wd X.K A2 (iB JH):=uB λH F ps as qs vs ws a Q h hs hf ha bp ba k=>by
 unfold JH at hf;split at hf
 ·obtain⟨⟨h1,h2,h3⟩,rfl⟩:=aw hf;obtain⟨w1,w2,rfl,b1,b2⟩:=kR ba;rw[au.mp b1];exact⟨a,vs,_,w2,rfl,rfl,ha,bP (by rw[<-bp.length];exact h3) (dh (aq _)),h1,h2,k _ ((bp.take _).append (.cons b2 (bp.drop _)))⟩
 ·cases hf
def uC(p:PV)(as:List PV):Gx PV:=λst=>match as with
 | [q]=>(E3 st.h q).bind λrs=>o6 (iB λps _=>if ps.length+rs.length<=gV then some (ps++rs)else none) p [] st
 | _=>none
def JJ:MG:=λc as=>match c.k,as with
 | .eW false ks,[kp,y]=>(i3 false kp).bind λk=>if ks.length<gV then(if gw k ks=true then(dj k ks c.ps).map λp=>(c,p)else some (⟨.eW false (ks++[k]),c.ps++[y]⟩,y))else none
 | _,_=>none
def JK:wd X.K RS JJ:=by
 intro aa H ab F st σ n c c' a as ws q Q R hc hl ha hg hb k;unfold JJ at hg;split at hg
 ·rename_i ks kp y hk;obtain⟨kk,e1,e2⟩:=aF hg;obtain⟨hz,e2⟩:=bE e2;obtain⟨w1,w2,rfl,b1,b2⟩:=kR hb;obtain⟨j,rfl,rfl⟩:=gJ e1 b1;obtain⟨_,vs,h2,h3⟩:=R.c.cell n c a hc ha hl;have hnd:=h2;rw[hk]at h2;obtain⟨kvs,g1,g2,g3⟩:=h2;rw[<-g3]at h3;refine⟨a,kvs,j,w2,rfl,rfl,g1,(by
   have:ks.length=kvs.length:=by grind
   exact bP (by grind) (dh (aq _))),λv hv=>?_,λhv=>?_⟩
  ·rw[if_pos (by rw[<-g2,i5,hv];rfl)]at e2
   obtain⟨p,e3,e4⟩:=aL e2;cases e4;rw[<-g2]at e3;obtain⟨v',MV,bv⟩:=nI e3 h3;rw[hv]at MV;cases MV;have e:st.h.set n c=st.h:=by
    apply tx;intro i;by_cases hi:n=i
    ·grind
    ·grind
   rw[e]at k;exact k v F H R (Gr.refl _) bv
  ·rw[if_neg (by rw[<-g2,i5,hv];simp)]at e2
   cases e2;refine k w2 F _ (R.put (vs:=kvs.map (·.2)++[w2]) hc hl ha ⟨kvs++[(j,w2)],ar,by grind⟩ ?_) (Gr.refl _) b2
   exact h3.append (.cons b2 .nil)
 ·cases hg
def Tx.mut(hg:wd X.K r g)(h:Tx X aa ab (aZ X.K) F st (o6 g p as) σ Q)(R:Rep X.K aa ab F st σ H)(bp:aZ X.K F p v)(ba:ao X.K F as ws):r v ws H Q:=by
 obtain⟨q,h1,h2⟩:=h;obtain⟨⟨n,c⟩,e1,e2⟩:=aF h1;obtain⟨⟨c',x⟩,e3,e4⟩:=aL e2;subst e4;obtain⟨rfl,hc,hl⟩:=gK e1;obtain⟨a,ha,rfl⟩:=dt.mp bp;exact hg aa H ab F st σ n c c' a as ws x Q R hc hl ha e3 ba λv F' H' R' g' b'=>h2 v H' F' R' g' b'
def Tx.ext{Q:VK}(h:Tx X aa ab (aZ X.K) F st (uC p as) σ Q)(R:Rep X.K aa ab F st σ H)(bp:aZ X.K F p v)(ba:ao X.K F as ws):NN X.K v ws H Q:=by
 obtain⟨x,h1,h2⟩:=h;unfold uC at h1;split at h1
 ·rename_i q;obtain⟨rs,e0,h1⟩:=aF h1;obtain⟨w,rfl,bw⟩:=cu ba;obtain⟨b,zs,rfl,hs,hb⟩:=R.seq e0 bw;obtain⟨⟨n,c⟩,e1,e2⟩:=aF h1;obtain⟨⟨c',y⟩,e3,e4⟩:=aL e2;subst e4;obtain⟨rfl,hc,hl⟩:=gK e1;obtain⟨a,ha,rfl⟩:=dt.mp bp;unfold iB at e3;split at e3
  ·rename_i hk;obtain⟨qs,e5,e6⟩:=aL e3;cases e6;obtain⟨hz,rfl⟩:=aw e5;obtain⟨_,vs,g2,g3⟩:=R.c.cell n c a hc ha hl;rw[hk]at g2;exact⟨a,b,vs,zs,rfl,rfl,g2,hs,by rw[<-g3.length,<-hb.length];exact dh hz,h2 .aV _ F (R.put hc hl ha ar (g3.append hb)) (Gr.refl _) (cG.mpr rfl)⟩
  ·cases e3
 ·cases h1
end
section
variable {prog:Program} {w:World} {A:Around} {R:Result->Shared->Prop} {s:Shared}
abbrev nb(prog:Program)(w:World)(A:Around)(env:Env)(R:Result->Shared->Prop):Value->Shared->Prop:=notedBy (model prog w) A env λe s'=>R (.error e) s'
noncomputable abbrev A4(ifs:List Expr)(env:Env):Sem Bool:=forIn ifs true λc r=>if r=true then do let ok <-isTrue c env (eval c env);pure (ForInStep.yield ok)else pure (ForInStep.yield r)
def Cu(I:Nat->Shared->Prop)
  (oJ:∀n s,I n s->wpAny (model prog w) A (pyNext it) (λr s1=>match r with
   | none=>R (.ok .next) s1
   | some v=>wpAny (model prog w) A (letOwnedTupleGo tg it v) (λ_ Yz=>wpAny (model prog w) A (assign tg env v) (λ_ s2=>wpAny (model prog w) A (A4 ifs env) (λok s3 =>
      if ok=true then wpAny (model prog w) A (eval elt env) (λx s4=>wpAny (model prog w) A (call (.builtin "list.append") [acc,x]) (λ_ s5=>∃m,m<n/\I m s5) (nb prog w A env R) s4) (nb prog w A env R) s3
      else ∃m,m<n/\I m s3) (nb prog w A env R) s2) (nb prog w A env R) Yz) (nb prog w A env R) s1) (nb prog w A env R) s)
  (n:Nat) (h:I n s):codeAny (model prog w) A (.compLoop (.ListComp elt [⟨tg,iter,ifs,0⟩] scope pos) 0 it acc env) R s:=by
 refine codeAny_loop rfl I (λn s hI=>?_) n h
 refine wpAny_noted ?_;rw[compTurn_list];refine af (t6 (af (thn (oJ n s hI) λr s1 h1=>?_)))
 cases r with
 | none=>exact ag h1
 | some v =>
  refine af (thn h1 λ_ Yz h1'=>af (thn h1' λ_ s2 h2=>af (thn h2 λok s3 h3=>?_)))
  cases ok with
  | false=>exact ag ⟨rfl,h3⟩
  | true=>exact af (af (thn h3 λx s4 h4=>af (thn h4 λ_ s5 h5=>ag (ag ⟨rfl,h5⟩))))
end
noncomputable def mm(env:Env):List (Str×NameKind)->List (Str×Addr)->List (Str×Addr)
 | [],cs=>cs
 | (n,k)::r,cs=>mm env r (if k==.free then(match env.cells.lookup n with | some c=>(n,c)::cs | none=>cs)else cs)
def zm(h:∀y∈scope.names,y.2=.free->∃c,env.cells.lookup y.1=some c):closureFor scope env=pure (mm env scope.names []):=by
 have all:∀(l:List (Str×NameKind)) (cs:List (Str×Addr)),(∀y∈l,y.2=.free->∃c,env.cells.lookup y.1=some c) ->
   (forIn l cs λx r=>(match x with | (name,kind)=>if(kind==NameKind.free)=true then do let a <-cellOf env name;pure (ForInStep.yield ((name,a)::r))else pure (ForInStep.yield r):Sem (ForInStep (List (Str×Addr)))))=pure (mm env l cs):=by
  intro l;induction l with
  | nil=>intro cs _;rfl
  | cons y l ih =>
   intro cs hl;obtain⟨n,k⟩:=y;rw[om];by_cases hk:k=.free
   ·subst hk;obtain⟨c,hc⟩:=hl (n,.free) cy rfl;have DN:=hc;have e1:cellOf env n=pure c:=by unfold cellOf;rw[DN]
    simp only[e1,mm,DN];exact ih _ λy hy=>hl y (bY _ hy)
   ·have hb:(k==NameKind.free)=false:=by simpa using hk
    simp only[hb,mm];exact ih _ λy hy=>hl y (bY _ hy)
 unfold closureFor;have:=all scope.names [] h;simp only[bind_pure]at this ⊢;exact this
theorem we:∀(l:List (Str×NameKind)) (cs:List (Str×Addr)) (p:Str×Addr),p∈mm env l cs->p∈cs\/env.cells.lookup p.1=some p.2
 | [],_,_,h=>.inl h
 | (n,k)::r,cs,p,h=>by
  unfold mm at h;rcases we r _ p h with q | q
  ·grind
  ·grind
def dk(h:(mm env l []).lookup x=some c):env.cells.lookup x=some c:=by
 rcases we l [] (x,c) (er h)with q | q
 ·cases q
 ·exact q
theorem rN:∀(l:List (Str×NameKind)) (cs:List (Str×Addr)),(∃c,(x,c)∈cs)->∃c,(x,c)∈mm env l cs
 | [],_,h=>h
 | (n,k)::r,cs,⟨c,h⟩=>by
  unfold mm;refine rN r _ ⟨c,?_⟩;split
  ·grind
  ·exact h
theorem o7:∀(l:List (Str×NameKind)) (cs:List (Str×Addr)),(x,NameKind.free)∈l->(∃c,env.cells.lookup x=some c)->∃c,(x,c)∈mm env l cs
 | [],_,h,_=>by cases h
 | (n,k)::r,cs,h,hc=>by
  unfold mm;rcases bh.mp h with z | z
  ·cases z;obtain⟨c,e⟩:=hc;refine rN r _ ⟨c,?_⟩;simp[e]
  ·exact o7 r _ z hc
theorem gy:∀{l:List (Str×Addr)},(x,c)∈l->∃c',l.lookup x=some c'
 | [],h=>by cases h
 | (n,d)::r,h=>by
  rw[gm];cases hx:x==n with
  | true=>exact⟨d,rfl⟩
  | false =>
   rcases bh.mp h with z | z
   ·grind
   ·exact gy z
def bR(X:Cx)(N:List Str)(scope:Scope)(C:Addr)(s:Shared)(H:Hp)(fp:List Addr):Cx where
 prog:=X.prog
 w:=X.w
 K:=X.K
 mg:=X.mg
 base:=X.base
 A:=X.A
 N:=N
 s₀:=s
 aa:=H
 env:=compEnvC scope (mm X.env scope.names []) C X.env
 aB:=X.stack
 stack:=X.stack
 ex:=fp
 fn:=λ_=>false
 calm:=X.calm
 pn:=[]
 xe:=λ_ _=>False
theorem fP{env:Env}:∀(names:List (Str×NameKind)) (x:Str),(names.map fun(n,k)=>if(k==NameKind.free&&env.scope.kind==.function&&env.kindOf n==some .cell)then(n,NameKind.cell)else(n,k)).lookup x =
  (names.lookup x).map λk=>if(k==NameKind.free&&env.scope.kind==.function&&env.kindOf x==some .cell)then NameKind.cell else k
 | [],_=>rfl
 | (n,j)::r,x=>by
  have e:(if(j==NameKind.free&&env.scope.kind==.function&&env.kindOf n==some .cell)=true then(n,NameKind.cell)else(n,j))=(n,if(j==NameKind.free&&env.scope.kind==.function&&env.kindOf n==some .cell)=true then NameKind.cell else j):=by split<;>rfl
  show List.lookup x ((if(j==NameKind.free&&env.scope.kind==.function&&env.kindOf n==some .cell)=true then(n,NameKind.cell)else(n,j))::_)=_
  rw[e,gm,gm];cases hx:x==n with
  | true =>
   have rO:=aG hx;subst rO;rfl
  | false=>exact fP r x
def kU{env:Env}{names:List (Str×NameKind)}(h:(names.map fun(n,k)=>if(k==NameKind.free&&env.scope.kind==.function&&env.kindOf n==some .cell)then(n,NameKind.cell)else(n,k)).lookup x=some k) :
  names.lookup x=some k\/(k=.cell/\names.lookup x=some .free):=by
 rw[fP]at h;cases z:names.lookup x with
 | none=>rw[z]at h;cases h
 | some j =>
  rw[z]at h;have h:(if(j==NameKind.free&&env.scope.kind==.function&&env.kindOf x==some .cell)=true then NameKind.cell else j)=k:=by grind
  split at h
  ·grind
  ·grind
def uD{env:Env}{names:List (Str×NameKind)}(h:names.lookup x=some .free) :
  (names.map fun(n,k)=>if(k==NameKind.free&&env.scope.kind==.function&&env.kindOf n==some .cell)then(n,NameKind.cell)else(n,k)).lookup x=some .cell \/
  (names.map fun(n,k)=>if(k==NameKind.free&&env.scope.kind==.function&&env.kindOf n==some .cell)then(n,NameKind.cell)else(n,k)).lookup x=some .free:=by
 rw[fP,h];show some (if _ then _ else _)=_\/some (if _ then _ else _)=_
 split
 ·grind
 ·grind
structure gL (X:Cx) (N:List Str) (link:List (Option Nat)) (scope:Scope):Prop where
 kind:scope.kind=.function
 cell:∀y∈scope.names,y.2≠.cell
 names:∀y∈scope.names,y.2=.local->scope.names.lookup y.1=some .local
 free:∀y∈scope.names,y.2=.free->(X.env.kindOf y.1=some .cell\/X.env.kindOf y.1=some .free)
 len:link.length=N.length
 link:∀(i j:Nat) (x:Str),link[i]?=some (some j)->N[i]?=some x->X.N[j]?=some x/\scope.names.lookup x=some .free
noncomputable def iy(link:List (Option Nat))(σ:St):St:=link.map λo=>o.bind λj=>(σ[j]?).join
section
variable {X:Cx} {ae:List (Addr×Obj)} {σ:St} {H:Hp} {s:Shared}
def Inv.adopt(I:Inv X ae σ H s)(hn:H D=none)(h1:X.s₀.heap.objs.size<=D)(h2:D≠X.env.locals)(h3:∀x c,X.env.cells.lookup x=some c->c≠D)(h4:∀p∈X.pn++ae,p.1≠D)
  (ho:eQ X.prog X.w (cj H D o) s.heap D o):Inv X ae σ (cj H D o) s:=by
 have ne:∀b u,H b=some u->b≠D:=λb u e z=>by rw[z,hn]at e;cases e
 refine I.step (ch:=[D]) (λb hb=>?_) (λb u _ _ _ e _=>e) (λb u _ _ _ e _=>⟨u.slots,e⟩) (λb u hc _ n=>?_) (λb u _ e=>⟨u,e⟩)
  (λb xs e=>by rw[aH (ne b _ e)];exact e) (λb u xs e=>by rw[aH (ne b _ e)];exact e) (λb ps e=>by rw[aH (ne b _ e)];exact e) (λm hm=>hm) (λb u e=>?_) I.bare
 ·have e:b=D:=by simpa using hb
  subst e;exact⟨.inr h1,h2,h3,h4⟩
 ·rw[aH (λz=>hc (by simp[z]))];exact n
 ·by_cases hb:b=D
  ·subst hb;rw[ar]at e;cases e;exact ho
  ·rw[aH hb]at e;exact(I.hok b u e).vB (λ_ _ _ q=>q) (λc q=>by rw[aH (ne c _ q)];exact q) (λc xs q=>by rw[aH (ne c _ q)];exact q) λc ob v q=>by rw[aH (ne c _ q)];exact q
def zo{N:List Str}{link:List (Option Nat)}(S:gL X N link scope)(I:Inv X ae σ H s)(UN:∀b∈fp,oK X ae H b)
  (hC:s.heap.objs.size<=C) (ns:h.Ns C λ_=>none) (hk:∀b o,s.heap.get? b=some o->h.get? b=some o) (Wc:∀b∈fp,∃o,s.heap.get? b=some o) :
  Inv (bR X N scope C s H fp) [] (iy link σ) H {s with heap:=h,toks:=tk}:=by
 have vE:∀y∈scope.names,y.2=.free->∃c,X.env.cells.lookup y.1=some c:=λy hy hf=>I.ok.has y.1 (S.free y hy hf)
 have Wd:∀x c,X.env.cells.lookup x=some c->c<s.heap.objs.size:=λx c e=>let ⟨v,o,ho,_⟩:=I.cell x c e;az ho
 refine⟨⟨I.ok.mod,S.kind,I.ok.glob,I.ok.blt,hC,λx y c h1 h2=>I.ok.inj x y c (dk h1) (dk h2),λx hx=>?_,λx c hx=>(by cases hx),I.ok.hd,I.ok.frames,.inl rfl,λb hb=>⟨?_,λx c e=>(UN b hb).2.2.2.2.1 x c (dk e)⟩,I.bs,aM I.ok.bsz I.sz,
  λb o e hb=>?_,λb hb z=>?_,I.stack,I.ue,I.tabs⟩,rfl,I.bare,Un.kept hk,⟨_,ns,λi x v e1 e2 e3=>?_⟩,λx c e=>?_,I.hok.fresh hC,λx c e=>I.freeC x c (dk e),λp hp=>(by cases hp),I.hok.kept hk,by unfold iy;rw[ah];exact S.len⟩
 ·-- Lb cells U9 there
  have rO:=hx;have hf:scope.names.lookup x=some .free:=by
   rcases rO with h1 | h1
   ·rcases kU h1 with q | ⟨_,q⟩
    ·exact absurd rfl (S.cell _ (er q))
    ·exact q
   ·rcases kU h1 with q | ⟨z,_⟩
    ·exact q
    ·cases z
  have hm:=er hf;obtain⟨c,hc⟩:=o7 scope.names [] hm (vE _ hm rfl);exact gy hc
 ·intro z;obtain⟨o,ho⟩:=Wc b hb;exact absurd (bP (az ho) (aM hC (iS z.symm))) (dM _)
 ·rcases(UN b hb).2.2.2.1 with z | z
  ·exact I.ok.noex b o e z
  ·exact absurd (bP (az e) (aM I.ok.bsz z)) (dM _)
 ·rcases bh.mp (I.ud b z)with q | q
  ·exact(UN b hb).2.1 q
  ·exact(UN b hb).2.2.1 q
 ·-- a slot: YA aam from Lb We
  have hi:i<link.length:=by
   have:=(b9.mp e2).1;unfold iy at this
   rwa [ah]at this
  unfold iy at e2;rw[bg,aR hi]at e2;have e2:=bG e2;cases z:link[i]with
  | none=>rw[z]at e2;cases e2
  | some j =>
   rw[z]at e2;have e2:(σ[j]?).join=some v:=e2;obtain⟨hX,hf⟩:=S.link i j x (by rw[aR hi,z]) e1
   have hm:=er hf;have UO:=S.free _ hm rfl;obtain⟨m,hn,hl⟩:=I.loc;obtain⟨u,r,l⟩:=hl j x v hX (by
    cases q:σ[j]? with
    | none=>rw[q]at e2;cases e2
    | some q'=>rw[q]at e2;cases q' with
     | none=>cases e2
     | some v'=>cases e2;rfl) (by rcases UO with q | q;exact .inr (.inl q);exact .inr (.inr q))
   refine⟨u,r,.inr ⟨uD hf,?_⟩⟩;obtain⟨c,hc⟩:=o7 scope.names [] hm (vE _ hm rfl);obtain⟨c',DN⟩:=gy hc;refine⟨c',DN,?_⟩;rcases l with⟨lk,_⟩ | ⟨_,d,hd,rj⟩
   ·rcases UO with q | q<;>(rw[show X.env.kindOf x=some .local from lk]at q;cases q)
   ·have:=dk DN;rw[hd]at this;cases this;exact rj.keeps hk
 ·obtain⟨v,o,ho,hd⟩:=I.cell x c (dk e);exact⟨v,o,hk _ _ ho,hd⟩
end
abbrev TB:=V->St->Hp->(Option V->St->Hp->Prop)->Prop
def PB(X:Cx)(tg:Expr)(ifs:List Expr)(elt:Expr)(tb:TB):Prop :=
 ∀(ae:List (Addr×Obj)) (s:Shared) (σ:St) (H:Hp) (v:V) (u:Value) (Q:Option V->St->Hp->Prop),Inv X ae σ H s->RelV v u->tb v σ H Q ->
  wpAny (model X.prog X.w) X.A (assign tg X.env u) (λ_ s2=>wpAny (model X.prog X.w) X.A (A4 ifs X.env) (λok s3 =>
   if ok=true then wpAny (model X.prog X.w) X.A (eval elt X.env) (λy s4=>∃v' bu H',Inv X ae bu H' s4/\RelV v' y/\Q (some v') bu H') X.xe s3
   else ∃bu H',Inv X ae bu H' s3/\Q none bu H') X.xe s2) X.xe s
def Fm(hg:PG X tg g)(he:PE X elt te):PB X tg [] elt (λv σ H Q=>g v σ H λhV H1=>te hV H1 λy H2=>Q (some y) hV H2):=by
 intro ae s σ H v u Q I r h;refine thn (hg ae s σ H v u _ I r h) λ_ s2 ⟨hV,H1,I1,q1⟩=>ag ?_
 rw[if_pos rfl];exact thn (he ae s2 hV H1 _ I1 q1) (by rintro y s4 ⟨v',H2,I2,r2,q2⟩;exact⟨v',hV,H2,I2,r2,q2⟩)
def JL(hg:PG X tg g)(hc:PT X c tc)(he:PE X elt te) :
  PB X tg [c] elt (λv σ H Q=>g v σ H λhV H1=>tc hV H1 λb H2=>if b=true then te hV H2 λy H3=>Q (some y) hV H3 else Q none hV H2):=by
 intro ae s σ H v u Q I r h;refine thn (hg ae s σ H v u _ I r h) λ_ s2 ⟨hV,H1,I1,q1⟩=>?_
 refine wpAny_tests_one (thn (hc ae s2 hV H1 _ I1 q1) λb s3 ⟨H2,I2,q2⟩=>?_)
 cases b with
 | true =>
  rw[if_pos rfl]at q2 ⊢;exact thn (he ae s3 hV H2 _ I2 q2) (by rintro y s4 ⟨v',H3,I3,r3,q3⟩;exact⟨v',hV,H3,I3,r3,q3⟩)
 | false =>
  rw[if_neg dJ]at q2 ⊢;exact⟨hV,H2,I2,q2⟩
def rP(link:List (Option Nat))(wi:TI)(tb:TB):TE:=λσ H Q=>wi σ H λJ H1=>∃W:Nat->Nat->List V->St->Hp->Prop,(∃m,W 0 m [] (iy link σ) H1)/\∀i m acc bu H',W i m acc bu H' ->
 (J.stop i H'/\acc.length<=sizeLine/\∀D,H' D=none->Q (.ref D) (cj H' D (.lst acc))) \/
 (J.go i H'/\acc.length<sizeLine/\∀x H2,J.yld i H' x H2->tb x bu H2 λo mX H3=>∃m',m'<m/\W (i+1) m' (acc++o.toList) mX H3)
structure Wf (X:Cx) (ae:List (Addr×Obj)) (H:Hp) (C:Addr):Prop where
 free:H C=none
 above:X.s₀.heap.objs.size<=C
 loc:C≠X.env.locals
 cell:∀x c,X.env.cells.lookup x=some c->c≠C
 pin:∀p∈X.pn++ae,p.1≠C
def rQ(hc:X.calm=true)(S:gL X N link scope)(hi:PI X tg iter wi)
  (hb:∀(C:Addr) (s:Shared) (H:Hp) (fp:List Addr),PB (bR X N scope C s H fp) tg ifs elt tb) (hs:∀x,foldedSetIterable iter X.env x=pure x) (I:Inv X ae σ H s) (h:rP link wi tb σ H Q)
  (Wg:∀(s5:Shared) (D C:Addr) (H5:Hp) (m:Str->Option Value),Inv X ae σ H5 s5->Q (.ref D) H5->s5.heap.Ns C m->Wf X ae H5 C->compPost (model X.prog X.w) X.A X.xe use Q' (.ref D) C (.ok .next) s5) :
  wpAny (model X.prog X.w) X.A (comprehension (.ListComp elt [⟨tg,iter,ifs,0⟩] scope pos) scope X.env qy (newList []) false (eval iter X.env) use) Q' X.xe s:=by
 have vE:∀y∈scope.names,y.2=.free->∃c,X.env.cells.lookup y.1=some c:=λy hy hf=>I.ok.has y.1 (S.free y hy hf)
 refine wpAny_comprehension_free rfl hs (zm vE) S.kind S.names (thn (hi ae s σ H _ I h) λv s1 h1=>thn h1 λVw s2 h2=>?_)
 obtain⟨it,fp,tn,J,H2,rfl,I2,T,dF,f2,W,⟨m0,w0⟩,oJ⟩:=h2;refine jM (wpAny_newFunctionEnv S.cell (by grind) (λfQ ns sb=>?_) S.kind)
 dsimp only at ns sb ⊢
 generalize hD:s2.heap.push {cls:=.type "list",dict:=none,data:=.seq [].toArray}=HD at ns sb ⊢
 have hC:HD.objs.size=s2.heap.objs.size+1:=by rw[<-hD,c6]
 have UP:s2.heap.objs.size≠HD.objs.size:=by grind
 have Fo:s2.heap.objs.size<=HD.objs.size:=by grind
 have old:∀b o,s2.heap.get? b=some o->fQ.get? b=some o:=λb o e=>by
  have wj:=az e;exact sb.extBut b o (aO (bP wj Fo)) (ax _ (by rw[<-hD];exact ax _ e))
 have Wh:fQ.get? s2.heap.objs.size=some {cls:=.type "list",data:=.seq [].toArray} :=
  sb.extBut _ _ UP (ax _ (by rw[<-hD];exact bc _ rfl))
 generalize eD:s2.heap.objs.size=D at *
 generalize eC:HD.objs.size=C at *
 have YB:∀b∈fp,∃o,s2.heap.get? b=some o:=λb jj=>let ⟨o,e,_⟩:=T.obj _ _ dF b jj;⟨o,e⟩
 have I3:∀tk,Inv (bR X N scope C s2 H2 fp) [] (iy link σ) H2 {s2 with heap:=fQ,toks:=tk}:=λtk =>
  zo S I2 f2 (by rw[eD];exact Fo) ns old YB
 have YC:∀b∈fp,b≠D:=λb jj z=>by
  obtain⟨o,e⟩:=YB b jj;have:=az e;rw[z,<-eD]at this;exact dM _ this
 have yP:∀{H':Hp} {pl:List (Addr×Obj)},(∀b∈fp,H' b=none)->(∀p∈pl,p.1=D)->∀b∈fp,oK (bR X N scope C s2 H2 fp) pl H' b:=λ{H' pl} hn hp b jj=>by
  have K0:=(I3 0).ok.exf b jj;exact⟨hn b jj,K0.1,(I3 0).ok.exfs b jj,.inl jj,K0.2,λp xQ z=>YC b jj (z▸hp p (by simpa[bR]using xQ))⟩
 have RX:∀x c,(bR X N scope C s2 H2 fp).env.cells.lookup x=some c->c≠D:=λx c e z=>by
  obtain⟨v,o,ho,_⟩:=I2.cell x c (dk e);have:=az ho;rw[z,<-eD]at this;exact dM _ this
 have fsD:D∉(bR X N scope C s2 H2 fp).fs:=λz=>by
  obtain⟨_,o,ho,_⟩:=I2.stack.mem z;have:=az ho;rw[<-eD]at this;exact dM _ this
 have loop:∀s3:Shared,s3={s2 with heap:=fQ,toks:=s2.toks+([]:List (Str×Value)).length} ->
   codeAny (model X.prog X.w) X.A (.compLoop (.ListComp elt [⟨tg,iter,ifs,0⟩] scope pos) 0 (.ref it) (.ref D) (bR X N scope C s2 H2 fp).env) (compPost (model X.prog X.w) X.A X.xe use Q' (.ref D) C) s3:=by
  rintro s3 rfl
  refine Cu (λn s'=>∃i acc bu H' ak nn,Inv (bR X N scope C s2 H2 fp) [] bu H' s'/\tn i s'.heap/\(∀b∈fp,H' b=none)/\H' D=none/\s'.heap.get? D=some {cls:=.type "list",data:=.seq ak.toArray nn}/\Vals acc ak/\W i n acc bu H') ?_ m0
   ⟨0,[],_,H2,[],0,I3 _,T.keep _ _ _ dF λb jj o e=>old b o e,λb jj=>(f2 b jj).1,I2.hok.fresh (iS eD),Wh,.nil,w0⟩
  rintro n s4 ⟨i,acc,Lw,H4,ak,nn,I4,HU,YD,hD4,ET,hv,w4⟩
  have RY:Inv (bR X N scope C s2 H2 fp) [(D,{cls:=.type "list",data:=.seq ak.toArray nn})] Lw H4 s4:=I4.kB λp hp=>by
   have e:p=(D,{cls:=.type "list",data:=.seq ak.toArray nn}):=by simpa using hp
   subst e;exact⟨ET,hD4,UP,fsD,λv=>by simp⟩
  have Fp:∀p∈[(D,({cls:=.type "list",data:=.seq ak.toArray nn}:Obj))],p.1=D:=λp hp=>by
   have e:p=(D,{cls:=.type "list",data:=.seq ak.toArray nn}):=by simpa using hp
   rw[e]
  rcases oJ i n acc Lw H4 w4 with⟨stop,hz,q⟩ | ⟨go,hz,step⟩
  ·refine thn (T.done (bR X N scope C s2 H2 fp) rfl rfl rfl hc i _ s4 Lw H4 _ RY (yP YD Fp) HU stop) λr s5 ⟨hr,I5⟩=>?_
   subst hr;obtain⟨m,hn,_⟩:=I5.loc;have pD:=I5.pin (D,{cls:=.type "list",data:=.seq ak.toArray nn}) (ek _ (bF.mpr rfl))
   have Ly:∀b o,s2.heap.get? b=some o->b≠D/\b≠C:=λb o e=>by
    have:=az e;rw[eD]at this;exact⟨aO this,aO (bP this Fo)⟩
   have Lz:X.env.locals≠D/\X.env.locals≠C:=by
    have:=I2.lt;rw[eD]at this;exact⟨aO this,aO (bP this Fo)⟩
   have I6:=I2.Li I5.os I5.base I5.hok I5.bare λb jj=>⟨(f2 b jj).2.2.2.1,(f2 b jj).2.1,(f2 b jj).2.2.2.2.1,(f2 b jj).2.2.2.2.2⟩
   have I7:=Inv.adopt (o:=.lst acc) I6 pD.2.1 (aM I2.sz (iS eD)) (bJ Lz.1) (λx c e=>let ⟨v,o,ho,_⟩:=I2.cell x c e;(Ly c o ho).1)
    (λp hp=>(Ly p.1 p.2 (I2.pin p hp).1).1) ⟨hz,ak,nn,hv,pD.1⟩
   exact Wg s5 D C _ m I7 (q D pD.2.1) hn ⟨by rw[aH (bJ UP)];exact I5.free,aM (aM I2.sz (iS eD)) Fo,bJ Lz.2,λx c e=>let ⟨v,o,ho,_⟩:=I2.cell x c e;(Ly c o ho).2,λp hp=>(Ly p.1 p.2 (I2.pin p hp).1).2⟩
  ·refine thn (T.item (bR X N scope C s2 H2 fp) rfl rfl rfl hc i _ s4 Lw H4 _ RY (yP YD Fp) HU go) λr s5 ⟨u,hr,h5⟩=>?_
   subst hr;refine thn h5 λ_ YE z9=>?_
   obtain⟨x,H5,I5,r5,y5,MJ,VA⟩:=z9;have VB:=I5.pinned (yP VA Fp) (T.obj _ _ MJ);have iU:∀{o:Option V} {Uz:St} {H6:Hp} {s6:Shared},Inv (bR X N scope C s2 H2 fp) ([(D,{cls:=.type "list",data:=.seq ak.toArray nn})]++oM fp YE.heap) Uz H6 s6 ->
     tn (i+1) s6.heap/\(∀b∈fp,H6 b=none)/\H6 D=none/\s6.heap.get? D=some {cls:=.type "list",data:=.seq ak.toArray nn}:=λ{o Uz H6 s6} I6=>by
    have pD:=I6.pin (D,_) (ek _ (nZ _ (bF.mpr rfl)));refine⟨T.keep _ _ _ MJ λb jj o e=>(I6.pin (b,o) (ek _ (ek _ (hW jj e)))).1,λb jj=>?_,pD.2.1,pD.1⟩
    obtain⟨o,e,d⟩:=T.obj _ _ MJ b jj;exact(I6.pin (b,o) (ek _ (ek _ (hW jj e)))).2.1
   refine oC (hb C s2 H2 fp _ YE Lw H5 x u _ VB r5 (step x H5 y5)) (λ_ s6 h6=>oC h6 (λok s7 h7=>?_) λ_ _ z=>False.elim z) λ_ _ z=>False.elim z
   cases ok with
   | false =>
    rw[if_neg dJ]at h7 ⊢;obtain⟨UQ,H8,I8,m',Wi,w8⟩:=h7;obtain⟨a1,a2,a3,a4⟩:=iU (o:=none) I8;exact⟨m',Wi,i+1,_,UQ,H8,ak,nn,I8.kB (λp hp=>by cases hp),a1,a2,a3,a4,by simpa using hv,w8⟩
   | true =>
    rw[if_pos rfl]at h7 ⊢;refine oC h7 (λy s8 z9=>?_) λ_ _ z=>False.elim z
    obtain⟨v8,UQ,H8,I8,r8,m',Wi,w8⟩:=z9;obtain⟨a1,a2,a3,a4⟩:=iU (o:=some v8) I8;have hl:=hv.length;refine dN F.slot_list_append ⟨_,a4,rfl⟩ F.entry_list_append (F.args_list_append_2 _ _) (PySem.list_append D ak.toArray nn y (by rw[bU];lia)) ⟨a4,?_⟩
    have I9:Inv (bR X N scope C s2 H2 fp) [] UQ H8 s8:=I8.kB (λp hp=>by cases hp)
    have qq:=PySem.IsL.update a4 λz=>z.push y
    have hp:ak.toArray.push y=(ak++[y]).toArray:=by simp
    rw[hp]at qq;refine⟨m',Wi,i+1,_,UQ,H8,ak++[y],_,I9.turned (λb o hne e=>(iI _ _ (bJ hne)).trans e) a3 UP (.inr (iS eD)) RX (λp hp=>by simp[bR]at hp),T.keep _ _ _ a1 λb jj o e=>(iI _ _ (bJ (YC b jj))).trans e,a2,a3,qq,hv.append (.cons r8 .nil),w8⟩
 exact codeAny_compStart_list (loop _ rfl) (T.self _ 0 _ _ _ (T.keep _ _ _ dF λb jj o e=>old b o e) (loop _ rfl))
def A5(hc:X.calm=true)(S:gL X N link scope)(hi:PI X tg iter wi)
  (hb:∀(C:Addr) (s:Shared) (H:Hp) (fp:List Addr),PB (bR X N scope C s H fp) tg ifs elt tb) (hs:∀x,foldedSetIterable iter X.env x=pure x:=by intro _;rfl) :
  PE X (.ListComp elt [⟨tg,iter,ifs,0⟩] scope pos) (rP link wi tb):=by
 intro ae s σ H Q I h;rw[eval_ListComp];refine rQ hc S hi hb hs I h λs5 D C H5 m I5 q hn L=>⟨m,hn,λh' sb=>?_⟩
 exact⟨.ref D,H5,I5.turned (λb o hne e=>(sb.2 b hne).trans e) L.free L.loc (.inr L.above) L.cell L.pin,rfl,q⟩
def A6(hc:X.calm=true)(hN:X.N.Nodup)(hx:X.N[i]?=some x)(hl:X.env.scope.names.lookup x=some .local)(S:gL X N link scope)(hi:PI X tg iter wi)
  (hb:∀(C:Addr) (s:Shared) (H:Hp) (fp:List Addr),PB (bR X N scope C s H fp) tg ifs elt tb) (hw:swapsWith (.ListComp elt [⟨tg,iter,ifs,0⟩] scope pos) (some (.Name x qy)) Cv.line X.env=pure true) (hs:∀x,foldedSetIterable iter X.env x=pure x:=by intro _;rfl) :
  PS X (.Assign [.Name x qy] (.ListComp elt [⟨tg,iter,ifs,0⟩] scope pos) Cv) (IG (rP link wi tb) (gName i)):=by
 intro ae s σ H D I h;rw[exec_Assign_Name_used _ _ _ _ hw];refine af (t6 (af ?_));refine af (thn (rQ hc S hi hb hs I h λs5 a C H5 m I5 q hn L=>?_) λ_ s' q=>ag (ag q))
 refine wpAny_assign_Name (store_ok2 (v:=.ref a) I5 hN hx (.inl hl) rfl (λs6 I6 k=>?_) (.inr hl))
 refine⟨m,?_,λh' sb=>?_⟩
 ·obtain⟨o,es,ep,ho,r⟩:=hn;obtain⟨b,sb1,hor⟩:=k;have ne:C≠b:=λz=>by
   rcases hor with w | w
   ·exact L.loc (z.trans w)
   ·exact L.cell x b w z.symm
  exact⟨o,es,ep,(sb1.2 C ne).trans ho,r⟩
 ·exact⟨_,H5,I6.turned (λb o hne e=>(sb.2 b hne).trans e) L.free L.loc (.inr L.above) L.cell L.pin,q⟩
noncomputable def cR(link:List (Option Nat))(ρ:List (Option PV)):List (Option PV):=link.map λo=>o.bind λj=>(ρ[j]?).join
def KG(L:List Nat)(g:Tg):Prop:=∀p st aI,g p st=some aI->aI.ρ.length=st.ρ.length/\∀j:Nat,j∉L->aI.ρ[j]?=st.ρ[j]?
def RZ(L:List Nat)(g:P8):Prop:=∀p st aI,g p st=some aI->aI.ρ.length=st.ρ.length/\∀j:Nat,j∉L->aI.ρ[j]?=st.ρ[j]?
def JM(i:Nat):KG [i] (cg i):=λp st aI h=>by
 obtain⟨_,rfl⟩:=aw h;exact⟨tM,λj hj=>jJ (λz=>hj (by simp[z]))⟩
def JN:RZ [] m4:=λp st aI h=>by
 cases p with
 | nil=>cases h;exact⟨rfl,λ_ _=>rfl⟩
 | cons _ _=>cases h
def Fq(h1:KG L g)(h2:RZ M r):RZ (L++M) (dw g r):=λp st aI h=>by
 cases p with
 | nil=>cases h
 | cons p ps =>
  obtain⟨dF,e1,e2⟩:=aF h;obtain⟨l1,k1⟩:=h1 p st dF e1;obtain⟨l2,k2⟩:=h2 ps dF aI e2;exact⟨l2.trans l1,λj hj=>(k2 j λz=>hj (ek _ z)).trans (k1 j λz=>hj (nZ _ z))⟩
def NR(h:RZ L r):KG L (kN n r):=λp st aI e=>by
 unfold kN at e;split at e
 ·obtain⟨_,e⟩:=bE e;exact h _ st aI e
 ·obtain⟨_,e⟩:=bE e;exact h _ st aI e
 ·cases e
section
variable {K:W.Frag} {F:Fz} {ρ:List (Option PV)} {σ:St}
def Lc.iy(L:Lc K F ρ σ)(link:List (Option Nat)):Lc K F (cR link ρ) (iy link σ) where
 av:=λi p e=>by
  unfold cR at e;rw[bg]at e;cases z:link[i]? with
  | none=>rw[z]at e;cases e
  | some o =>
   rw[z]at e;cases o with
   | none=>cases e
   | some j =>
    have e:(ρ[j]?).join=some p:=bG e;cases w:ρ[j]? with
    | none=>rw[w]at e;cases e
    | some q =>
     rw[w]at e;cases e;obtain⟨v,h1,h2⟩:=L.av j p w;refine⟨v,?_,h2⟩;unfold L2.U.iy;rw[bg,z];show some ((σ[j]?).join)=_;rw[h1];rfl
 len:=by unfold cR L2.U.iy;rw[ah,ah]
def Lc.back{L:List Nat}(R:Lc K F Wj σ)(hl:Wk.length=σ.length)(h0:Wk=cR link ρ)(hk:∀j:Nat,j∉L->Wj[j]?=Wk[j]?)(hL:∀i∈L,link[i]?=some none):Lc K F Wk σ where
 av:=λi p e=>by
  refine R.av i p ?_;rw[hk i λhi=>?_]
  ·exact e
  ·rw[h0]at e;unfold cR at e;rw[bg,hL i hi]at e;cases e
 len:=hl
end
noncomputable def Wl{α:Type}:Rs α×bX->Option (α×List ai)
 | (.ok a,st)=>some (a,st.h)
 | _=>none
abbrev Bd:=List (Option PV)->PV->List ai->Option (Option PV×List ai)
def m8(g:Tg)(fe:Gx PV):Bd:=λρ p h=>(g p ⟨ρ,h⟩).bind λaI=>(fe aI).bind λr=>(Wl r).map λx=>(some x.1,x.2)
def Fs(g:Tg)(ft:Gx Bool)(fe:Gx PV):Bd:=λρ p h=>(g p ⟨ρ,h⟩).bind λaI=>(ft aI).bind λr=>match r with
 | (.ok b,dF)=>if b=true then(fe dF).bind λr=>(Wl r).map λx=>(some x.1,x.2)else some (none,dF.h)
 | _=>none
noncomputable def gM(bd:PV->List ai->Option (Option PV×List ai)):List PV->List ai->Option (List PV×List ai)
 | [],h=>some ([],h)
 | p::ps,h=>(bd p h).bind λr=>(gM bd ps r.2).map λs=>(r.1.toList++s.1,s.2)
section
variable {X:Cx} {aa:Hp} {ab:Fz} {N:List Str} {link:List (Option Nat)} {scope:Scope} {tg iter elt c:Expr} {pos:Pos} {fi:Gx (List PV)} {g:Tg} {fe:Gx PV} {ft:Gx Bool} {L:List Nat} {cl:Bool}
def wm(e:Wl r=some (a,h)):∃st,r=(.ok a,st)/\st.h=h:=by
 obtain⟨r,st⟩:=r;cases r with
 | ok x=>cases e;exact⟨st,rfl,rfl⟩
 | ex m C=>cases e
def _root_.L2.U.PB.imp(h:PB Y tg ifs elt tb)(i:∀v σ H Q,tb' v σ H Q->tb v σ H Q):PB Y tg ifs elt tb':=λae s σ H v u Q I r w=>h ae s σ H v u Q I r (i _ _ _ _ w)
def YF(X:Cx)(aa:Hp)(ab:Fz)(g:Tg)(fe:Gx PV):TB:=λv σ H Q=>tG X.K aa ab g v σ H λhV H1=>∀Y:Cx,Y.K=X.K->tE Y aa ab fe hV H1 λy H2=>Q (some y) hV H2
def YG(X:Cx)(aa:Hp)(ab:Fz)(g:Tg)(ft:Gx Bool)(fe:Gx PV):TB:=λv σ H Q=>tG X.K aa ab g v σ H λhV H1=>∀Y:Cx,Y.K=X.K->tT Y aa ab ft hV H1 λt H2=>if t=true then tE Y aa ab fe hV H2 λy H3=>Q (some y) hV H3 else Q none hV H2
section
variable (ht:∀(C:Addr) (s:Shared) (H:Hp) (fp:List Addr),PG (bR X N scope C s H fp) tg (tG X.K aa ab g)) (he:∀(C:Addr) (s:Shared) (H:Hp) (fp:List Addr),PE (bR X N scope C s H fp) elt (tE (bR X N scope C s H fp) aa ab fe))
include ht he
def YH(C:Addr)(s:Shared)(H:Hp)(fp:List Addr):PB (bR X N scope C s H fp) tg [] elt (YF X aa ab g fe) :=
 (Fm (ht C s H fp) (he C s H fp)).imp (by rintro v σ H Q ⟨F,st,p,bK,R,b,e,q⟩;exact⟨F,st,p,bK,R,b,e,λbu H' F' R' g'=>q bu H' F' R' g' _ rfl⟩)
def YI(hw:∀(C:Addr) (s:Shared) (H:Hp) (fp:List Addr),PT (bR X N scope C s H fp) c (tT (bR X N scope C s H fp) aa ab ft))(C:Addr)(s:Shared)(H:Hp)(fp:List Addr):PB (bR X N scope C s H fp) tg [c] elt (YG X aa ab g ft fe) :=
 (JL (ht C s H fp) (hw C s H fp) (he C s H fp)).imp (by rintro v σ H Q ⟨F,st,p,bK,R,b,e,q⟩;exact⟨F,st,p,bK,R,b,e,λbu H' F' R' g'=>q bu H' F' R' g' _ rfl⟩)
end
def nJ(h:tS X aa ab (kO fe (cg i)) D σ H):tE X aa ab fe σ H λv H1=>D.nx (σ.set i (some v)) H1:=by
 obtain⟨F,st,R,h⟩:=h;refine⟨F,st,R,h.bnd λp v F1 aI H1 R1 g1 b1 h1=>?_⟩
 obtain⟨bK,e,z⟩:=h1.stp;obtain⟨hi,rfl⟩:=aw e;exact z F1 _ H1 ⟨R1.c,R1.l.set hi b1⟩ (Gr.refl _)
end
def SI(h:Heap)(it l:Addr)(k:Nat)(xs:Array Value):Prop:=(h.IsListIter it l k/\h.IsList l xs)\/(h.IsTupleIter it l k/\h.IsTuple l xs)
def SI.at{h h':Heap}{it l:Addr}{k:Nat}{xs:Array Value}(x:SI h it l k xs)(h1:∀o,h.get? it=some o->h'.get? it=some o)(h2:∀o,h.get? l=some o->h'.get? l=some o):SI h' it l k xs:=by
 rcases x with⟨⟨o,e,r⟩,⟨o',e',r'⟩⟩ | ⟨⟨o,e,r⟩,⟨o',e',r'⟩⟩
 ·exact .inl ⟨⟨o,h1 o e,r⟩,⟨o',h2 o' e',r'⟩⟩
 ·exact .inr ⟨⟨o,h1 o e,r⟩,⟨o',h2 o' e',r'⟩⟩
def SI.LA{h:Heap}{it l:Addr}{k:Nat}{xs:Array Value}(x:SI h it l k xs):∃o,h.get? it=some o/\∃vs,o.data=.fields vs:=by
 rcases x with⟨⟨o,e,_,d⟩,_⟩ | ⟨⟨o,e,_,d⟩,_⟩
 ·grind
 ·grind
def SI.sq{h:Heap}{it l:Addr}{k:Nat}{xs:Array Value}(x:SI h it l k xs):∃o n,h.get? l=some o/\o.data=.seq xs n:=by
 rcases x with⟨_,⟨o,e,_,n,d⟩⟩ | ⟨_,⟨o,e,_,n,d⟩⟩
 ·grind
 ·grind
def SI.ne{h:Heap}{it l:Addr}{k:Nat}{xs:Array Value}(x:SI h it l k xs):l≠it:=λz=>by
 obtain⟨o,e,vs,d⟩:=x.LA;obtain⟨o',n,e',d'⟩:=x.sq;subst z;rw[e]at e';cases e';rw[d]at d';cases d'
section
variable {prog:Program} {w:World} {A:Around} {E:Value->Shared->Prop} {s:Shared}
def zt{it t:Addr}{i:Nat}{ak:Array Value}{x:Value}{Q:Value->Shared->Prop}(NS:s.heap.IsTupleIter it t i)(ht:s.heap.IsTuple t ak)(hx:ak[i]?=some x)
  (hQ:∀h',h'.IsTupleIter it t (i+1)->Heap.SameBut it s.heap h'->Q x {s with heap:=h'}):wpAny (model prog w) A (Builtin.SmallTypes.nextOf (.ref it)) Q E s:=by
 obtain⟨o,ho,hc,hd⟩:=id NS;obtain⟨ol,m9,_,nl,LB⟩:=ht;refine af (eX NS.typeIs s9 (fg s9 NS.typeIs DW (by
  show wpAny _ _ (field (.ref it) 0 >>= _) _ _ s;refine af (cb ho hd rfl ?_);show wpAny _ _ (if(Value.ref t==Value.none)=true then _ else _) _ _ s
  rw[if_neg (show ¬((Value.ref t==Value.none)=true)from dJ)]
  show wpAny _ _ (field (.ref it) 1 >>= _) _ _ s;refine af (cb ho hd (x:=.int i 0) rfl ?_);show wpAny _ _ (seqItems? (.ref t) >>= _) _ _ s;refine af (fJ m9 LB ?_);simp only[lJ,hx];refine af (wpAny_setField ho hd (by simp) (ag ⟨x,rfl,ag (hQ _ ⟨_,iJ _ ho (Obj.isFreed_of_fields (Obj.data_mapFields hd _)),(Obj.cls_mapFields ..).trans hc,by rw[Obj.data_mapFields hd];simp[rawInt]⟩ (ym ..))⟩))) (DV _)))
def zu{it t:Addr}{i:Nat}{ak:Array Value}{Q:Value->Shared->Prop}(hh:A.handled=none)(NS:s.heap.IsTupleIter it t i)(ht:s.heap.IsTuple t ak)(hx:ak[i]?=none)
  (hE:∀h' e,Heap.ExtBut it s.heap h'->(∃o,h'.get? e=some o/\o.cls=.type "StopIteration")->E (.ref e) {s with heap:=h'}):wpAny (model prog w) A (Builtin.SmallTypes.nextOf (.ref it)) Q E s:=by
 obtain⟨o,ho,hc,hd⟩:=id NS;obtain⟨ol,m9,_,nl,LB⟩:=ht;refine af (eX NS.typeIs s9 (fg s9 NS.typeIs DW (by
  show wpAny _ _ (field (.ref it) 0 >>= _) _ _ s;refine af (cb ho hd rfl ?_);refine af (cb ho hd (x:=.int i 0) rfl ?_);show wpAny _ _ (seqItems? (.ref t) >>= _) _ _ s;refine af (fJ m9 LB ?_);simp only[lJ,hx];refine af (iT (af (wpAny_setField ho hd (by simp) ?_)))
  show wpAny _ _ (newExc (.type "StopIteration") [] >>= _) _ _ _;refine af ?_;simp only[newExc,newTuple];refine af (jM ?_ (by size_fits))
  refine af (m:=firstArgMember _ _) (wpAny_of_eq (a:=Value.none) (by first | rfl | (simp only[firstArgMember];rfl)) ?_)
  refine jM ?_ (by size_fits)
  simp only[raiseNew];refine af (wpAny_handled ?_)
  first | rw[show A.in1.handled=none from hh] | rw[hh]
  exact af (ag (wpAny_throw (hE _ _ (((ym ..).extBut.push _).push _) ⟨_,bc _ rfl,rfl⟩)))) (DV _)))
def SI.next{it l:Addr}{k:Nat}{xs:Array Value}{x:Value}{Q:Value->Shared->Prop}(hi:SI s.heap it l k xs)(hx:xs[k]?=some x)(hQ:∀h',SI h' it l (k+1) xs->Heap.SameBut it s.heap h'->Q x {s with heap:=h'}) :
  wpAny (model prog w) A (Builtin.SmallTypes.nextOf (.ref it)) Q E s:=by
 have ne:=hi.ne;rcases hi with⟨h1,h2⟩ | ⟨h1,h2⟩
 ·exact wpAny_nextOf_list_item h1 h2 hx λh' a b=>hQ h' (.inl ⟨a,h2.extBut b.extBut ne⟩) b
 ·exact zt h1 h2 hx λh' a b=>hQ h' (.inr ⟨a,h2.extBut b.extBut ne⟩) b
def SI.stop{it l:Addr}{k:Nat}{xs:Array Value}{Q:Value->Shared->Prop}(hh:A.handled=none)(hi:SI s.heap it l k xs)(hx:xs[k]?=none)
  (hE:∀h' e,Heap.ExtBut it s.heap h'->(∃o,h'.get? e=some o/\o.cls=.type "StopIteration")->E (.ref e) {s with heap:=h'}):wpAny (model prog w) A (Builtin.SmallTypes.nextOf (.ref it)) Q E s:=by
 rcases hi with⟨h1,h2⟩ | ⟨h1,h2⟩
 ·exact wpAny_nextOf_list_end hh h1 h2 hx hE
 ·exact zu hh h1 h2 hx hE
end
def nl{a b:Nat}(h:a<b):@Ne Addr a b:=aO h
section
variable {prog:Program} {w:World} {A:Around} {E:Value->Shared->Prop} {s:Shared} {z TI TO i1 i2 l1 l2:Nat} {k:Nat} {xs ys:Array Value}
def gN(h:Heap)(l:Addr)(xs:Array Value)(c:String):Prop:=(c="list_iterator"/\h.IsList l xs)\/(c="tuple_iterator"/\h.IsTuple l xs)
def jn{l:Addr}{xs:Array Value}{c:String}{Q:Value->Shared->Prop}(h:gN s.heap l xs c)(hQ:Q (.ref s.heap.objs.size) {s with heap:=s.heap.push {cls:=.type c,data:=.fields #[.ref l,.int 0 0]}}):wpAny (model prog w) A (pyIter (.ref l)) Q E s:=by
 rcases h with⟨rfl,h⟩ | ⟨rfl,h⟩
 ·exact lK h hQ
 ·exact yo h hQ
end
def qw(K:W.Frag)(H:Hp)(c:Bool)(l:Addr)(vs:List V):Prop:=if c=true then uf K H l vs else fx K H l vs
def DP(h:Heap)(c:Bool)(it l:Addr)(k:Nat):Prop:=if c=true then h.IsListIter it l k else h.IsTupleIter it l k
noncomputable def jw(c:Bool):String:=if c=true then "list_iterator" else "tuple_iterator"
section
variable {X:Cx} {ae:List (Addr×Obj)} {σ:St} {H:Hp} {s:Shared}
def qw.get(I:Inv X ae σ H s){c:Bool}{l:Addr}{vs:List V}(h:qw X.K H c l vs):∃ak:List Value,Vals vs ak/\gN s.heap l ak.toArray (jw c):=by
 unfold jw;cases c with
 | true =>
  obtain⟨ak,r,pl,_⟩:=I.list (h);exact⟨ak,r,.inl ⟨rfl,pl.isList⟩⟩
 | false =>
  obtain⟨ak,r,pl,_⟩:=I.tuple (h);exact⟨ak,r,.inr ⟨rfl,pl⟩⟩
def qw.inj(I:Inv X ae σ H s){c:Bool}{l:Addr}{vs ws:List V}(h:qw X.K H c l vs)(h':qw X.K H c l ws):vs=ws:=by
 cases c with
 | true=>exact I.kD h h'
 | false=>exact I.ji h h'
def rR{h:Heap}{c:Bool}{it l:Addr}{k:Nat}{xs:Array Value}(h1:DP h c it l k)(h2:gN h l xs (jw c)):SI h it l k xs:=by
 cases c with
 | true =>
  rcases h2 with⟨_,q⟩ | ⟨q,_⟩
  ·exact .inl ⟨h1,q⟩
  ·exact absurd q (by decide)
 | false =>
  rcases h2 with⟨q,_⟩ | ⟨_,q⟩
  ·exact absurd q (by decide)
  ·exact .inr ⟨h1,q⟩
def uE{h:Heap}{c:Bool}{it l:Addr}{k k':Nat}{xs:Array Value}{h0:Heap}(h1:SI h it l k xs)(h2:gN h0 l xs (jw c))(kp:∀o,h0.get? l=some o->h.get? l=some o):DP h c it l k:=by
 cases c with
 | true =>
  rcases h2 with⟨_,⟨o,e,hc,_⟩⟩ | ⟨q,_⟩
  ·rcases h1 with⟨a,_⟩ | ⟨_,⟨o',e',DN,_⟩⟩
   ·exact a
   ·grind
  ·exact absurd q (by decide)
 | false =>
  rcases h2 with⟨q,_⟩ | ⟨_,⟨o,e,hc,_⟩⟩
  ·exact absurd q (by decide)
  ·rcases h1 with⟨_,⟨o',e',DN,_⟩⟩ | ⟨a,_⟩
   ·grind
   ·exact a
def Inv.turns{t':Nat}{h':Heap}{ch:List Addr}(I:Inv X ae σ H s)(hf:∀b∈ch,oK X ae H b)(kp:∀b o,b∉ch->s.heap.get? b=some o->h'.get? b=some o):Inv X ae σ H {s with heap:=h',toks:=t'}:=by
 have QB:∀b u,H b=some u->b∉ch:=λb u e z=>by rw[(hf b z).1]at e;cases e
 refine I.step (λb hb=>⟨(hf b hb).2.2.2.1,(hf b hb).2.1,(hf b hb).2.2.2.2.1,(hf b hb).2.2.2.2.2⟩) (λb o _ _ hc e _=>kp b o hc e) (λb o _ _ hc e _=>⟨o.slots,kp b o hc e⟩) (λ_ _ _ _ n=>n)
  (λb o hc e=>⟨o,kp b o hc e⟩) (λ_ _ e=>e) (λ_ _ _ e=>e) (λ_ _ e=>e) (λm hm=>?_) (λb u e=>?_) I.bare
 ·obtain⟨o,es,ep,ho,r⟩:=hm;exact⟨o,es,ep,kp _ o (λz=>(hf _ z).2.1 rfl) ho,r⟩
 ·refine(I.hok b u e).vB (λc v hc q=>kp c v ?_ q) (λ_ q=>q) (λ_ _ q=>q) λ_ _ _ q=>q
  rcases hc with z | z
  ·rw[z];exact QB b u e
  ·exact QB c _ z
end
def DP.at{h h':Heap}{c:Bool}{it l:Addr}{k:Nat}(x:DP h c it l k)(h1:∀o,h.get? it=some o->h'.get? it=some o):DP h' c it l k:=by
 cases c with
 | true =>
  obtain⟨o,e,r⟩:=(x);exact(⟨o,h1 o e,r⟩)
 | false =>
  obtain⟨o,e,r⟩:=(x);exact(⟨o,h1 o e,r⟩)
def DP.obj{h:Heap}{c:Bool}{it l:Addr}{k:Nat}(x:DP h c it l k):∃o,h.get? it=some o/\∀v,o.data≠.cell v:=by
 unfold DP at x;split at x
 ·obtain⟨o,e,_,d⟩:=x;exact⟨o,e,λv=>by grind⟩
 ·obtain⟨o,e,_,d⟩:=x;exact⟨o,e,λv=>by grind⟩
def Ft{prog:Program}{w:World}{A:Around}{it l:Addr}{xs:Array Value}(hh:A.handled=none):Draws prog w A it [it,l] xs.size (λi x=>xs[i]?=some x) (λi h=>SI h it l i xs) where
 live:=λi h st=>by
  obtain⟨o,e,_⟩:=st.LA;exact⟨o,e⟩
 frame:=λi h h' st k=>st.at (λo e=>k it (by simp) o e) (λo e=>k l (by simp) o e)
 item:=λi s Q E hi st hQ=>SI.next st (nW hi) λh' a b=>hQ _ h' s.toks (nW hi) a b
 done:=λs Q E st hE=>SI.stop hh st (jH (aq _)) hE
set_option maxHeartbeats 2000000 in
theorem Fu(l:Addr)(xs:Array Value)(c:String)(part:Obj) :
  Meets (Builtin.«enumerate.__new__» ⟨[.type "enumerate",.ref l],[]⟩) (λ_ R s=>gN s.heap l xs c/\s.heap.get? l=some part /\
   ∀h1 h2:Heap,h1=s.heap.push {cls:=.type c,data:=.fields #[.ref l,.int 0 0]}->h2=h1.push {cls:=.type "enumerate",data:=.fields #[.none,.bool false,.ref s.heap.objs.size,rawInt 0,.none,.none]}->R (.ok (.ret (.ref h1.objs.size))) {s with heap:=h2}) :=
 .of_wp λprog w A R s h=>by
  obtain⟨hp,g,d,tk,os⟩:=s;obtain⟨hl,hpt,h⟩:=h;have hL:gN (Shared.heap ⟨hp,g,d,tk,os⟩) l xs c:=hl;have uF:=sub_enumerate;rcases hl with⟨rfl,⟨o,e,hc,n,hd⟩⟩ | ⟨rfl,⟨o,e,hc,n,hd⟩⟩
  ·obtain⟨oc,od,Wm,IX⟩:=o;replace hc:oc=.type "list":=hc;replace hd:Wm=.seq xs n:=hd
   wp_walk using iH e
   refine wpAny_stack_any λst=>ag ?_
   split
   ·rename_i c' _ _ _ _ _;cases(c'==Value.type "enumerate")<;>(wp_walk using iH e,jn hL)<;>exact⟨_,rfl,h _ _ rfl rfl⟩
   ·wp_walk using iH e,jn hL
    exact⟨_,rfl,h _ _ rfl rfl⟩
  ·obtain⟨oc,od,Wm,IX⟩:=o;replace hc:oc=.type "tuple":=hc;replace hd:Wm=.seq xs n:=hd
   wp_walk using iH e
   refine wpAny_stack_any λst=>ag ?_
   split
   ·rename_i c' _ _ _ _ _;cases(c'==Value.type "enumerate")<;>(wp_walk using iH e,jn hL)<;>exact⟨_,rfl,h _ _ rfl rfl⟩
   ·wp_walk using iH e,jn hL
    exact⟨_,rfl,h _ _ rfl rfl⟩
def JO{prog:Program}{w:World}{A:Around}{E:Value->Shared->Prop}{s:Shared}{e it l:Addr}{k:Nat}{i:Int}{xs:Array Value}{old:Value}{Q:Option Value->Shared->Prop}(hh:A.handled=none)(a1:IsEnum s.heap e it i old)(st:SI s.heap it l k xs)(hx:xs[k]?=none)(hQ:∀h',Heap.ExtBut it s.heap h'->Q none {s with heap:=h'}):wpAny (model prog w) A (pyNext (.ref e)) Q E s:=by
 have ty:s.TypeIs (.ref e) "enumerate":=⟨_,a1,rfl⟩;unfold pyNext;refine af (jS (eX ty F.slot_enumerate_next (fg F.slot_enumerate_next ty F.entry_enumerate_next (by
  show wpAny _ _ (field (.ref e) 2 >>= _) _ _ _;refine af (cb a1 rfl rfl (af (SI.stop hh st hx λh' y sb ⟨o,ho,hc⟩=>?_)))
  exact af (tF ⟨o,ho,hc⟩ tY (ag (hQ _ sb)))) (F.args_enumerate_next_1 _))))
def YJ(K:W.Frag)(c:Bool)(l:Addr):It where
 go:=λi H=>∃vs v,qw K H c l vs/\vs[i]?=some v
 yld:=λi H x H'=>∃T v,H T=none/\x=.ref T/\H'=cj H T (.aj [.int i,v])/\∀vs,qw K H c l vs->vs[i]?=some v
 stop:=λi H=>∃vs,qw K H c l vs/\vs.length<=i
def eTn(e it l:Nat)(c:Bool)(i:Nat)(h:Heap):Prop:=(∃old,IsEnum h e it i old)/\DP h c it l i
def JP{P:Program}{w:World}{K:W.Frag}{elts:List Expr}{x1:Nat}{B8:Pos}{e it l:Nat}{c:Bool}(ord:it<e)(o1:l<it) :
  Turn P w K (.Tuple elts x1 B8) (YJ K c l) [e,it] e (eTn e it l c) where
 mem:=cy
 obj:=by
  rintro i h ⟨⟨_,a1⟩,a2⟩ b hb
  simp only[bh,cY,c8]at hb;rcases hb with rfl | rfl
  ·exact⟨_,a1,λv=>by simp⟩
  ·exact a2.obj
 keep:=(by rintro i h h' ⟨⟨old,a1⟩,a2⟩ k;exact⟨⟨old,k e (by simp) _ a1⟩,a2.at λo x=>k it (by simp) o x⟩)
 item:=by
  rintro X hP hw hK hc i ae s σ H E I hf ⟨⟨old,a1⟩,a2⟩ ⟨vs,v,hv,ev⟩
  subst hP hw hK;obtain⟨ak,r1,k1⟩:=hv.get I;obtain⟨x,ex,rx⟩:=r1.get ev;have ne:e≠it:=lU ord;have YK:e≠l:=lU (g8 o1 ord);have LB:X.A.in1.handled=none:=I.ok.hd hc;refine wpAny_pyNext_enum_itemD (Ft (xs:=ak.toArray) (l:=l) LB) a1 (rR a2 k1) (by
   have:=(b9.mp ex).1;simpa using this) ne (by simp[ne,YK]) λx' h' tk rO hO st hT RV kp=>⟨_,rfl,?_⟩
  have xe:x'=x:=by
   have e1:ak.toArray[i]?=some x:=by simpa using ex
   rw[e1]at rO;cases rO;rfl
  subst xe;refine wpAny_letOwnedTupleGo_enum hO λNT Wn sb=>?_
  have R0:∀b∈[e,it],b<s.heap.objs.size:=λb hb=>by
   simp only[bh,cY,c8]at hb;have h1:e<s.heap.objs.size:=az a1;rcases hb with rfl | rfl<;>lia
  have eT:e≠s.heap.objs.size:=aO (R0 e (by simp))
  have R6:∀b o,b∉[e,it]->s.heap.get? b=some o->NT.get? b=some o:=λb o hb z=>by
   simp only[bh,cY,c8,not_or]at hb;exact sb.extBut _ _ hb.1 (kp b o hb.1 hb.2 z)
  have I1:Inv X ae σ H {s with heap:=NT,toks:=tk+1}:=Inv.turns I hf R6
  have hn:H s.heap.objs.size=none:=I.fresh;have JQ:=I.ug (H':=H) (aq _) hn;have pr:NT.get? s.heap.objs.size=some {cls:=.type "tuple",data:=.seq #[.int i tk,x']}:=sb.extBut _ _ (bJ eT) hT
  have I2:=Inv.adopt (D:=s.heap.objs.size) (o:=.aj [.int i,v]) I1 hn (by
    rcases JQ.2.2.2.1 with q | q
    ·exact I.sz
    ·exact q) JQ.2.1 JQ.2.2.2.2.1 JQ.2.2.2.2.2 ⟨(by show 2<=sizeLine;decide),[.int i tk,x'],.cons ⟨tk,rfl⟩ (.cons rx .nil),⟨_,pr,rfl,⟨0,rfl⟩,rfl⟩⟩
  refine⟨.ref s.heap.objs.size,_,I2,rfl,⟨s.heap.objs.size,v,hn,rfl,rfl,λwb h1=>?_⟩,⟨⟨_,Wn⟩,?_⟩,λb hb=>?_⟩
  ·rw[<-qw.inj I hv h1];exact ev
  ·have nli:l≠it:=aO o1;have q:=uE (k':=i) st k1 λo z=>kp l o (bJ YK) nli z
   exact q.at λo z=>sb.extBut _ _ (bJ ne) z
  ·rw[aH (aO (R0 b hb))];exact(hf b hb).1
 done:=by
  rintro X hP hw hK hc i ae s σ H E I hf ⟨⟨old,a1⟩,a2⟩ ⟨vs,hv,he⟩
  subst hP hw hK;obtain⟨ak,r1,k1⟩:=hv.get I;have hz:ak.toArray[i]?=none:=jH (by rw[bU,<-r1.length];exact he)
  refine JO (I.ok.hd hc) a1 (rR a2 k1) hz λh' sb=>⟨rfl,?_⟩
  exact Inv.turns (t':=s.toks) I hf λb o hb z=>by
   simp only[bh,cY,c8,not_or]at hb;exact sb b o hb.2 z
 self:=(by rintro A i s Q E ⟨⟨_,a1⟩,_⟩ q;exact wpAny_pyIter_enum a1 q)
noncomputable def A7:Expr->Bool
 | .Tuple _ _ _=>true
 | _=>false
noncomputable def nc:PV->Option (List PV)
 | .nd .aj ps=>some ps
 | .nd .lst ps=>some ps
 | _=>none
def ef(p q:PV):PV:=.aj [p,q]
def i6{K:W.Frag}(h:nc p=some ps)(b:aZ K F p x):∃c l vs,x=.ref l/\qw K F.F c l vs/\ao K F ps vs/\∀F',b8 F.F F'->qw K F' c l vs:=by
 unfold nc at h;split at h
 ·cases h;obtain⟨l,vs,rfl,h1,h2⟩:=bt.mp b;exact⟨false,l,vs,rfl,h1,h2,λF' s=>aT s h1⟩
 ·cases h;obtain⟨l,vs,rfl,h1,h2⟩:=cP.mp b;exact⟨true,l,vs,rfl,h1.sq,h2,λF' s=>(gI s h1).sq⟩
 ·cases h
def Cw{K:W.Frag}(hs:uf K F.F a vs)(hb:ao K F ps vs):Walk K F ps (Uy K a):=by
 intro aa ab F' st σ H R s i;have hq:=(s.s.trans R.sub).seq hs;refine⟨λp e=>?_,λe=>?_⟩
 ·obtain⟨v,e1,b1⟩:=hb.get e;refine⟨⟨vs,v,hq,e1⟩,λx H' ⟨hH,y⟩=>?_⟩
  subst hH;have:=y vs hq;rw[e1]at this;cases this;exact⟨F',R,Gr.refl _,b1.mono s⟩
 ·refine⟨vs,hq,?_⟩;rw[<-hb.length];exact fH.mp e
def Fv{K:W.Frag}(hs:fx K F.F a vs)(hb:ao K F ps vs):Walk K F ps (Vx K a):=by
 intro aa ab F' st σ H R s i;have hq:=aT (s.s.trans R.sub) hs;refine⟨λp e=>?_,λe=>?_⟩
 ·obtain⟨v,e1,b1⟩:=hb.get e;refine⟨⟨vs,v,hq,e1⟩,λx H' ⟨hH,y⟩=>?_⟩
  subst hH;have:=y vs hq;rw[e1]at this;cases this;exact⟨F',R,Gr.refl _,b1.mono s⟩
 ·refine⟨vs,hq,?_⟩;rw[<-hb.length];exact fH.mp e
noncomputable def Cy(lo:Int)(n:Nat):List PV:=(List.range n).map fun(i:Nat)=>.int (lo+i)
def o8{K:W.Frag}(lo:Int)(n:Nat):Walk K F (Cy lo n) (QM lo n):=by
 intro aa ab F' st σ H R s i;unfold Cy;refine⟨λp e=>?_,λe=>?_⟩
 ·rw[bg]at e;by_cases hi:i<n
  ·rw[n0 hi]at e;cases e;exact⟨hi,λx H' ⟨hH,y⟩=>by subst hH y;exact⟨F',R,Gr.refl _,au.mpr rfl⟩⟩
  ·rw[gY (by simpa using hi)]at e;cases e
 ·rw[bg]at e;by_cases hi:i<n
  ·rw[n0 hi]at e;cases e
  ·exact jO hi
def gi:Nat->List PV->List PV
 | _,[]=>[]
 | k,p::r=>ef (.int k) p::gi (k+1) r
theorem mn:∀(ps:List PV) (k i:Nat),(gi k ps)[i]?=ps[i]?.map λp=>ef (.int ((k+i:Nat):Int)) p
 | [],k,i=>by simp[gi]
 | p::r,k,0=>by simp[gi]
 | p::r,k,i+1=>by
  simp only[gi,List.getElem?_cons_succ];rw[mn r (k+1) i,show k+1+i=k+(i+1) by lia]
def JR{K:W.Frag}(k1:∀F',b8 F.F F'->qw K F' c l vs)(b1:ao K F ps vs):Walk K F (gi 0 ps) (YJ K c l):=by
 intro aa ab F' st σ H R s i;have h1:=k1 H (s.s.trans R.sub);refine⟨λp e=>?_,λe=>?_⟩
 ·rw[mn]at e;cases z1:ps[i]? with
  | none=>rw[z1]at e;cases e
  | some p1 =>
   rw[z1]at e;cases e;obtain⟨v,e1,NU⟩:=b1.get z1;refine⟨⟨vs,v,h1,e1⟩,λx H' z9=>?_⟩
   obtain⟨T,v',hn,hx,hH,vO⟩:=z9;have g1:=vO vs h1;rw[e1]at g1;cases g1;subst hx hH;obtain⟨R2,s2⟩:=R.laid (.aj [.int i,v]) hn;refine⟨_,R2,s2,bt.mpr ⟨T,[.int i,v],rfl,fx.of ar,.cons ?_ (.cons (NU.mono (s.trans s2)) .nil)⟩⟩;rw[lS];exact au.mpr rfl
 ·refine⟨vs,h1,?_⟩;rw[mn]at e;cases z1:ps[i]? with
  | none =>
   have:=fH.mp z1;rw[b1.length]at this;exact this
  | some p1=>rw[z1]at e;cases e
section
variable {X:Cx} {aa:Hp} {ab:Fz} {a b e tg:Expr} {fa fb:Gx PV} {ts:Gx (List PV)} {pos p:Pos}
noncomputable def JS(i j:Int):Bool:=decide (-(2^62)<=i/\i<2^62 /\ -(2^62)<=j/\j<2^62)
def Cz:List PV->Option (List PV)
 | [.int j]=>if JS 0 j=true then some (Cy 0 j.toNat)else none
 | _=>none
def JT:List PV->Option (List PV)
 | [.int i,.int j]=>if JS i j=true then some (Cy i (j-i).toNat)else none
 | _=>none
def Fw(g:List PV->Option (List PV))(ts:Gx (List PV)):Gx (List PV):=bnd ts λps=>fD (g ps)
def Fx(hg:Gl X "range")(hm:X.mg "range"=none)(ha:PA X [a] (tA X aa ab ts))(hs:starEach [a] X.env=[(false,eval a X.env)]:=by rfl):PI X tg (.Call (.Name "range" p) [a] [] pos) (tI X aa ab (Fw Cz ts)) :=
 (B2 hg hm ha hs).imp λσ H Rr ⟨F,st,R,h⟩=>⟨F,st,R,h.bnd λps vs F1 aI H1 R1 g1 b1 h1=>by
  obtain⟨o,e,z⟩:=h1.fD;unfold Cz at e;split at e
  ·obtain⟨hr,rfl⟩:=aw e;obtain⟨v,rfl,b⟩:=cu b1;obtain⟨_,_,h3,h4⟩:=eY hr;rw[au.mp b];exact⟨_,rfl,h3,h4,z _ H1 F1 R1 (Gr.refl _) (o8 0 _)⟩
  ·cases e⟩
def Fy(hg:Gl X "range")(hm:X.mg "range"=none)(ha:PA X [a,b] (tA X aa ab ts))(hs:starEach [a,b] X.env=[(false,eval a X.env),(false,eval b X.env)])(xO:starEach [b] X.env=[(false,eval b X.env)]):PI X tg (.Call (.Name "range" p) [a,b] [] pos) (tI X aa ab (Fw JT ts)) :=
 (B3 hg hm ha hs xO).imp λσ H Rr ⟨F,st,R,h⟩=>⟨F,st,R,h.bnd λps vs F1 aI H1 R1 g1 b1 h1=>by
  obtain⟨o,e,z⟩:=h1.fD;unfold JT at e;split at e
  ·obtain⟨hr,rfl⟩:=aw e;obtain⟨v,w,rfl,b,c⟩:=kR b1;have hr:=eY hr;rw[au.mp b,au.mp c];exact⟨_,_,rfl,hr,z _ H1 F1 R1 (Gr.refl _) (o8 _ _)⟩
  ·cases e⟩
def A8(fa:Gx PV):Gx (List PV):=bnd fa λp=>fD ((nc p).map λps=>gi 0 ps)
def Wo(ht:A7 tg=true)(hg:Gl X "enumerate")(hm:X.mg "enumerate"=none)(ha:PE X a (tE X aa ab fa))(hs:starEach [a] X.env=[(false,eval a X.env)]) :
  PI X tg (.Call (.Name "enumerate" p) [a] [] pos) (tI X aa ab (A8 fa)):=by
 rintro ae s σ H R I ⟨F,st,Rp,h⟩
 have hA:=gg ha oP hs pos ae s σ H (λvs H'=>∃F' bK x pa ps,vs=[x]/\Rep X.K aa ab F' bK σ H'/\aZ X.K F' pa x/\nc pa=some ps/\∀b R7 E5,Rep X.K aa ab E5 bK σ R7->Gr F' E5->Walk X.K E5 (gi 0 ps) b->R b R7) I
  ⟨F,st,Rp,h.bnd λp v F1 aI H1 R1 g1 b1 h1=>by
   obtain⟨o,e,z⟩:=h1.fD;obtain⟨ps,e1,rfl⟩:=aL e;exact⟨F1,aI,v,p,ps,rfl,R1,b1,e1,z⟩⟩
 refine Call_ (ld_blt I hg hm boot_enumerate (ej (thn hA λus s1 z9=>?_) hs rfl))
 obtain⟨vs,H1,I1,r1,F1,aI,x,pa,ps,ev,R1,b1,f3,q⟩:=z9;subst ev;obtain⟨u1,rfl,NV⟩:=iw r1;obtain⟨c1,l1,YL,rfl,q1,P9,k1⟩:=i6 f3 b1;cases NV;obtain⟨ak,v1,JU⟩:=(k1 H1 R1.sub).get I1;obtain⟨part,LC⟩:∃o,s1.heap.get? l1=some o:=by
  rcases JU with⟨_,⟨o,e,_⟩⟩ | ⟨_,⟨o,e,_⟩⟩
  ·grind
  ·grind
 have R8:=az LC;refine callType_new PySem.F.called_enumerate (by decide) (PySem.F.typeCall_enumerate_1 _) (PySem.F.newCall_enumerate_1 _) (λobj=>PySem.F.args_object_init_2 obj _) PySem.F.entry_enumerate_new (Fu l1 ak.toArray (jw c1) part) ⟨JU,LC,λh1 h2 e1 e2=>?_⟩
 have z1:h1.objs.size=s1.heap.objs.size+1:=by simp_all
 have p1:∀b o,s1.heap.get? b=some o->h1.get? b=some o:=λb o e=>by rw[e1];exact ax _ e
 have p2:∀b o,h1.get? b=some o->h2.get? b=some o:=λb o e=>by rw[e2];exact ax _ e
 have g2:IsEnum h2 h1.objs.size s1.heap.objs.size 0 .none:=by rw[e2];exact bc _ rfl
 have g1:=p2 _ _ (by rw[e1];exact bc _ rfl)
 have I2:Inv X ae σ H1 {s1 with heap:=h2,toks:=s1.toks}:=I1.kept λb o e=>p2 _ _ (p1 _ _ e)
 have kA:∀b,s1.heap.objs.size<=b->H1 b=none:=λb hb=>I1.hok.fresh hb
 refine⟨⟨_,g2,rfl⟩,?_⟩;show wpAny _ _ (pyIter (.ref h1.objs.size)) _ _ {s1 with heap:=h2,toks:=s1.toks}
 refine wpAny_pyIter_enum g2 ?_;cases tg with
 | Tuple elts x1 B8 =>
  refine⟨h1.objs.size,[h1.objs.size,s1.heap.objs.size],_,_,H1,rfl,I2,JP (by lia) R8,⟨⟨_,g2⟩,(by
   cases c1 with
   | true=>exact(⟨_,g1,rfl,rfl⟩)
   | false=>exact(⟨_,g1,rfl,rfl⟩))⟩,λb hb=>?_,q _ H1 F1 R1 (Gr.refl _) (JR k1 P9)⟩
  simp only[bh,cY,c8]at hb;have R9:s1.heap.objs.size<=b:=by rcases hb with rfl | rfl<;>lia
  exact I1.ug R9 (kA b R9)
 | _=>cases ht
end
end L2.U
namespace L2
open PySem PySem.Spec PyProof.Rows
noncomputable def Wq(z:Str):It:=⟨λi _=>i<z.cps.size,λi H x H'=>H'=H/\∃c,z.cps[i]?=some c/\x=.str ⟨#[c]⟩,λi _=>z.cps.size<=i⟩
def FA{P:Program}{w:World}{K:W.Frag}{tg:Expr}(z:Str)(t:Tok)(it:Addr):Turn P w K tg (Wq z) [it] it (λi h=>h.IsStrIter it "str_ascii_iterator" z t i) where
 mem:=by simp
 obj:=λi h st b hb=>by
  have e:b=it:=by grind
  subst e;obtain⟨o,e,c,d⟩:=st;exact⟨o,e,λv z=>by grind⟩
 keep:=λi h h' st k=>let ⟨o,ho,r⟩:=st;⟨o,k it (by simp) o ho,r⟩
 item:=by
  intro X hP hw hK hc i ae s σ H E I hf st hg;subst hP hw hK;have hx:z.cps[i]?=some z.cps[i]:=nW hg;obtain⟨f0,f1,f2,f3,f4,f5⟩:=hf it (by simp)
  refine wpAny_pyNext_ascii_item st hx λh' bK sb=>?_
  have I1:=I.turned (t':=s.toks+1) (λb o hb e=>(sb.2 b hb).trans e) f0 f1 f3 f4 f5
  obtain⟨o,e,c,d⟩:=id bK;exact⟨_,rfl,AB e c d (by decide) ⟨.str ⟨#[z.cps[i]]⟩,H,I1,⟨_,rfl⟩,⟨rfl,_,hx,rfl⟩,bK,λb hb=>(hf b hb).1⟩⟩
 done:=by
  intro X hP hw hK hc i ae s σ H E I hf st hg;subst hP hw hK;obtain⟨f0,f1,f2,f3,f4,f5⟩:=hf it (by simp)
  exact wpAny_pyNext_ascii_end (I.ok.hd hc) st (jH hg) λh' eb=>⟨rfl,I.turned (λb o hb e=>eb b o hb e) f0 f1 f3 f4 f5⟩
 self:=λ_ _ _ _ _ st h=>wpAny_pyIter_striter_ascii st h
def Wr(tl:TE):TI:=λσ H R=>tl σ H λx H1=>∃z,x=.str z/\z.cps.all (· < 128)=true/\R (Wq z) H1
def NW{X:Cx}{tg l:Expr}{tl:TE}(hl:PE X l tl):PI X tg l (Wr tl):=by
 intro ae s σ H R I h;refine thn (hl ae s σ H _ I h) λv s1 ⟨x,H1,I1,r1,q1⟩=>?_
 obtain⟨z,e,hz,q⟩:=q1;subst e;obtain⟨t,rfl⟩:=r1;refine wpAny_pyIter_ascii hz ?_;refine⟨s1.heap.objs.size,[s1.heap.objs.size],_,_,H1,rfl,I1.kept λb o e=>ax _ e,FA z t _,⟨_,bc _ rfl,rfl,rfl⟩,λb hb=>?_,q⟩
 have e:b=s1.heap.objs.size:=by grind
 subst e;exact I1.ug (aq _) (I1.hok.fresh (aq _))
end L2
namespace L2.U
open PySem PySem.Spec PyProof.Rows
noncomputable def FC(z:Str):List PV:=z.cps.toList.map λc=>.str ⟨#[c]⟩
def FD{K:W.Frag}{F:Fz}(z:Str):Walk K F (FC z) (Wq z):=by
 intro aa ab F' st σ H R s i;refine⟨λp e=>?_,λe=>?_⟩
 ·unfold FC at e;rw[bg,yj]at e;obtain⟨c,e1,rfl⟩:=aL e;have hi:i<z.cps.size:=(Array.getElem?_eq_some_iff.mp e1).1;refine⟨hi,λx H' ⟨hH,c',e2,e3⟩=>?_⟩
  subst hH e3;cases bG (e1.symm.trans e2);exact⟨F',R,Gr.refl _,bj.mpr rfl⟩
 ·unfold FC at e;rw[bg,yj]at e;show z.cps.size<=i
  grind
inductive zw where
 | sq (ps:List PV) | cl (n:Nat)
def Sb(K:W.Frag)(F:Fz):zw->It->Prop
 | .sq ps,J=>Walk K F ps J
 | .cl n,J=>∃a,F.μ[n]?=some a/\J=Uy K a
abbrev CA(X:Cx)(aa:Hp)(ab:Fz)(f:Gx zw):TI:=tX X aa ab (Sb X.K) f
def NX(f:Gx (List PV)):Gx zw:=bnd f λps=>bT (.sq ps)
def LD(n:Nat)(h:List ai)(i:Nat):Option (Option PV):=match dv h (.ref n)with
 | some (.lst,ps)=>some ps[i]?
 | _=>none
def NY(h:List ai)(p:PV):Option zw:=match nc p with
 | some ps=>some (.sq ps)
 | none=>match p with
  | .ref n=>match dv h (.ref n)with
   | some (.lst,_)=>some (.cl n)
   | _=>none
  | .str z=>if z.cps.all (· < 128)=true then some (.sq (FC z))else none
  | _=>none
def o9(fe:Gx PV):Gx zw:=bnd fe λp=>hp λh=>NY h p
def FE(g:Tg)(body:Gx d9)(n:Nat):Nat->Nat->Gx d9
 | 0,_=>λ_=>none
 | f+1,i=>λst=>match LD n st.h i with
  | some (some p)=>bnd (stp (g p)) (λ_=>bnd body (vV (FE g body n f (i+1)))) st
  | some none=>some (.ok .nx,st)
  | none=>none
def Ws(g:Tg)(body:Gx d9):zw->Gx d9
 | .sq ps=>dO g body ps
 | .cl n=>FE g body n gV 0
def JV(fi:Gx zw)(g:Tg)(body:Gx d9):Gx d9:=bnd fi (Ws g body)
section
variable {X:Cx} {aa:Hp} {ab:Fz} {e tg iter:Expr} {fa:Gx PV} {fb:Gx d9} {body:List Stmt} {pos:Pos}
def JW(h:PI X tg e (tI X aa ab f)):PI X tg e (CA X aa ab (NX f)):=(by rintro ae s σ H R I ⟨F,st,Rp,hh⟩;exact h ae s σ H R I ⟨F,st,Rp,hh.bnd λps J F1 aI H1 R1 g1 b1 h1=>h1.bT J H1 F1 R1 (Gr.refl _) b1⟩)
def FF{K:W.Frag}{st:bX}(R:Rep K aa ab F st σ H)(ha:F.μ[n]?=some a)(e:LD n st.h i=some o):∃ps vs,o=ps[i]?/\uf K H a vs/\ao K F ps vs:=by
 unfold LD at e;split at e
 ·rename_i ps z;cases e;obtain⟨a',vs,e1,h1,h2⟩:=R.at z (dt.mpr ⟨a,ha,rfl⟩);cases e1;exact⟨ps,vs,rfl,gE.sq h1,h2⟩
 ·cases e
def FG(he:PE X e (tE X aa ab fa)):PI X tg e (CA X aa ab (o9 fa)):=by
 rintro ae s σ H R I ⟨F,st,Rp,h⟩
 obtain⟨r,e1,e2⟩:=At.bnd h
 match r,e2 with
 | (.ex m C,aI),e2 =>
  exact EB he ae s σ H R I ⟨F,st,Rp,_,e1,e2⟩
 | (.ok p,aI),e2 =>
  obtain⟨ps,e3,q⟩:=At.hp e2;unfold NY at e3;split at e3
  ·rename_i qs e4;cases e3;unfold nc at e4;split at e4
   ·cases e4;refine EB he ae s σ H R I ⟨F,st,Rp,_,e1,λv H1 F1 R1 s1 b1=>?_⟩
    obtain⟨a,vs,rfl,hs,hb⟩:=bt.mp b1;exact⟨a,rfl,⟨vs,aT R1.sub hs⟩,q _ H1 F1 R1 s1 (Fv hs hb)⟩
   ·cases e4;refine AD he ae s σ H R I ⟨F,st,Rp,_,e1,λv H1 F1 R1 s1 b1=>?_⟩
    obtain⟨a,vs,rfl,hs,hb⟩:=cP.mp b1;exact⟨a,rfl,⟨vs,(gI R1.sub hs).sq⟩,q _ H1 F1 R1 s1 (Cw hs.sq hb)⟩
   ·cases e4
  ·split at e3
   ·rename_i n _;split at e3
    ·rename_i qs z;cases e3;refine AD he ae s σ H R I ⟨F,st,Rp,_,e1,λv H1 F1 R1 s1 b1=>?_⟩
     obtain⟨a,vs,rfl,hs,hb⟩:=R1.at z b1;obtain⟨a',ha,e5⟩:=dt.mp b1;cases e5;exact⟨a,rfl,⟨vs,gE.sq hs⟩,q _ H1 F1 R1 s1 ⟨a,ha,rfl⟩⟩
    ·cases e3
   ·obtain⟨hz,rfl⟩:=aw e3;refine NW he ae s σ H R I ⟨F,st,Rp,_,e1,λv H1 F1 R1 s1 b1=>?_⟩
    exact⟨_,bj.mp b1,hz,q _ H1 F1 R1 s1 (FD _)⟩
   ·cases e3
def NZ{fi:Gx zw}(hp:PassesOwn (model X.prog X.w) X.A X.env X.xe)(hc:X.calm=true)(hi:PI X tg iter (CA X aa ab fi))(hg:PG X tg (tG X.K aa ab g))(hb:PSs X body (tS X aa ab fb))
  (hs:∀x,foldedSetIterable iter X.env x=pure x:=by intro _;rfl):PS X (.For tg iter body [] pos) (tS X aa ab (JV fi g fb)):=(MI hp hc hi hg hb hs).imp <| by
 rintro D σ H ⟨F,st,R,h⟩
 refine⟨F,st,R,h.bnd λsr J F1 aI H1 R1 g1 wk h1=>?_⟩
 cases sr with
 | sq ps =>
  refine⟨λi m bu H'=>m=ps.length-i/\i<=ps.length/\∃F' bK,Rep X.K aa ab F' bK bu H'/\Gr F1 F'/\Sa X aa ab F' D bK (dO g fb (ps.drop i)),⟨ps.length,by simp,fK _,F1,aI,R1,Gr.refl _,h1⟩,?_⟩
  rintro i m bu H' ⟨rfl,hi,F',bK,R',s',hr⟩
  obtain⟨wg,Wt⟩:=wk aa ab F' bK bu H' R' s' i;by_cases wj:i<ps.length
  ·obtain⟨go,wy⟩:=wg ps[i] (aR wj);rw[List.drop_eq_getElem_cons wj]at hr;refine .inr ⟨go,λAE H2=>∃F2 dF,Rep X.K aa ab F2 dF AE H2/\Gr F1 F2/\Sa X aa ab F2 D dF (dO g fb (ps.drop (i+1))),λAE H2 n2=>⟨ps.length-(i+1),by lia,rfl,wj,n2⟩,λx H2 y=>?_⟩
   obtain⟨F2,R2,s2,b2⟩:=wy x H2 y;obtain⟨r,e1,e2⟩:=At.bnd hr;obtain⟨Sd,e3,e4⟩:=aL e1;subst e4;refine⟨F2,bK,ps[i],Sd,R2,b2,e3,λmX H3 F3 R3 s3=>⟨F3,Sd,R3,?_⟩⟩
   exact Sa.oJ _ (λF4 HU Lw H4 R4 g4 z=>⟨F4,HU,R4,(s'.trans (s2.trans s3)).trans g4,z⟩) (Sa.mono (e2) (s2.trans s3))
  ·have e:i=ps.length:=by lia
   subst e;rw[List.drop_length]at hr;exact .inl ⟨Wt (gY (aq _)),At.bT hr F' bu H' R' (Gr.refl _)⟩
 | cl n =>
  obtain⟨a,ha,rfl⟩:=wk;refine⟨λi m bu H'=>∃F' bK,Rep X.K aa ab F' bK bu H'/\Gr F1 F'/\Sa X aa ab F' D bK (FE g fb n m i),⟨gV,F1,aI,R1,Gr.refl _,h1⟩,?_⟩
  rintro i m bu H' ⟨F',bK,R',s',hr⟩
  cases m with
  | zero=>obtain⟨r,e,_⟩:=hr;cases e
  | succ m =>
   obtain⟨r,e1,e2⟩:=hr;have e1:(match LD n bK.h i with
    | some (some p)=>bnd (stp (g p)) (λ_=>bnd fb (vV (FE g fb n m (i+1)))) bK
    | some none=>some (.ok .nx,bK)
    | none=>none)=some r:=e1
   cases z:LD n bK.h i with
   | none=>rw[z]at e1;cases e1
   | some o =>
    obtain⟨ps,vs,ho,hq,uq⟩:=FF R' (s'.m n a ha) z;cases o with
    | none =>
     rw[z]at e1;cases e1;refine .inl ⟨⟨vs,hq,?_⟩,e2 F' bu H' R' (Gr.refl _)⟩;rw[<-uq.length];exact fH.mp ho.symm
    | some p =>
     rw[z]at e1;obtain⟨v,hv,bv⟩:=uq.get ho.symm;refine .inr ⟨⟨vs,v,hq,hv⟩,λAE H2=>∃F2 dF,Rep X.K aa ab F2 dF AE H2/\Gr F1 F2/\Sa X aa ab F2 D dF (FE g fb n m (i+1)),λAE H2 n2=>⟨m,lP m,n2⟩,λx H2 ⟨hH,y⟩=>?_⟩
     subst hH;have:=y vs hq;rw[hv]at this;cases this;obtain⟨r',q1,q2⟩:=At.bnd (⟨r,e1,e2⟩);obtain⟨Sd,e3,e4⟩:=aL q1;subst e4;refine⟨F',bK,p,Sd,R',bv,e3,λmX H3 F3 R3 s3=>⟨F3,Sd,R3,?_⟩⟩
     exact Sa.oJ _ (λF4 HU Lw H4 R4 g4 z=>⟨F4,HU,R4,(s'.trans s3).trans g4,z⟩) (Sa.mono (q2) s3)
end
def A9(bd:PV->List ai->Option (Option PV×List ai))(n:Nat):Nat->Nat->List ai->Option (List PV×List ai)
 | 0,_,_=>none
 | f+1,i,h=>match LD n h i with
  | some (some p)=>(bd p h).bind λr=>(A9 bd n f (i+1) r.2).map λs=>(r.1.toList++s.1,s.2)
  | some none=>some ([],h)
  | none=>none
def Ba(bd:PV->List ai->Option (Option PV×List ai))(h:List ai):zw->Option (List PV×List ai)
 | .sq ps=>if ps.length<=gV then gM bd ps h else none
 | .cl n=>A9 bd n gV 0 h
def Bb(c:Bool)(ρ:List (Option PV))(r:List PV×List ai):Option (Rs PV×bX):=if c=true then ia ⟨.lst,r.1⟩ ⟨ρ,r.2⟩else some (.ok (.lst r.1),⟨ρ,r.2⟩)
def fR(c:Bool)(link:List (Option Nat))(fi:Gx zw)(bd:Bd):Gx PV:=bnd fi λs st=>(Ba (bd (cR link st.ρ)) st.h s).bind (Bb c st.ρ)
section
variable {X:Cx} {aa:Hp} {ab:Fz} {N:List Str} {link:List (Option Nat)} {scope:Scope} {tg iter elt c:Expr} {pos:Pos} {fi:Gx zw} {g:Tg} {fe:Gx PV} {ft:Gx Bool} {L:List Nat} {cl:Bool}
def wo{aI:bX}{Q:VK}(R':jY X.K aa ab F' hf H')(L1:Lc X.K F1 aI.ρ σ)(g':Gr F1 F')(uq:ao X.K F' done acc)(hn:H' D=none)(e4:Bb cl aI.ρ (done,hf)=some r)(e2:E2 X aa ab F1 (λa bK=>∀b H' F',Rep X.K aa ab F' bK σ H'->Gr F1 F'->aZ X.K F' a b->Q b H') r):Q (.ref D) (cj H' D (.lst acc)):=by
 have Ro:Rep X.K aa ab F' ⟨aI.ρ,hf⟩ σ H':=⟨R',L1.mono g'⟩;cases cl with
 | true =>
  have e4:=e4;exact Tx.ia (Tx.mono ⟨r,e4,e2⟩ g' λ_ _ z=>z) Ro hn ar uq
 | false =>
  have e4:=e4;cases e4;obtain⟨R2,s2⟩:=Ro.laid (.lst acc) hn;exact e2 _ _ _ R2 (g'.trans s2) (cP.mpr ⟨D,acc,rfl,gE.of ar,uq.mono s2⟩)
def rS{Q:VK}
  (hb:∀(F2:Fz) (ρ:List (Option PV)) (p:PV) (h h':List ai) (o:Option PV) (x:V) (bu:St) (H2:Hp) (Q':Option V->St->Hp->Prop),bd (cR link ρ) p h=some (o,h')->Rep X.K aa ab F2 ⟨cR link ρ,h⟩ bu H2->aZ X.K F2 p x ->
   (∀o' mX H3 F3,Rep X.K aa ab F3 ⟨cR link ρ,h'⟩ mX H3->Gr F2 F3->ao X.K F3 o.toList (Option.toList o')->Q' o' mX H3)->tb x bu H2 Q')
  (h:tE X aa ab (fR cl link fi bd) σ H Q):rP link (CA X aa ab fi) tb σ H Q:=by
 obtain⟨F,st,R,h⟩:=h;refine⟨F,st,R,h.bnd λsr J F1 aI H1 R1 g1 wk h1=>?_⟩
 obtain⟨r,e1,e2⟩:=h1;obtain⟨⟨rs,hf⟩,e3,e4⟩:=aF e1;cases sr with
 | sq ps =>
  obtain⟨dr,e3⟩:=bE e3;refine⟨λi m acc bu H'=>m=ps.length-i/\i<=ps.length/\acc.length<=i/\∃F' h' done rest,Rep X.K aa ab F' ⟨cR link aI.ρ,h'⟩ bu H'/\Gr F1 F'/\gM (bd (cR link aI.ρ)) (ps.drop i) h'=some (rest,hf)/\done++rest=rs/\ao X.K F' done acc,
   ⟨ps.length,rfl,fK _,aq _,F1,aI.h,[],rs,⟨R1.c,R1.l.iy link⟩,Gr.refl _,e3,rfl,.nil⟩,?_⟩
  rintro i m acc bu H' ⟨rfl,hi,ha,F',h',done,rest,R',g',hr,hd,uq⟩
  obtain⟨wg,Wt⟩:=wk aa ab F' _ bu H' R' g' i;by_cases wj:i<ps.length
  ·rw[List.drop_eq_getElem_cons wj]at hr;obtain⟨⟨o,h2⟩,e5,e6⟩:=aF hr;obtain⟨⟨r2,h3⟩,e7,e8⟩:=aL e6;cases e8;obtain⟨go,wy⟩:=wg ps[i] (aR wj);refine .inr ⟨go,n5 (aM ha hi) (n5 dr (by decide)),λx H2 y=>?_⟩
   obtain⟨F2,R2,s2,b2⟩:=wy x H2 y;refine hb F2 aI.ρ ps[i] h' h2 o x bu H2 _ e5 R2 b2 λo' mX H3 F3 R3 s3 b3=>⟨ps.length-(i+1),by lia,rfl,wj,?_,F3,h2,done++o.toList,r2,R3,g'.trans (s2.trans s3),e7,by rw[<-hd,og],(uq.mono (s2.trans s3)).append b3⟩
   rw[cz];cases o'<;>simp <;> lia
  ·have e:i=ps.length:=by lia
   subst e;rw[List.drop_length]at hr;cases hr;rw[fq]at hd;subst hd;exact .inl ⟨Wt (gY (aq _)),aM ha (dh dr),λD hn=>wo R'.c R1.l g' uq hn e4 e2⟩
 | cl n =>
  obtain⟨a,hna,rfl⟩:=wk;refine⟨λi m acc bu H'=>i+m=gV/\acc.length<=i/\∃F' h' done rest,Rep X.K aa ab F' ⟨cR link aI.ρ,h'⟩ bu H'/\Gr F1 F'/\A9 (bd (cR link aI.ρ)) n m i h'=some (rest,hf)/\done++rest=rs/\ao X.K F' done acc,
   ⟨gV,lS _,aq _,F1,aI.h,[],rs,⟨R1.c,R1.l.iy link⟩,Gr.refl _,e3,rfl,.nil⟩,?_⟩
  rintro i m acc bu H' ⟨hm,ha,F',h',done,rest,R',g',hr,hd,uq⟩
  cases m with
  | zero=>cases hr
  | succ m =>
   have hr:(match LD n h' i with
    | some (some p)=>(bd (cR link aI.ρ) p h').bind λr=>(A9 (bd (cR link aI.ρ)) n m (i+1) r.2).map λs=>(r.1.toList++s.1,s.2)
    | some none=>some ([],h')
    | none=>none)=some (rest,hf):=hr
   have zb:i<=gV:=by lia
   cases z:LD n h' i with
   | none=>rw[z]at hr;cases hr
   | some o =>
    obtain⟨ps,vs,ho,hq,YM⟩:=FF R' (g'.m n a hna) z;rw[z]at hr;cases o with
    | none =>
     cases hr;rw[fq]at hd;subst hd;refine .inl ⟨⟨vs,hq,?_⟩,aM ha (dh zb),λD hn=>wo R'.c R1.l g' uq hn e4 e2⟩
     rw[<-YM.length];exact fH.mp ho.symm
    | some p =>
     obtain⟨⟨o,h2⟩,e5,e6⟩:=aF hr;obtain⟨⟨r2,h3⟩,e7,e8⟩:=aL e6;cases e8;obtain⟨v,hv,bv⟩:=YM.get ho.symm;refine .inr ⟨⟨vs,v,hq,hv⟩,n5 (aM ha zb) (by decide),λx H2 ⟨hH,y⟩=>?_⟩
     subst hH;have:=y vs hq;rw[hv]at this;cases this;refine hb F' aI.ρ p h' h2 o v bu H2 _ e5 R' bv λo' mX H3 F3 R3 s3 b3=>⟨m,lP m,by lia,?_,F3,h2,done++o.toList,r2,R3,g'.trans s3,e7,by rw[<-hd,og],(uq.mono s3).append b3⟩
     rw[cz];cases o'<;>simp <;> lia
def FH(hg:KG L g)(hL:∀i∈L,link[i]?=some none)(h:tE X aa ab (fR cl link fi (m8 g fe)) σ H Q):rP link (CA X aa ab fi) (YF X aa ab g fe) σ H Q :=
 rS (λF2 ρ p h h' o x bu H2 Q' e R2 b2 k=>by
  obtain⟨aI,e1,e⟩:=aF e;obtain⟨r,e2,e⟩:=aF e;obtain⟨⟨a,hh⟩,e3,e4⟩:=aL e;cases e4;obtain⟨II,rfl,rfl⟩:=wm e3;obtain⟨l1,k1⟩:=hg _ _ _ e1;refine⟨F2,_,p,aI,R2,b2,e1,λmX H3 F3 R3 s3 Y hY=>⟨F3,aI,by grind,_,e2,λv H4 F4 R4 s4 b4=>?_⟩⟩
  rw[hY]at R4 b4;exact k (some v) mX H4 F4 ⟨R4.c,(R3.l.mono s4).back (l1.symm.trans R3.l.len) rfl k1 hL⟩ (s3.trans s4) (.cons b4 .nil)) h
def FI(hg:KG L g)(hL:∀i∈L,link[i]?=some none)(h:tE X aa ab (fR cl link fi (Fs g ft fe)) σ H Q):rP link (CA X aa ab fi) (YG X aa ab g ft fe) σ H Q :=
 rS (λF2 ρ p h h' o x bu H2 Q' e R2 b2 k=>by
  obtain⟨aI,e1,e⟩:=aF e;obtain⟨r,e2,e⟩:=aF e;obtain⟨l1,k1⟩:=hg _ _ _ e1;refine⟨F2,_,p,aI,R2,b2,e1,λmX H3 F3 R3 s3 Y hY=>⟨F3,aI,by grind,r,e2,?_⟩⟩
  match r,e with
  | (.ok b,dF),e =>
   intro b' H4 F4 R4 s4 eb;cases eb;cases b with
   | true =>
    have e:=e;obtain⟨r,e5,e⟩:=aF e;obtain⟨⟨a,hh⟩,e6,e7⟩:=aL e;cases e7;obtain⟨II,rfl,rfl⟩:=wm e6;rw[if_pos rfl];refine⟨F4,dF,R4,_,e5,λv H5 F5 R5 s5 b5=>?_⟩
    rw[hY]at R5 b5;exact k (some v) mX H5 F5 ⟨R5.c,(R3.l.mono (s4.trans s5)).back (l1.symm.trans R3.l.len) rfl k1 hL⟩ (s3.trans (s4.trans s5)) (.cons b5 .nil)
   | false =>
    have e:=e;cases e;rw[hY]at R4;exact k none mX H4 F4 ⟨R4.c,(R3.l.mono s4).back (l1.symm.trans R3.l.len) rfl k1 hL⟩ (s3.trans s4) .nil) h
end
noncomputable def Se:ai:=⟨.aj,[]⟩
section
variable {K:W.Frag} {aa H:Hp} {ab F F':Fz} {st:bX} {σ:St} {a:Addr} {n:Nat} {c:ai}
def Sf{μ:List Addr}(hd:μ.Nodup)(h1:μ[n]?=some a)(h2:μ[m]?=some b)(hm:m≠n):b≠a:=λz=>by
 subst z;exact hm ((yq (b9.mp h2).1 hd).mp (h2.trans h1.symm))
def Rep.lock(R:Rep K aa ab F st σ H)(ha:F.μ[n]?=some a)(hf:F.F a=none)(u:HO):Rep K aa ab ⟨cj F.F a u,F.μ⟩ ⟨st.ρ,st.h.set n Se⟩ σ (cj H a u)/\Gr F ⟨cj F.F a u,F.μ⟩:=by
 have g:Gr F ⟨cj F.F a u,F.μ⟩:=⟨dA hf,λ_ _ h=>h⟩
 have h0:=(R.c.new n a ha).1;refine⟨⟨⟨λb o e=>?_,λb o e=>?_,R.c.base.trans g,λb o e=>?_,λm b e=>?_,by simp[R.c.hl],R.c.nd,λm d b hd hb hl=>?_⟩,R.l.mono g⟩,g⟩
 ·have e:cj F.F a u b=some o:=e;by_cases hb:b=a
  ·subst hb;rw[ar]at e ⊢;exact e
  ·rw[aH hb]at e ⊢;exact R.c.sub _ _ e
 ·rw[aH (cO e h0)];exact R.c.keep _ _ e
 ·have e:cj F.F a u b=some o:=e;by_cases hb:b=a
  ·subst hb;exact .inr h0
  ·rw[aH hb]at e;exact R.c.fresh _ _ e
 ·obtain⟨h1,o,h2⟩:=R.c.new m b e;by_cases hb:b=a
  ·subst hb;exact⟨h1,u,ar⟩
  ·exact⟨h1,o,by rw[aH hb];exact h2⟩
 ·by_cases hm:m=n
  ·subst hm;rw[List.getElem?_set_self' ]at hd;cases z:st.h[m]? with
   | none=>rw[z]at hd;cases hd
   | some d'=>rw[z]at hd;cases hd;cases hl
  ·rw[jJ (bJ hm)]at hd;have jj:=Sf R.c.nd ha hb hm;obtain⟨h1,vs,h2,h3⟩:=R.c.cell m d b hd hb hl;exact⟨(aH jj).trans h1,vs,h2.to g.s (λo e=>by rw[aH jj];exact e) (λz=>z),h3.mono g⟩
end
noncomputable def cX:cL->PV
 | .inl i=>.int i
 | .inr x=>.str x
noncomputable def lsP:PV->Option (List PV)
 | .nd .lst qs=>some qs
 | _=>none
def aaw(n:Nat)(ks:List (List cL))(ps:List PV)(p q:PV):Option (List PV):=match p with
 | .ref m=>if m=n then(i3 true q).bind λk=>(dj k ks ps).bind lsP else none
 | _=>none
section
variable {X:Cx} {aa:Hp} {ab:Fz} {tg iter va vb:Expr} {fe fa fb:Gx PV} {f:Gx d9} {body:List Stmt} {pos aax:Pos} {D:vF} {g:Tg}
def N0(fe:Gx PV):Gx PV:=bnd fe λp st=>match p with
 | .ref n=>(Ct st.h (.ref n)).bind λq=>match q.2.k with
  | .lst=>some (.ok (.lst q.2.ps),⟨st.ρ,st.h.set n Se⟩)
  | _=>none
 | p=>some (.ok p,st)
def Sg{e:Expr}(he:PE X e (tE X aa ab fe)):PE X e (tE X aa ab (N0 fe)):=he.imp λσ H Q h=>by
 obtain⟨F,st,R,h⟩:=h;refine⟨F,st,R,h.bnd λp v F1 aI H1 R1 g1 b1 h1=>?_⟩
 have keep:(∀n,p≠.ref n)->Q v H1:=λhp=>by
  obtain⟨r,e1,e2⟩:=h1;cases p with
  | ref n=>exact absurd rfl (hp n)
  | _=>cases e1;exact e2 _ _ F1 R1 (Gr.refl _) b1
 cases p with
 | ref n =>
  obtain⟨r,e1,e2⟩:=h1;obtain⟨⟨m,c⟩,d1,e3⟩:=aF (show(Ct aI.h (.ref n)).bind _=some r from e1)
  obtain⟨z,hc1,hl⟩:=gK d1;cases z;obtain⟨a,ha,rfl⟩:=dt.mp b1;obtain⟨ck,cp⟩:=c;cases ck with
  | lst =>
   cases e3;obtain⟨hf,ws,k1,hv⟩:=R1.c.cell n _ a hc1 ha hl;have k1:H1 a=some (.lst ws):=k1;obtain⟨R2,g2⟩:=R1.lock ha hf (.lst ws);have eH:cj H1 a (.lst ws)=H1:=by
    funext b
    by_cases hb:b=a
    ·subst hb;rw[ar,k1]
    ·rw[aH hb]
   rw[eH]at R2;exact e2 _ _ _ R2 g2 (cP.mpr ⟨a,ws,rfl,gE.of ar,hv.mono g2⟩)
  | _=>cases e3
 | _=>exact keep λ_ z=>nomatch z
end
def Bc{P:Program}{w:World}{H':Hp}{h1 h5 B:Heap}(x:kq P w H' h1)(hB:∀b o,H' b=some o->∃ob,B.get? b=some ob)(k1:B.StaysIn h1)(k5:B.StaysIn h5):kq P w H' h5:=λa o e=>by
 have keep:∀b u o',H' b=some o'->h1.get? b=some u->h5.get? b=some u:=λb u o' eb q=>by
  obtain⟨ob,UR⟩:=hB b o' eb;have:=k1 b ob UR;rw[q]at this;cases this;exact k5 b _ UR
 refine(x a o e).vB (λb u hb q=>?_) (λ_ q=>q) (λ_ _ q=>q) λ_ _ _ q=>q
 rcases hb with rfl | hb
 ·exact keep _ _ _ e q
 ·exact keep _ _ _ hb q
def FJ{l:List Env}{H H':Hp}{h h1 h5 B B':Heap}(u:Un (kA l) [] H H' h h1)(sm:Dm H H')(hB:∀b o,H' b=some o->∃ob,B.get? b=some ob)(hU:∀b ob,h.get? b=some ob->H b=none->b∉kA l->B.get? b=some ob)
  (k5:B.StaysIn h5) (fr:h1.FunFrames B' l) (up:h1.UpToSlots h5):Un (kA l) [] H H' h h5:=by
 have slot:∀b o,h.get? b=some o->H b=none->b∈kA l->∃sl,h5.get? b=some {o with slots:=sl}:=λb o q n hb=>by
  obtain⟨sl,e⟩:=u.slot b o q n hb (by simp)
  obtain⟨_,o',oH,hd⟩:=fr.mem hb;rw[e]at oH;cases oH;obtain⟨Qy,e'⟩:=up b _ e hd;exact⟨Qy,e'⟩
 refine⟨λb o q n hb _=>k5 b o (hU b o q n hb),λb o q n hb _=>slot b o q n hb,u.free,λb o q hx=>?_,u.tups,u.frzs,u.tbls⟩
 cases z:H b with
 | none =>
  by_cases hb:b∈kA l
  ·grind
  ·exact⟨o,k5 b o (hU b o q z hb)⟩
 | some v =>
  obtain⟨v',z'⟩:=sm b v z;obtain⟨ob,UR⟩:=hB b v' z';exact⟨ob,k5 b ob UR⟩
def CB{P:Program}{w:World}{H:Hp}{h:Heap}{a:Addr}{o:HO}(x:eQ P w H h a o):∃ob,h.get? a=some ob:=by
 cases o with
 | lst xs=>obtain⟨_,_,_,_,e⟩:=x;exact⟨_,e⟩
 | aj xs=>obtain⟨_,_,_,ob,e,_⟩:=x;exact⟨_,e⟩
 | dK kvs=>obtain⟨_,_,_,_,o,_,_,e,_⟩:=x;exact⟨_,e⟩
 | dT kvs=>obtain⟨_,_,o,_,_,e,_⟩:=x;exact⟨_,e⟩
 | set S n=>obtain⟨o,_,_,_,e,_⟩:=x;exact⟨_,e⟩
 | ins C dx fs=>obtain⟨_,_,_,e,_⟩:=x;exact⟨_,e⟩
 | own y=>obtain⟨_,e⟩:=x;exact⟨_,e⟩
 | xd fs=>obtain⟨_,⟨_,_,_,e,_⟩,_⟩:=x;exact⟨_,e⟩
 | Ut lo hi=>obtain⟨_,_,_,e⟩:=x;exact⟨_,e⟩
 | vt ob u=>obtain⟨e,_⟩:=x;exact⟨_,e⟩
 | eO q=>obtain⟨_,e,_⟩:=x;exact⟨_,e⟩
 | Us f y=>exact⟨_,show h.get? a=some _ from x⟩
 | ext φ=>obtain⟨_,⟨_,e⟩,_⟩:=x;exact⟨_,e⟩
section
variable {P:Program} {w:World} {K:W.Frag} {mg:Str->Option Value} {base:Heap} {N:List Str} {qual:Str} {scope:Scope} {f:Addr} {cd:Value} {A:Around} {aB:List Env} {s:Shared} {H:Hp} {E E1:XK} {ae:List (Addr×Obj)} {σ:St} {H1:Hp} {s1 s':Shared} {e:Value}
def Be(I:Inv (fN (ku P w) P w K mg base N qual scope f cd A aB s H E) ae σ H1 s1){b:Addr}{ob:Obj}(q:s.heap.get? b=some ob)(hb:b∉kA aB):b∉kA (envOfC qual scope s.heap.objs.size f cd::aB):=λhm=>by
 rcases bh.mp (I.ud b hm)with z | z
 ·exact absurd (az q) (by rw[z];exact dM _)
 ·exact hb z
def FK(I:Inv (fN (ku P w) P w K mg base N qual scope f cd A aB s H E) ae σ H1 s1)(h:ku P w (envOfC qual scope s.heap.objs.size f cd::aB) H1 s1 E1 e s')(hE:∀cls H2,E1 cls none H2->Dm H H2/\E cls none H2) :
  (fN (ku P w) P w K mg base N qual scope f cd A aB s H E).xe e s':=by
 obtain⟨a,cls,a0,B,H2,rfl,HR,hb,un,hok,sm,he,N1,hB,hU⟩:=h;obtain⟨Sh,hE⟩:=hE cls H2 he;have I2:=I.Li HR un hok hb (λb z=>absurd z (by simp))
 refine wpAny_leaves_onW I.ok.frames rfl N1 λh' N2 up=>?_
 have YN:∀b ob,s.heap.get? b=some ob->H b=none->b∉kA aB->B.get? b=some ob:=λb ob q n hb=>hU b ob (I.base.keep b ob q n hb (by simp[fN])) (I.base.free b ob q n (by simp[fN])) (Be I q hb)
 exact⟨a,cls,a0,B,H2,rfl,HR.trans I.os,hb,FJ I2.base Sh hB YN N2.1 N1.2.2.1.2.2 up,Bc hok hB N1.1 N2.1,Sh,hE,N2,hB,YN⟩
def JX{h1:Heap}{a:Addr}{cls:Value}{vs:List Value}(I:Inv (fN (ku P w) P w K mg base N qual scope f cd A aB s H E) ae σ H1 s1)(hm:Heap.MadeExcOf s1.heap h1 a cls vs)(Sh:Dm H H1)(hE:E cls none H1) :
  (fN (ku P w) P w K mg base N qual scope f cd A aB s H E).xe (.ref a) {s1 with heap:=h1}:=by
 have hB:∀b o,H1 b=some o->∃ob,(W.hideAll s1.heap (kA (envOfC qual scope s.heap.objs.size f cd::aB))).get? b=some ob:=λb o e=>by
  obtain⟨ob,q⟩:=CB (I.hok b o e);exact⟨ob,W.hideAll_get _ q λhb=>by
   have:=I.ue b hb;rw[e]at this;cases this⟩
 have hU:∀b ob,s.heap.get? b=some ob->H b=none->b∉kA aB->(W.hideAll s1.heap (kA (envOfC qual scope s.heap.objs.size f cd::aB))).get? b=some ob:=λb ob q n hb =>
  W.hideAll_get _ (I.base.keep b ob q n hb (by simp[fN])) (Be I q hb)
 refine wpAny_leaves_madeW I.ok.frames rfl (λb o q=>W.of_hideAll _ q) (W.funFrames_hide I.stack λenv he b hb=>n8.mpr ⟨env,he,hb⟩) hm λh' t N1 aj tn up=>?_
 refine⟨a,cls,.ref t,_,H1,rfl,I.os,I.bare,FJ (I.base.trans (Un.kept hm.keeps)) Sh hB hU N1.1 (I.funs.of_keeps λb o q _=>⟨o,hm.keeps b o q,rfl⟩) up,Bc (I.hok.kept hm.keeps) hB (λb o q=>hm.keeps b o (W.of_hideAll _ q)) N1.1,Sh,hE,N1,hB,hU⟩
end
def FL(K:W.Frag)(f:Addr)(eL:Value):Prop:=∃oc od fd xN,K.lookup f=some ⟨oc,od,.func fd,xN⟩/\fd.code=eL
def JY{P:Program}{w:World}{K:W.Frag}{mg:Str->Option Value}{base:Heap}{x qual:Str}{st:Stmt}{f:Addr}{fd:FuncData}{N ps:List Str}{k:Nat}{sp:Sp}(F:BM K x qual st f fd)(S:dn N ps (ay st))(len:∀vs H Q E,sp vs H Q E->vs.length=ps.length)
  (hbody:∀(eL:Value) (A:Around) (aB:List Env) (s:Shared) (H:Hp) (vs:List V) (Q:VK) (E:XK),FL K f eL->dZ k (A.deeper (envOfC qual (ay st) s.heap.objs.size f eL))->sp vs H Q E ->
   ∃t,PSs (fN (ku P w) P w K mg base N qual (ay st) f eL A aB s H E) (dq st) t/\t {nx:=λ_ H'=>Q .aV H',rt:=Q} (start N vs) H):FnOk P w K mg base (ku P w) (k+1) f fd ps sp:=by
 obtain⟨oc,od,kV,doc,pm,an,eL,ct,xN,rfl,lk,DM⟩:=F.ex;exact QZ lk DM S len λA aB s H vs Q E hr P6=>hbody eL A aB s H vs Q E ⟨oc,od,_,xN,lk,rfl⟩ hr P6
noncomputable def qD(H:Hp)(μ:List Addr):Hp:=λb=>if b∈μ then none else H b
section
variable {K:W.Frag} {aa H H':Hp} {ab F F':Fz} {h h':List ai}
def CD{μ:List Addr}{b:Addr}{o:HO}(e:qD H μ b=some o):H b=some o/\b∉μ:=by
 unfold qD at e;split at e
 ·cases e
 ·grind
def CF{μ:List Addr}{b:Addr}(e:qD H μ b=none):H b=none\/b∈μ:=by
 unfold qD at e;split at e
 ·grind
 ·grind
def jY.enter(C:jY K aa ab F h H):jY K (qD H F.μ) F F h H/\∀b o,H b=some o->qD H F.μ b=some o\/∃n:Nat,F.μ[n]?=some b:=by
 refine⟨⟨C.sub,λb o e=>(CD e).1,Gr.refl F,λa o e=>.inl e,λn a e=>⟨if_pos (iK e),(C.new n a e).2⟩,C.hl,C.nd,C.cell⟩,λb o e=>?_⟩
 by_cases hb:b∈F.μ
 ·obtain⟨n,hn⟩:=lG.mp hb;exact .inr ⟨n,hn⟩
 ·exact .inl (by unfold qD;rw[if_neg hb];exact e)
def jY.leave(C:jY K aa ab F h H)(D:jY K (qD H F.μ) F F' h' H'):jY K aa ab F' h' H':=by
 have none_of:∀a,qD H F.μ a=none->aa a=none:=λa e=>by
  rcases CF e with z | z
  ·exact C.keep.free z
  ·obtain⟨n,hn⟩:=lG.mp z;exact(C.new n a hn).1
 refine⟨D.sub,λb o e=>D.keep b o ?_,C.base.trans D.base,λa o e=>?_,λn a e=>⟨none_of a (D.new n a e).1,(D.new n a e).2⟩,D.hl,D.nd,D.cell⟩
 ·unfold qD;rw[if_neg λhb=>?_]
  ·exact C.keep b o e
  ·obtain⟨n,hn⟩:=lG.mp hb;rw[(C.new n b hn).1]at e;cases e
 ·rcases D.fresh a o e with z | z
  ·exact C.fresh a o z
  ·grind
end
abbrev nh:=List PV->List ai->Option (Rs PV×List ai)
def Wu(K:W.Frag)(aa:Hp)(F:Fz)(h':List ai)(Q:VK)(E:XK):Rs PV->Prop
 | .ok p=>∀v F' H',jY K aa F F' h' H'->aZ K F' p v->Q v H'
 | .ex _ C=>∀cls F' H',jY K aa F F' h' H'->ClsAt K C cls->E cls none H'
def CG(K:W.Frag)(n:Nat)(f:nh):Sp:=λvs H Q E=>∃aa F h ps r h',jY K aa F F h H/\(∀b o,H b=some o->aa b=some o\/∃n:Nat,F.μ[n]?=some b)/\ao K F ps vs/\ps.length=n/\f ps h=some (r,h')/\Wu K aa F h' Q E r
noncomputable def ie(n:Nat)(ps:List PV):List (Option PV):=ps.map some++List.replicate (n-ps.length) none
noncomputable def Si:Rs d9×bX->Option (Rs PV×List ai)
 | (.ok (.rt p),st)=>some (.ok p,st.h)
 | (.ok .nx,st)=>some (.ok .aV,st.h)
 | (.ex m C,st)=>some (.ex m C,st.h)
 | _=>none
def iC(fb:Gx d9)(n:Nat):nh:=λps h=>(fb ⟨ie n ps,h⟩).bind Si
def FN{K:W.Frag}{F:Fz}{ps:List PV}{vs:List V}{N:List Str}(b:ao K F ps vs):Lc K F (ie N.length ps) (start N vs) where
 av:=λi p e=>by
  unfold ie at e;unfold start;by_cases hi:i<ps.length
  ·rw[nV (by simpa using hi),bg]at e
   cases z:ps[i]? with
   | none=>rw[z]at e;cases e
   | some q =>
    rw[z]at e;cases e;obtain⟨v,h1,h2⟩:=b.get z;refine⟨v,?_,h2⟩;rw[nV (by simpa using (b.length▸hi)),bg,h1]
    rfl
  ·rw[DZ (by simpa using hi),List.getElem?_replicate]at e
   split at e<;>cases e
 len:=by unfold ie start;simp[b.length]
def LF{K:W.Frag}{aa H H':Hp}{F F':Fz}{h':List ai}(full:∀b o,H b=some o->aa b=some o\/∃n:Nat,F.μ[n]?=some b)(D:jY K aa F F' h' H'):Dm H H':=λb o e=>by
 rcases full b o e with z | ⟨n,hn⟩
 ·exact⟨o,D.keep b o z⟩
 ·exact(D.new n b (D.base.m n b hn)).2
def FO{P:Program}{w:World}{K:W.Frag}{mg:Str->Option Value}{base:Heap}{x qual:Str}{st:Stmt}{f:Addr}{fd:FuncData}{N ps:List Str}{k:Nat}{fb:Gx d9}(F:BM K x qual st f fd)(S:dn N ps (ay st))
  (hbody:∀(eL:Value) (A:Around) (aB:List Env) (s:Shared) (H:Hp) (E:XK),FL K f eL->dZ k (A.deeper (envOfC qual (ay st) s.heap.objs.size f eL))->∀(aa:Hp) (ab:Fz),
   PSs (fN (ku P w) P w K mg base N qual (ay st) f eL A aB s H E) (dq st) (tS (fN (ku P w) P w K mg base N qual (ay st) f eL A aB s H E) aa ab fb)):FnOk P w K mg base (ku P w) (k+1) f fd ps (CG K ps.length (iC fb N.length)):=by
 refine JY F S (by rintro vs H Q E ⟨_,_,_,_,_,_,_,_,b,hl,_⟩;rw[<-b.length];exact hl) λeL A aB s H vs Q E YO hr z9=>?_
 obtain⟨aa,F,h,as,r,h',C,full,b,hl,hf,res⟩:=z9;refine⟨_,hbody eL A aB s H E YO hr aa F,F,⟨ie N.length as,h⟩,⟨C,FN b⟩,?_⟩;obtain⟨q,e1,e2⟩:=aF hf;refine⟨q,e1,?_⟩;rcases q with⟨f | ⟨m,c⟩,st⟩
 ·cases f with
  | rt=>cases e2;exact λv F' H' C' g b'=>res v F' H' C' b'
  | nx=>cases e2;exact λF' bu H' R g=>res .aV F' H' R.c (cG.mpr rfl)
  | _=>cases e2
 ·cases e2;cases m with
  | true=>exact λF' bu H' ae s1 h1 a cls vs R sf I hc hm=>JX I hm (LF full R.c) (res cls F' H' R.c hc)
  | false=>exact λbu ae H1 s1 e s' I h=>FK I h (by rintro cls H2 ⟨hc,F',R,sf⟩;exact⟨LF full R.c,res cls F' H2 R.c hc⟩)
mutual
def noRef:PV->Bool
 | .ref _=>false
 | .nd _ ps=>aE ps
 | _=>true
def aE:List PV->Bool
 | []=>true
 | p::ps=>noRef p&&aE ps
end
section
variable {K:W.Frag} {F:Fz} {μ:List Addr}
mutual
theorem aZ.any:∀{p:PV} {v:V},noRef p=true->aZ K F p v->aZ K ⟨F.F,μ⟩ p v
 | .aV,_,_,b=>cG.mpr (cG.mp b)
 | .bl _,_,_,b=>aS.mpr (aS.mp b)
 | .int _,_,_,b=>au.mpr (au.mp b)
 | .str _,_,_,b=>bj.mpr (bj.mp b)
 | .fn _,_,_,b=>l7.mpr (l7.mp b)
 | .ref _,_,h,_=>by simp[noRef]at h
 | .nd k ps,_,h,b=>by
  obtain⟨a,vs,h1,h2,h3⟩:=hJ.mp b;exact hJ.mpr ⟨a,vs,h1,h2,ao.any h h3⟩
theorem ao.any:∀{ps:List PV} {vs:List V},aE ps=true->ao K F ps vs->ao K ⟨F.F,μ⟩ ps vs
 | [],_,_,b=>by rw[b.bL];exact .nil
 | _::_,_,h,b=>by
  simp only[aE,aC]at h;obtain⟨v,r,rfl,b1,b2⟩:=b.bB;exact .cons (b1.any h.1) (ao.any h.2 b2)
end
end
def lC(h:List ai):Nat->PV->Option PV
 | 0,p=>if noRef p=true then some p else none
 | n+1,p=>if noRef p=true then some p else match p with
  | .ref m=>(h[m]?).bind λc=>if live c=true then(aQ (lC h n) c.ps).map (.nd c.k)else none
  | .nd k ps=>(aQ (lC h n) ps).map (.nd k)
  | _=>none
open Classical in
noncomputable def jx (F:Fz) (h:List ai) (H:Hp):Hp:=λa=>match F.F a with
 | some o=>some o
 | none=>if(∃(n:Nat) (c:ai),F.μ[n]?=some a/\h[n]?=some c/\live c=true)then H a else none
section
variable {K:W.Frag} {aa H:Hp} {ab F:Fz} {h:List ai}
def gO{a:Addr}{o:HO}(e:F.F a=some o):jx F h H a=some o:=by unfold jx;rw[e]
def CH{a:Addr}{n:Nat}{c:ai}(e:F.F a=none)(h1:F.μ[n]?=some a)(h2:h[n]?=some c)(h3:live c=true):jx F h H a=H a:=by
 unfold jx;rw[e];exact if_pos ⟨n,c,h1,h2,h3⟩
def wq{a:Addr}{o:HO}(e:jx F h H a=some o):F.F a=some o\/(H a=some o/\∃n:Nat,F.μ[n]?=some a):=by
 unfold jx at e;split at e
 ·grind
 ·split at e
  ·grind
  ·cases e
def jY.lC(C:jY K aa ab F h H)(μ:List Addr):∀(n:Nat) (p q:PV) (v:V),lC h n p=some q->aZ K F p v->aZ K ⟨jx F h H,μ⟩ q v:=by
 have keep:∀{p:PV} {v:V},noRef p=true->aZ K F p v->aZ K ⟨jx F h H,μ⟩ p v:=λhn b =>
  aZ.mono (F:=⟨F.F,μ⟩) (F':=⟨jx F h H,μ⟩) ⟨λb o e=>gO e,λ_ _ e=>e⟩ (b.any hn)
 intro n;induction n with
 | zero =>
  intro p q v e b;obtain⟨hn,rfl⟩:=aw e;exact keep hn b
 | succ n ih =>
  intro p q v e b;unfold U.lC at e;split at e
  ·grind
  ·have list:∀(ps qs:List PV) vs,aQ (U.lC h n) ps=some qs->ao K F ps vs->ao K ⟨jx F h H,μ⟩ qs vs:=by
    intro ps;induction ps with
    | nil=>intro qs vs e b;cases e;rw[b.bL];exact .nil
    | cons p ps ih2 =>
     intro qs vs e b;obtain⟨y,r,e1,e2,rfl⟩:=cW e;obtain⟨v,w,rfl,b1,b2⟩:=b.bB;exact .cons (ih p y v e1 b1) (ih2 r w e2 b2)
   split at e
   ·obtain⟨c,e1,e⟩:=aF e;obtain⟨hl,e⟩:=bE e;obtain⟨qs,e2,rfl⟩:=aL e;obtain⟨a,h1,h2⟩:=dt.mp b;obtain⟨hF,vs,h3,h4⟩:=C.cell _ c a e1 h1 hl;exact hJ.mpr ⟨a,vs,h2,h3.to (λb o e=>gO e) (λo e=>by rw[show(Fz.mk (jx F h H) μ).F a=jx F h H a from rfl,CH hF h1 e1 hl];exact e) (λz=>by cases z),list _ _ _ e2 h4⟩
   ·obtain⟨qs,e2,rfl⟩:=aL e;obtain⟨a,vs,h1,h2,h3⟩:=hJ.mp b;exact hJ.mpr ⟨a,vs,h1,h2.to (λb o e=>gO e) (λo e=>gO e) id,list _ _ _ e2 h3⟩
   ·cases e
end
section
variable {X:Cx} {aa:Hp} {ab:Fz} {e:Expr} {es:List Expr} {ts:Gx (List PV)} {pos p:Pos} {k n:Nat} {f:Addr} {fd:FuncData} {ps:List Str} {x:Str} {g:nh}
def nK{CX:D1}{sp:Sp}{E:XK}{ae:List (Addr×Obj)}{σ:St}{H:Hp}{s:Shared}{Q:VK}{us:List Value}{vs:List V}(F:FnOk X.prog X.w X.K X.mg X.base CX k f fd ps sp)(hr:dZ k X.A)(hb:fM X.K fd ps [])(hx:∀e s',CX X.stack H s E e s'->X.xe e s')
  (I:Inv X ae σ H s) (r:Vals vs us) (h:sp vs H Q E):wpAny (model X.prog X.w) X.A (call (.ref f) us) (EP X ae σ Q) X.xe s:=by
 have UH:=hb s us I.oG (by rw[fq,<-r.length];exact F.len _ _ _ _ h)
 rw[fq]at UH;refine wpAny_call (lT (F.run X.A X.stack s H ⟨us,[]⟩ us vs Q E hr I.QY UH r h) λr s' hq=>?_)
 cases r with
 | error e=>exact hx e s' hq
 | ok fl =>
  cases fl with
  | ret u=>exact I.after hq
  | next=>exact False.elim hq
  | brk=>exact False.elim hq
  | cont=>exact False.elim hq
noncomputable def Wv:Rs PV->Rs PV
 | .ok p=>.ok p
 | .ex _ C=>.ex false C
def bH(h:List ai)(p:PV):Option PV:=if h.isEmpty=true then some p else lC h 4 p
def N3(st:bX):Rs PV×List ai->Option (Rs PV×bX)
 | (.ok p,h)=>(bH h p).map λq=>(.ok q,st)
 | (.ex _ C,_)=>some (.ex false C,st)
def FP(n:Nat)(g:nh)(as:List PV):Gx PV:=λst=>if as.length=n then(g as st.h).map λr=>(Wv r.1,⟨st.ρ,r.2⟩)else none
def j4(n:Nat)(g:nh)(as:List PV):Gx PV:=λst=>if as.length=n/\(st.h.isEmpty || aE as)=true then(g as []).bind (N3 st)else none
def FQ(n:Nat)(g:nh)(ts:Gx (List PV)):Gx PV:=bnd ts (j4 n g)
def JZ(X:Cx)(f:Addr)(w:List PV->Gx PV):Prop:=∀(aa H:Hp) (ab F:Fz) (st:bX) (σ:St) (ae:List (Addr×Obj)) (s:Shared) (Q:VK) (as:List PV) (us:List Value) (vs:List V),Inv X ae σ H s->Rep X.K aa ab F st σ H->ao X.K F as vs->Vals vs us->Tx X aa ab (aZ X.K) F st (w as) σ Q ->
 wpAny (model X.prog X.w) X.A (call (.ref f) us) (EP X ae σ Q) X.xe s
def Ww(G:FnOk X.prog X.w X.K X.mg X.base (ku X.prog X.w) k f fd ps (CG X.K n g))(hr:dZ k X.A)(hb:fM X.K fd ps []):JZ X f (FP n g):=by
 rintro aa H ab F st σ ae s Q as us vs I R b r ⟨q,e1,e2⟩
 obtain⟨hl,e1⟩:=bE e1;obtain⟨⟨rs,h'⟩,e3,e4⟩:=aL e1;subst e4;obtain⟨C,full⟩:=R.c.enter;cases rs with
 | ok p'=>exact nK G hr hb (λe s' hx=>EY ae σ H s e s' I hx) I r ⟨_,F,st.h,as,_,h',C,full,b,hl,e3,λv F' H' D b'=>e2 v H' F' ⟨R.c.leave D,R.l.mono D.base⟩ D.base b'⟩
 | ex m c=>exact thn (nK (Q:=λ_ _=>False) G hr hb (λe s' hx=>e2 σ ae H s e s' I hx) I r ⟨_,F,st.h,as,_,h',C,full,b,hl,e3,λcls F' H' D hc=>⟨hc,F',⟨R.c.leave D,R.l.mono D.base⟩,D.base⟩⟩) (by rintro v s3 ⟨_,_,_,_,z⟩;exact z.elim)
def Rep.back{K:W.Frag}{aa H H1 H':Hp}{ab F F':Fz}{μ:List Addr}{st:bX}{σ:St}{h':List ai}(R:Rep K aa ab F st σ H)(hH:b8 H H1)(D:jY K H1 ⟨F.F,μ⟩ F' h' H'):Rep K aa ab ⟨jx F' h' H',F.μ⟩ st σ H'/\Gr F ⟨jx F' h' H',F.μ⟩:=by
 have g:b8 F.F (jx F' h' H'):=λb o e=>gO (D.base.s b o e)
 refine⟨R.after (hH.trans D.keep) g rfl (λb o e=>?_) (λa o e=>?_),g,λ_ _ z=>z⟩
 ·rcases wq e with z | ⟨z,_⟩
  ·exact D.sub b o z
  ·exact z
 ·rcases wq e with z | ⟨_,n,z⟩
  ·exact(D.fresh a o z).imp_right hH.free
  ·exact .inr (hH.free (D.new n a z).1)
def jY.pure{K:W.Frag}{aa H:Hp}{ab F:Fz}{h:List ai}(C:jY K aa ab F h H):jY K H ⟨F.F,[]⟩ ⟨F.F,[]⟩ [] H :=
 ⟨C.sub,b8.refl H,Gr.refl _,λa o e=>.inl e,λn a e=>by simp at e,rfl,tW,λn c a e=>by simp at e⟩
def FT{K:W.Frag}{H H':Hp}{G F':Fz}{h':List ai}{p q:PV}{v:V}(μ:List Addr)(D:jY K H G F' h' H')(e:bH h' p=some q)(b:aZ K F' p v):aZ K ⟨jx F' h' H',μ⟩ q v:=by
 unfold bH at e;split at e
 ·rename_i z;cases e;have e0:F'.μ=[]:=iF (by rw[<-D.hl,yz.mp z];rfl)
  exact b.mono ⟨λb o e=>gO e,λn a e=>by rw[e0]at e;simp at e⟩
 ·exact D.lC μ _ _ _ _ e b
def rV{K:W.Frag}{aa H:Hp}{ab F:Fz}{st:bX}{σ:St}{as:List PV}{vs:List V}(R:Rep K aa ab F st σ H)(hn:(st.h.isEmpty || aE as)=true)(b:ao K F as vs)(μ:List Addr):ao K ⟨F.F,μ⟩ as vs:=by
 rcases Bool.or_eq_true _ _▸hn with z | z
 ·have e0:F.μ=[]:=iF (by rw[<-R.c.hl,yz.mp z];rfl)
  exact ao.mono (F:=F) (F':=⟨F.F,μ⟩) ⟨b8.refl _,λn a e=>by rw[e0]at e;simp at e⟩ b
 ·exact b.any z
def N4(G:FnOk X.prog X.w X.K X.mg X.base (ku X.prog X.w) k f fd ps (CG X.K n g))(hr:dZ k X.A)(hb:fM X.K fd ps []):JZ X f (j4 n g):=by
 rintro aa H ab F st σ ae s Q as us vs I R b r ⟨q,e1,e2⟩
 obtain⟨⟨hl,hn⟩,e1⟩:=bE e1;obtain⟨⟨rs,h'⟩,e3,e4⟩:=aF e1;have full:∀b o,H b=some o->H b=some o\/∃n:Nat,(Fz.mk F.F []).μ[n]?=some b:=by grind
 have b3:=rV R hn b [];cases rs with
 | ok p' =>
  obtain⟨p2,e5,e6⟩:=aL e4;subst e6;refine nK G hr hb (λe s' hx=>EY ae σ H s e s' I hx) I r ⟨H,⟨F.F,[]⟩,[],as,_,h',R.c.pure,full,b3,hl,e3,λv F' H' D b'=>?_⟩
  obtain⟨R3,g3⟩:=R.back (b8.refl _) D;exact e2 v H' _ R3 g3 (FT F.μ D e5 b')
 | ex m c =>
  cases e4;refine thn (nK (Q:=λ_ _=>False) G hr hb (λe s' hx=>e2 σ ae H s e s' I hx) I r ⟨H,⟨F.F,[]⟩,[],as,_,h',R.c.pure,full,b3,hl,e3,λcls F' H' D hc=>?_⟩) (by rintro v s3 ⟨_,_,_,_,z⟩;exact z.elim)
  obtain⟨R3,g3⟩:=R.back (b8.refl _) D;exact⟨hc,_,R3,g3⟩
def N5{w:List PV->Gx PV}(G:JZ X f w)(hg:Gl X x)(hm:X.mg x=some (.ref f))(hk:W.keepIn X.K (.ref f)=true)(ha:PA X (e::es) (tA X aa ab ts))(AJ:(x==("__debug__":Str))=false)
  (he:starEach (e::es) X.env=(false,eval e X.env)::starEach es X.env) (kE:(backTo pos (starEach es X.env)).any (·.1)=false):PE X (.Call (.Name x p) (e::es) [] pos) (tE X aa ab (bnd ts w)):=by
 rintro ae s σ H Q I ⟨F1,st,R,h⟩
 refine iM (ld_glob I hg hm ?_ AJ);exact W.callWith_K I.ok.mod.kin hk (thn (ha pos ae s σ H (λvs H2=>∃F2 dF as,Rep X.K aa ab F2 dF σ H2/\ao X.K F2 as vs/\Tx X aa ab (aZ X.K) F2 dF (w as) σ Q) I
  ⟨F1,st,R,h.bnd λas vs F2 dF H2 R2 g2 b2 h2=>⟨F2,dF,as,R2,b2,h2⟩⟩) (by rintro us s1 ⟨vs,H2,I2,r,F2,dF,as,R2,b2,z⟩;exact⟨I2.oG,G _ _ _ _ _ _ _ _ _ _ _ _ I2 R2 b2 r z⟩)) he kE
end
end L2.U
namespace L2
open PySem PySem.Spec PyProof.Rows
section
variable {X:Cx} {ae:List (Addr×Obj)} {σ:St} {H:Hp} {s:Shared} {a b:Addr} {k:List cL} {xs:List (List cL×Addr×Value)}
theorem gP{α β:Type}(f:α->β):∀(l:List α) (i:Nat),(l.eraseIdx i).map f=(l.map f).eraseIdx i
 | [],_=>rfl
 | _::_,0=>rfl
 | x::l,i+1=>eu (f x::·) (gP f l i)
def Sj(K:W.Frag):V->List V->Hp->VK->Prop:=λx vs H Q=>∃a b xs k j p y,x=.ref a/\vs=[.ref b]/\H a=some (.dT xs)/\ez K H xs/\fx K H b (k.map kV)/\xs[j]?=some (k,p)/\RelV y p.2/\Q y (cj H a (.dT (xs.eraseIdx j)))
def N6{α β:Type}{xs:List (α×β)}{i j:Nat}{k:α}{p q:β}(hn:(xs.map (·.1)).Nodup)(h1:xs[i]?=some (k,p))(h2:xs[j]?=some (k,q)):i=j:=by
 refine(yq (l:=xs.map (·.1)) ?_ hn).mp ?_
 ·rw[ah];exact(b9.mp h1).1
 ·rw[bg,bg,h1,h2];rfl
def N7(hu:X.A.units+1150<cLine):M4 X "dict.pop" (Sj X.K):=by
 intro ae s σ H x vs v us Q I rx rv h;obtain⟨a,b,xs,k,j,p,y,rfl,rfl,e,hk,eb,hj,ry,q⟩:=h;cases rx;obtain⟨u1,rfl,r1⟩:=rv.one;cases r1;obtain⟨z,hd,dd⟩:=rH I (.inl e) hk;have hT:=dd.typeIs;obtain⟨o,es,ep,h1,h2,h3,h4,h5,h6⟩:=dd;have YQ:es[j]?=some (entryOfKey (tupleKind (bA X.prog X.w)) (k,p)):=by rw[entry_at h4,hj];rfl
 have ky:=key_is I eb;have YR:(tupleKind (bA X.prog X.w)).room X.A.in1:=n6 (by lia)
 refine fg PySem.F.slot_dict_pop hT PySem.F.entry_dict_pop ?_ (PySem.F.args_dict_pop_2 _ _);unfold Builtin.«dict.pop» Builtin.Dict.keyAndDefault;refine af (af (yh hT ?_));show wpAny _ _ (pure (a,Value.ref b,none)) _ _ s;refine ag ?_;simp only[show(keyPart (Value.ref b)).isSome=false from rfl,cN,b6]
 refine af (yu h1 h3 (af (ag ?_)));have hne:es.isEmpty=false:=by
  rw[Array.isEmpty_eq_false_iff]
  rintro rfl
  simp at YQ
 rw[hne];simp only[cN,b6];refine af ?_;unfold Builtin.Dict.takeOut
 try with_reducible refine c7 ?_
 refine af ((tupleKind (bA X.prog X.w)).pyHash YR ky (af (wpAny_dictFind_heap (s:={s with toks:=s.toks+(tupleKind (bA X.prog X.w)).draws k}) YR ky h1 h3 h4 h5 h6 (λVN=>absurd hj (VN j p)) λj' p' hj'=>?_)))
 cases N6 h6 hj hj';refine af (yu (s:={s with toks:=s.toks+(tupleKind (bA X.prog X.w)).draws k}) h1 h3 ?_)
 rw[YQ];refine af (wpAny_updateDictKeys (hz:=by rw[size_of_entries h4];exact z) (s:={s with toks:=s.toks+(tupleKind (bA X.prog X.w)).draws k}) h1 h3 (ag ?_))
 simp only[Option.isNone_some,cN,b6];refine af (lV (ag ⟨_,rfl,y,_,I.write (x:=a) (e:=a) (o:=.dT (xs.eraseIdx j)) (by rw[e];exact True.intro) (.inl rfl) (λc q' hc z=>((ym ..).2 c hc).trans z) ⟨_,iJ _ h1 (Obj.isFreed_of_dict (yl h3 _))⟩ ⟨?_,hd,_,_,_,iJ _ h1 (Obj.isFreed_of_dict (yl h3 _)),h2.mapDictKeys _,yl h3 _,?_,?_⟩,ry,q⟩))
 ·exact aM (List.length_eraseIdx_le ..) z
 ·rw[gP,<-h4];obtain⟨l⟩:=es;simp
 ·rw[gP];exact h6.sublist (List.eraseIdx_sublist ..)
end
end L2
namespace L2.U
open PySem PySem.Spec PyProof.Rows
def N8:MG:=λc as=>match c.k,as with
 | .eW true ks,[kp]=>(i3 true kp).bind λk=>(ks.findIdx? λx=>decide (x=k)).bind λj=>(c.ps[j]?).map λp=>(⟨.eW true (ks.eraseIdx j),c.ps.eraseIdx j⟩,p)
 | _,_=>none
section
variable {X:Cx}
def J0:wd X.K (Sj X.K) N8:=by
 intro aa H ab F st σ n c c' a as ws q Q R hc hl ha hg hb k;unfold N8 at hg;split at hg
 ·rename_i ks kp hk;obtain⟨kk,e1,e2⟩:=aF hg;obtain⟨j,e5,e3⟩:=aF e2;obtain⟨p,e6,e4⟩:=aL e3;cases e4;obtain⟨w1,rfl,b1⟩:=cu hb;obtain⟨cc,rfl,P5⟩:=i4 e1 b1;obtain⟨_,vs,h2,h3⟩:=R.c.cell n c a hc ha hl;rw[hk]at h2;obtain⟨xs,g1,g2,g3,g4⟩:=h2;obtain⟨f1,f2,_⟩:=DR.mp e5;have f2:=eY f2;subst g3;rw[ah]at f1;rw[List.getElem_map]at f2;have hx:xs[j]?=some (kk,xs[j].2):=by rw[aR f1,<-f2]
  obtain⟨y,hy,by1⟩:=h3.get e6;obtain⟨u,hu,ry⟩:=g4.get hy;rw[bg,aR f1]at hu;cases hu;refine⟨a,cc,xs,kk,j,xs[j].2,y,rfl,rfl,g1,λz hz=>aT R.sub (g2 z hz),aT R.sub P5,hx,ry,k y F _ (R.put (vs:=vs.eraseIdx j) hc hl ha ⟨xs.eraseIdx j,ar,λz hz=>g2 z (List.mem_of_mem_eraseIdx hz),gP _ _ _,by rw[gP];exact g4.eraseIdx j⟩ ?_) (Gr.refl _) ?_⟩
  ·show ao _ _ (c.ps.eraseIdx j) (vs.eraseIdx j);rw[DS,DS];exact(h3.take _).append (h3.drop _)
  ·exact by1
 ·cases hg
end
end L2.U
namespace L2
open PySem PySem.Spec PyProof.Rows
section
variable {X:Cx}
def LG(K:W.Frag):V->List V->Hp->VK->Prop:=λx vs H Q=>∃a kvs k,x=.ref a/\vs=[kV k]/\H a=some (.dK kvs)/\Q ((f7 kvs k).getD .aV) H
def J1(hu:X.A.units+1150<cLine):M4 X "dict.get" (LG X.K):=by
 intro ae s σ H x xs v us Q I rx rv h;obtain⟨a,kvs,k,rfl,rfl,e,h1⟩:=h;cases rx;obtain⟨u1,rfl,r1⟩:=rv.one;obtain⟨z,hd,vs,rel,dd⟩:=EW I.hok e;refine call_meetsIn PySem.F.slot_dict_get dd.typeIs PySem.F.entry_dict_get (PySem.F.args_dict_get_2 _ _) (meets_dict_get (bA X.prog X.w) a (mG r1) hd) ⟨_,dd.mapOf,(f7 kvs k).getD .aV,H,I.tok _,?_,h1⟩;have rk:=rel.val k;cases hv:f7 kvs k<;>cases hw:valueAt vs k<;>rw[hv,hw]at rk
 ·rfl
 ·exact rk.elim
 ·exact rk.elim
 ·exact rk
end
end L2
namespace L2.U
open PySem PySem.Spec PyProof.Rows
def N9(h:List ai)(p:PV)(as:List PV):Option PV:=match dv h p,as with
 | some (.eW false ks,ps),[kp]=>(i3 false kp).bind λk=>if gw k ks=true then dj k ks ps else some .aV
 | _,_=>none
def Oa(p:PV)(as:List PV):Gx PV:=hp λh=>N9 h p as
section
variable {X:Cx} {aa H:Hp} {ab F:Fz} {st:bX} {σ:St}
def Tx.get{Q:VK}(h:Tx X aa ab (aZ X.K) F st (Oa p as) σ Q)(R:Rep X.K aa ab F st σ H)(bp:aZ X.K F p v)(ba:ao X.K F as ws):LG X.K v ws H Q:=by
 obtain⟨x,h1,h2⟩:=h.hp;unfold N9 at h1;split at h1
 ·rename_i ks ps kp z;obtain⟨kk,e1,e2⟩:=aF h1;obtain⟨a,vs,rfl,ha,eR⟩:=R.at z bp;obtain⟨kvs,k1,k2,k3⟩:=ha;obtain⟨w,ws',rfl,b1,b2⟩:=ba.bB;cases b2.bL;obtain⟨j,rfl,rfl⟩:=gJ e1 b1;rw[<-k3]at eR;rw[<-k2]at e2;refine⟨a,kvs,j,rfl,rfl,k1,h2 _ _ F R (Gr.refl _) ?_⟩;cases hv:f7 kvs j with
  | none =>
   rw[if_neg (by rw[i5,hv];simp)]at e2
   cases e2;exact cG.mpr rfl
  | some v =>
   rw[if_pos (by rw[i5,hv];rfl)]at e2
   obtain⟨v',MV,bv⟩:=nI e2 eR;rw[hv]at MV;cases MV;exact bv
 ·cases h1
end
noncomputable def Sk(T:String):Kd->Bool
 | .lst=>T=="list"
 | .eW _ _=>T=="dict"
 | _=>false
def tyG(T:String)(p:PV):Gx Unit:=hp λh=>(dv h p).bind λq=>if Sk T q.1=true then some ()else none
section
variable {X:Cx} {aa:Hp} {ab:Fz} {e o:Expr} {es:List Expr} {fo fe:Gx PV} {ts:Gx (List PV)} {pos kx fZ:Pos} {T id:String} {name:Str} {r:V->List V->Hp->VK->Prop}
def Rep.tyV{K:W.Frag}{st:bX}(R:Rep K aa ab F st σ H)(e:dv st.h p=some (k,ps))(ht:Sk T k=true)(b:aZ K F p v):L2.tyV K T v H:=by
 obtain⟨a,vs,rfl,h2,h3⟩:=R.at e b
 match k,ht,h2 with
 | .lst,ht,h2=>exact .inl ⟨aG ht,vs,gE.sq h2⟩
 | .eW false ks,ht,⟨kvs,h2,_⟩=>exact .inr (.inr (.inl ⟨aG ht,.inl ⟨kvs,h2⟩⟩))
 | .eW true ks,ht,⟨xs,h2,_⟩=>exact .inr (.inr (.inl ⟨aG ht,.inr ⟨xs,h2⟩⟩))
def HW(T:String)(w:PV->List PV->Gx PV)(fo:Gx PV)(ts:Gx (List PV)):Gx PV:=bnd fo λp=>bnd (tyG T p) λ_=>bnd ts λas=>w p as
def Sl(X:Cx)(r:V->List V->Hp->VK->Prop)(w:PV->List PV->Gx PV):Prop:=∀(aa H:Hp) (ab F:Fz) (st:bX) (σ:St) (p:PV) (as:List PV) (v:V) (ws:List V) (Q:VK),Tx X aa ab (aZ X.K) F st (w p as) σ Q->Rep X.K aa ab F st σ H->aZ X.K F p v->ao X.K F as ws->r v ws H Q
def j5(hw:Sl X r w)(h:tE X aa ab (HW T w fo ts) σ H Q):Ym X.K T r (tE X aa ab fo) (tA X aa ab ts) σ H Q:=by
 obtain⟨F,st,R,h⟩:=h;refine⟨F,st,R,h.bnd λp v F1 aI H1 R1 g1 b1 h1=>?_⟩
 obtain⟨u,e,z⟩:=At.hp (At.bnd h1);obtain⟨⟨k,ps⟩,e1,e2⟩:=aF e;obtain⟨hk,_⟩:=aw e2;refine⟨R1.tyV e1 hk b1,F1,aI,R1,Tx.bnd z λas ws F2 dF H2 R2 g2 b2 h2=>hw aa H2 ab F2 dF σ p as v ws Q h2 R2 (b1.mono g2) b2⟩
def J2(hw:Sl X r w)(h:tE X aa ab (HW T w fo (bT [])) σ H Q):Rf X.K T r (tE X aa ab fo) σ H Q:=by
 obtain⟨F,st,R,h⟩:=h;refine⟨F,st,R,h.bnd λp v F1 aI H1 R1 g1 b1 h1=>?_⟩
 obtain⟨u,e,z⟩:=At.hp (At.bnd h1);obtain⟨⟨k,ps⟩,e1,e2⟩:=aF e;obtain⟨hk,_⟩:=aw e2;exact⟨R1.tyV e1 hk b1,hw aa H1 ab F1 aI σ p [] v [] Q (At.bT (At.bnd z)) R1 b1 .nil⟩
def pd(hg:wd X.K r g):Sl X r (o6 g):=λ_ _ _ _ _ _ _ _ _ _ _ h R bp ba=>Tx.mut hg h R bp ba
def Ob:Sl X (NN X.K) uC:=λ_ _ _ _ _ _ _ _ _ _ _ h R bp ba=>Tx.ext h R bp ba
def wt(m:Str):Option (String×(PV->List PV->Gx PV)) :=
 if m==("append":Str)then some ("list",o6 (iB zk))
 else if m==("extend":Str)then some ("list",uC)
 else if m==("insert":Str)then some ("list",o6 (iB JH))
 else if m==("setdefault":Str)then some ("dict",o6 JJ)
 else if m==("pop":Str)then some ("dict",o6 N8)
 else if m==("get":Str)then some ("dict",Oa)
 else none
def zx(m:Str):Option (String×(PV->List PV->Gx PV)) :=
 if m==("reverse":Str)then some ("list",o6 (iB JF))
 else if m==("pop":Str)then none
 else if m==("clear":Str)then none
 else none
def Wx(hu:X.A.units+1150<cLine)(ht:wt name=some (T,w))(ho:PE X o (tE X aa ab fo))(ha:PA X (e::es) (tA X aa ab ts))(gh:attributeBase o name X.env (eval o X.env)=eval o X.env)
  (qA:((backTo fZ (starEach (e::es) X.env)).all (λx=>!x.1)&&(backToKw fZ (keywordEach [] X.env)).all (λx=>x.1.isSome)&&decide ((e::es).length+([]:List Keyword).length+(if([]:List Keyword).isEmpty then 0 else 1)<30))=true)
  (fy:(kx.endLine==fZ.line)=true) (kr:starEach (e::es) X.env=(false,eval e X.env)::starEach es X.env) (kE:(backTo fZ (starEach es X.env)).any (·.1)=false):PE X (.Call (.Attribute o name kx) (e::es) [] fZ) (tE X aa ab (HW T w fo ts)):=by
 unfold wt at ht;split at ht
 ·rename_i hx;cases ht;have hx:=aG hx;subst hx;exact(oR nX PySem.F.slot_list_append PySem.F.type_list_append Cc ho ha gh qA fy kr kE).imp λ_ _ _ h=>j5 (pd JE) h
 ·split at ht
  ·rename_i hx;cases ht;have hx:=aG hx;subst hx;exact(oR nX PySem.F.slot_list_extend PySem.F.type_list_extend NO ho ha gh qA fy kr kE).imp λ_ _ _ h=>j5 Ob h
  ·split at ht
   ·rename_i hx;cases ht;have hx:=aG hx;subst hx;exact(oR nX PySem.F.slot_list_insert PySem.F.type_list_insert Cs ho ha gh qA fy kr kE).imp λ_ _ _ h=>j5 (pd JI) h
   ·split at ht
    ·rename_i hx;cases ht;have hx:=aG hx;subst hx;exact(oR yd DU PySem.F.type_dict_setdefault NL ho ha gh qA fy kr kE).imp λ_ _ _ h=>j5 (pd JK) h
    ·split at ht
     ·rename_i hx;cases ht;have hx:=aG hx;subst hx;exact(oR yd PySem.F.slot_dict_pop PySem.F.type_dict_pop (N7 hu) ho ha gh qA fy kr kE).imp λ_ _ _ h=>j5 (pd J0) h
     ·split at ht
      ·rename_i hx;cases ht;have hx:=aG hx;subst hx;exact(oR yd PySem.F.slot_dict_get PySem.F.type_dict_get (J1 hu) ho ha gh qA fy kr kE).imp λ_ _ _ h=>j5 (λ_ _ _ _ _ _ _ _ _ _ _ h R bp ba=>Tx.get h R bp ba) h
      ·cases ht
def Sm(ht:zx name=some (T,w))(ho:PE X o (tE X aa ab fo))(gh:attributeBase o name X.env (eval o X.env)=eval o X.env)(fy:(kx.endLine==fZ.line)=true) :
  PE X (.Call (.Attribute o name kx) [] [] fZ) (tE X aa ab (HW T w fo (bT []))):=by
 unfold zx at ht;split at ht
 ·rename_i hx;cases ht;have hx:=aG hx;subst hx;exact(ES nX PySem.F.slot_list_reverse PySem.F.type_list_reverse za ho gh fy).imp λ_ _ _ h=>J2 (pd JG) h
 ·grind
def Sn(po pi pv:PV):bX->Option bX:=λst=>(Ct st.h po).bind λc=>match c.2.k with
 | .lst=>(qC pi).bind λi=>(HS c.2.ps.length i).map λj=>⟨st.ρ,st.h.set c.1 ⟨.lst,c.2.ps.set j pv⟩⟩
 | .eW t ks=>(i3 t pi).bind λk=>if ks.length<gV then some ⟨st.ρ,st.h.set c.1 (uz t k pv ks c.2.ps)⟩else none
 | _=>none
def Wy(K:W.Frag):Ew:=λo i v H Q=>∃aa ab F st τ po pi pv bK,Sn po pi pv st=some bK/\Rep K aa ab F st τ H/\aZ K F po o/\aZ K F pi i/\aZ K F pv v/\∀H' F',Rep K aa ab F' bK τ H'->Gr F F'->Q H'
def So(hu:X.A.units+1150<cLine):Ex X (Wy X.K):=by
 rintro ae s σ H o i v ov iv u Q I ro ri rv ⟨aa,ab,F,st,τ,po,pi,pv,bK,e,R,bo,bi,bv,k⟩
 obtain⟨⟨n,c⟩,e1,e0⟩:=aF e;clear e;have e:=e0;clear e0;obtain⟨rfl,hc,hl⟩:=gK e1;obtain⟨a,ha,rfl⟩:=dt.mp bo;obtain⟨_,vs,h2,h3⟩:=R.c.cell n c a hc ha hl;split at e
 ·rename_i hk;obtain⟨j,e2,e⟩:=aF e;obtain⟨m,e3,rfl⟩:=aL e;rw[eE e2]at bi;have hk:=hk;rw[hk]at h2;refine EO ae s σ H _ _ v ov iv u Q I ro ri rv ⟨a,vs,j,m,rfl,au.mp bi,h2,by rw[<-h3.length];exact e3,k _ F (R.put hc hl ha ar (h3.set bv m)) (Gr.refl _)⟩
 ·rename_i t ks hk;have hk:=hk;obtain⟨kk,e2,e⟩:=aF e;obtain⟨hz,rfl⟩:=aw e;rw[hk]at h2;cases t with
  | false =>
   obtain⟨kvs,g1,g2,g3⟩:=h2;obtain⟨j,rfl,rfl⟩:=gJ e2 bi;rw[<-g3]at h3;obtain⟨rM,vo,p1,p2,p3⟩:=Fj (j:=j) bv h3;have dr:kvs.length<sizeLine:=by
    have:ks.length=kvs.length:=by grind
    exact bP (by grind) (dh (aq _))
   rw[g2]at p1;refine NP ae s σ H _ _ v ov iv u Q I ro ri rv ⟨a,kvs,j,rfl,rfl,g1,dr,k _ F ?_ (Gr.refl _)⟩;simp only[p1];exact R.put hc hl ha ⟨_,ar,p2,rfl⟩ p3
  | true =>
   obtain⟨xs,g1,g2,g3,g4⟩:=h2;obtain⟨cc,rfl,P5⟩:=i4 e2 bi;refine NQ (by lia) ae s σ H _ _ v ov iv u Q I ro ri rv ⟨a,cc,xs,kk,rfl,rfl,g1,λz hz=>aT R.sub (g2 z hz),aT R.sub P5,(by
    have:ks.length=xs.length:=by grind
    exact bP (by grind) (dh (aq _))),λr hr=>?_⟩
   obtain⟨rM,vo,wb,p1,p2,p3,p4,p5⟩:=NI bv hr P5 g2 h3 g4;rw[g3]at p1;refine k _ F ?_ (Gr.refl _);simp only[p1];exact R.put hc hl ha ⟨_,ar,p3,p2,p5⟩ p4
 ·cases e
def Oc(fv fo fi:Gx PV):Gx d9:=bnd fv λv=>bnd fo λo=>bnd fi λi=>stp (Sn o i v)
def Sq(hu:X.A.units+1150<cLine)(he:PE X e (tE X aa ab fv))(ho:PE X o (tE X aa ab fo))(hi:PE X k (tE X aa ab fi))
  (ha:∀v,assign (.Subscript o k Cv) X.env v=(do
   let ov <-holding [v] (eval o X.env)
   let iv <-holding [v,ov] (eval k X.env)
   standAt Cv
   holding [v,ov,iv] (setItem ov iv v)
   release [v,ov,iv] []))
  (hs:swapsWithSole [.Subscript o k Cv] e pos.line X.env=pure false) (hw:swappedStores [.Subscript o k Cv] e X.env=pure none):PS X (.Assign [.Subscript o k Cv] e pos) (tS X aa ab (Oc fv fo fi)) :=
 (Ez he (MD ho hi (So hu) ha) hs hw rfl).imp λD σ H ⟨F,st,R,h⟩=>⟨F,st,R,h.bnd λpv v F1 aI H1 R1 g1 b1 h1=>⟨F1,aI,R1,h1.bnd λpo o F2 dF H2 R2 g2 b2 h2=>⟨F2,dF,R2,h2.bnd λpi i F3 II H3 R3 g3 b3 h3=>by
  obtain⟨bK,e,z⟩:=h3.stp;exact⟨aa,ab,F3,II,σ,po,pi,pv,bK,e,R3,b2.mono g3,b3,b1.mono (g2.trans g3),λH' F' R' g'=>z F' σ H' R' g'⟩⟩⟩⟩
def Od(t:Bool):Gx PV:=ia ⟨.eW t [],[]⟩
def Sr(t:Bool):PE X (.Dict [] [] pos) (tE X aa ab (Od t)):=by
 cases t with
 | false=>exact Fl.imp (by rintro σ H Q ⟨F,st,R,h⟩ p hp;exact Tx.ia h R hp ⟨[],ar,rfl,rfl⟩ .nil)
 | true=>exact Ji.imp (by rintro σ H Q ⟨F,st,R,h⟩ p hp;exact Tx.ia h R hp ⟨[],ar,(λ_ z=>nomatch z),rfl,.nil⟩ .nil)
end
def Bf(K:W.Frag)(mg:Str->Option Value)(P:Params)(T:Str)(rows:List (Str×Str)):Prop :=
 ∃a es n,mg T=some (.ref a)/\K.lookup a=some ⟨.type "dict",none,.dict es n,#[]⟩/\W.KeysLit P es.toList/\∀k fn,rows.lookup k=some fn->∃f,W.nsIn K a k=some (some (.ref f))/\mg fn=some (.ref f)/\W.nsIn K mainGlobals fn=some (some (.ref f))
def pe(K:W.Frag)(mg:Str->Option Value)(P:Params)(T:Str)(rows:List (Str×PV)):Prop :=
 ∃a es n,(a==sysModules)=false/\mg T=some (.ref a)/\K.lookup a=some ⟨.type "dict",none,.dict es n,#[]⟩/\W.KeysLit P es.toList/\∀k p,rows.lookup k=some p->∃u v,W.nsIn K a k=some (some u)/\RelV v u/\∀F,aZ K F p v
def Wz(K:W.Frag)(a:Addr):R2:=λx y H Q=>∃k u v,x=.ref a/\y=.str k/\W.nsIn K a k=some (some u)/\RelV v u/\Q v H
noncomputable def uG:PV->Option Str | .str x=>some x | _=>none
def jq(h:uG p=some i):p=.str i:=by
 cases p<;>first | (cases h;rfl) | cases h
section
variable {X:Cx} {aa:Hp} {ab:Fz} {e ke:Expr} {es:List Expr} {fk fe ff:Gx PV} {ts:Gx (List PV)} {pos p sp:Pos} {T:Str}
def FU{es:Array DictEntry}(hl:X.K.lookup a=some ⟨.type "dict",none,.dict es n,#[]⟩)(hk:W.KeysLit X.w.params es.toList):P7 X (Wz X.K a):=by
 rintro value slice ae s σ H x y v u Q I rx ry ⟨k,u',v',ex,ey,e,rv,q⟩ hs
 subst ex ey;cases rx;obtain⟨t,rfl⟩:=ry;have hm:=W.mapOf_K (prog:=X.prog) I.oG hl hk;exact lX hm.typeIs slot_dict_getitem.lookup (wpAny_getItem_of (oB X.prog X.w k t) hm (W.find_K hl e) ⟨v',H,I.tok _,rv,q⟩) hs
def CI(IS:Str->Option PV)(fk:Gx PV):Gx PV:=bnd fk λq=>fD ((uG q).bind IS)
def Ss(ht:pe X.K X.mg X.w.params T rows)(hg:Gl X T)(hk:PE X ke (tE X aa ab fk))(hs:kH ke)(AJ:(T==("__debug__":Str))=false):PE X (.Subscript (.Name T p) ke sp) (tE X aa ab (CI (λk=>rows.lookup k) fk)):=by
 obtain⟨a,Lh,n,_,t1,t2,t3,t4⟩:=ht;refine(EN (FU t2 t3) (kC (v:=.ref a) hg t1 rfl AJ) hk hs).imp λσ H Q ⟨F,st,R,h⟩=>?_
 refine⟨F,st,R,h.bnd λpk v F1 aI H1 R1 g1 b1 h1=>?_⟩
 obtain⟨q,e1,z⟩:=h1.fD;obtain⟨k,e2,e3⟩:=aF e1;rw[jq e2]at b1;obtain⟨u,w,n1,n2,n3⟩:=t4 k q e3;exact⟨k,u,w,rfl,bj.mp b1,n1,n2,z _ H1 F1 R1 (Gr.refl _) (n3 F1)⟩
def J3(K:W.Frag)(a:Addr)(n:Bool):R2:=λx y H Q=>∃k u,x=.str k/\y=.ref a/\W.nsIn K a k=some (some u)/\Q (.bl (!n)) H
def Oe{es:Array DictEntry}(hd:(a==sysModules)=false)(hl:X.K.lookup a=some ⟨.type "dict",none,.dict es n,#[]⟩)(hk:W.KeysLit X.w.params es.toList):OpR X (compareOp .In) (J3 X.K a false):=by
 rintro ae s σ H x y v u Q I rx ry ⟨k,u',ex,ey,e,q⟩
 subst ex ey;cases ry;obtain⟨t,rfl⟩:=rx;have hm:=W.mapOf_K (prog:=X.prog) I.oG hl hk;exact wpAny_in_of (oB X.prog X.w k t) hd hm ⟨.bl true,H,I.tok _,by rw[W.find_K hl e];rfl,q⟩
def Of{es:Array DictEntry}(hd:(a==sysModules)=false)(hl:X.K.lookup a=some ⟨.type "dict",none,.dict es n,#[]⟩)(hk:W.KeysLit X.w.params es.toList):OpR X (compareOp .NotIn) (J3 X.K a true):=by
 rintro ae s σ H x y v u Q I rx ry ⟨k,u',ex,ey,e,q⟩
 subst ex ey;cases ry;obtain⟨t,rfl⟩:=rx;have hm:=W.mapOf_K (prog:=X.prog) I.oG hl hk;exact wpAny_notIn_of (oB X.prog X.w k t) hd hm ⟨.bl false,H,I.tok _,by rw[W.find_K hl e];rfl,q⟩
def CJ(rows:List (Str×PV))(n:Bool)(fk:Gx PV):Gx PV:=bnd fk λq=>fD ((uG q).bind λk=>(rows.lookup k).map λ_=>.bl (!n))
def FV(t0:(a==sysModules)=false)(t2:X.K.lookup a=some ⟨.type "dict",none,.dict Lh n',#[]⟩)(t3:W.KeysLit X.w.params Lh.toList)(US:op=.In/\n=false\/op=.NotIn/\n=true):OpR X (compareOp op) (J3 X.K a n):=by
 rcases US with⟨rfl,rfl⟩ | ⟨rfl,rfl⟩
 ·exact Oe t0 t2 t3
 ·exact Of t0 t2 t3
def LH(ht:pe X.K X.mg X.w.params T rows)(hg:Gl X T)(hk:PE X ke (tE X aa ab fk))(AJ:(T==("__debug__":Str))=false)(US:op=.In/\n=false\/op=.NotIn/\n=true)(hb:behindInMarks op (.Name T p)=false) :
  PE X (.Compare ke [op] [.Name T p] sp) (tE X aa ab (CJ rows n fk))/\PT X (.Compare ke [op] [.Name T p] sp) (tT X aa ab (toB (CJ rows n fk))):=by
 obtain⟨a,Lh,n',t0,t1,t2,t3,t4⟩:=ht;have im:∀{σ H Q},tE X aa ab (CJ rows n fk) σ H Q->MK (J3 X.K a n) (tE X aa ab fk) (tC (.ref a)) σ H Q:=by
  intro σ H Q;rintro ⟨F,st,R,h⟩
  refine⟨F,st,R,h.bnd λpk v F1 aI H1 R1 g1 b1 h1=>?_⟩
  obtain⟨q,e1,z⟩:=h1.fD;obtain⟨k,e2,e3⟩:=aF e1;obtain⟨q',e4,rfl⟩:=aL e3;rw[jq e2]at b1;obtain⟨u,w,n1,n2,n3⟩:=t4 k q' e4;exact⟨k,u,bj.mp b1,rfl,n1,z _ H1 F1 R1 (Gr.refl _) (aS.mpr rfl)⟩
 exact⟨(AF (FV t0 t2 t3 US) hk (kC (v:=.ref a) hg t1 rfl AJ) hb).imp λ_ _ _ h=>im h,(AG (FV t0 t2 t3 US) hk (kC (v:=.ref a) hg t1 rfl AJ) hb).imp λ_ _ _ h=>im (toB_imp h)⟩
def Su(ht:Bf X.K X.mg X.w.params T rows)(hg:Gl X T)(hk:PE X ke (tE X aa ab fk))(hs:kH ke)(AJ:(T==("__debug__":Str))=false):PE X (.Subscript (.Name T p) ke sp) (tE X aa ab (CI (λk=>(rows.lookup k).map .fn) fk)):=by
 obtain⟨a,Lh,n,t1,t2,t3,t4⟩:=ht;refine(EN (FU t2 t3) (kC (v:=.ref a) hg t1 rfl AJ) hk hs).imp λσ H Q ⟨F,st,R,h⟩=>?_
 refine⟨F,st,R,h.bnd λpk v F1 aI H1 R1 g1 b1 h1=>?_⟩
 obtain⟨q,e1,z⟩:=h1.fD;obtain⟨k,e2,e3⟩:=aF e1;obtain⟨fn,e4,rfl⟩:=aL e3;rw[jq e2]at b1;obtain⟨f,n1,n2,n3⟩:=t4 k fn e4;exact⟨k,.ref f,.ref f,rfl,bj.mp b1,n1,rfl,z _ H1 F1 R1 (Gr.refl _) (l7.mpr ⟨f,rfl,n3⟩)⟩
def FW(X:Cx)(fns:List (Str×Nat))(call:Str->nh):Prop:=∀x n,fns.lookup x=some n->∃k f fd ps,FnOk X.prog X.w X.K X.mg X.base (ku X.prog X.w) k f fd ps (CG X.K n (call x))/\dZ k X.A/\X.mg x=some (.ref f)/\W.keepIn X.K (.ref f)=true/\fM X.K fd ps []
noncomputable def Sv:PV->Option Str | .fn x=>some x | _=>none
def wu{p:PV}(h:Sv p=some i):p=.fn i:=by
 cases p<;>first | (cases h;rfl) | cases h
def pf(fns:List (Str×Nat))(call:Str->nh)(ff:Gx PV)(ts:Gx (List PV)):Gx PV:=bnd ff λq=>bnd (fD ((Sv q).bind λx=>(fns.lookup x).map λn=>(x,n))) λx=>FQ x.2 (call x.1) ts
def uH(v k:Expr)(sp:Pos)(args:List Expr)(pos:Pos)(env:Env):eval (.Call (.Subscript v k sp) args [] pos) env=(do callWith pos (<-eval (.Subscript v k sp) env) [] (backTo pos (starEach args env)) (backToKw pos (keywordEach [] env))):=rfl
def J4{call:Str->nh}(Mr:FW X fns call)(Jh:∀x a,W.nsIn X.K mainGlobals x=some (some (.ref a))->X.mg x=some (.ref a))(hf:PE X (.Subscript v k sp) (tE X aa ab ff))(ha:PA X (e::es) (tA X aa ab ts))
  (he:starEach (e::es) X.env=(false,eval e X.env)::starEach es X.env) (kE:(backTo pos (starEach es X.env)).any (·.1)=false):PE X (.Call (.Subscript v k sp) (e::es) [] pos) (tE X aa ab (pf fns call ff ts)):=by
 rintro ae s σ H Q I ⟨F,st,R,h⟩
 rw[uH];refine af (thn (hf ae s σ H (λv H1=>∃F1 aI q,Rep X.K aa ab F1 aI σ H1/\aZ X.K F1 q v/\Tx X aa ab (aZ X.K) F1 aI (bnd (fD ((Sv q).bind λx=>(fns.lookup x).map λn=>(x,n))) λx=>FQ x.2 (call x.1) ts) σ Q) I
  ⟨F,st,R,h.bnd λq v F1 aI H1 R1 g1 b1 h1=>⟨F1,aI,q,R1,b1,h1⟩⟩) λu s1 ⟨x,H1,I1,rx,F1,aI,q,R1,b1,h1⟩=>?_)
 obtain⟨⟨y,n⟩,e1,z⟩:=At.fD (At.bnd h1);obtain⟨y',e2,e3⟩:=aF e1;obtain⟨n',e4,e5⟩:=aL e3;simp only[jT]at e5;obtain⟨rfl,rfl⟩:=e5;rw[wu e2]at b1;obtain⟨a,rfl,Nt⟩:=l7.mp b1;obtain⟨j,f',fd,ps,G,hr,m1,m2,m3⟩:=Mr _ _ e4;have:=bG ((Jh _ a Nt).symm.trans m1);cases this;cases rx;exact W.callWith_K I.ok.mod.kin m2 (thn (ha pos ae s1 σ H1 (λvs H2=>∃F2 dF as,Rep X.K aa ab F2 dF σ H2/\ao X.K F2 as vs/\Tx X aa ab (aZ X.K) F2 dF (j4 _ _ as) σ Q) I1
  ⟨F1,aI,R1,Tx.bnd z λas vs F2 dF H2 R2 g2 b2 h2=>⟨F2,dF,as,R2,b2,h2⟩⟩) (by rintro us s2 ⟨vs,H2,I2,r,F2,dF,as,R2,b2,z⟩;exact⟨I2.oG,N4 G hr m3 _ _ _ _ _ _ _ _ _ _ _ _ I2 R2 b2 r z⟩)) he kE
def J5{call:Str->nh}(Mr:FW X fns call)(Jh:∀x a,W.nsIn X.K mainGlobals x=some (some (.ref a))->X.mg x=some (.ref a))(hf:PE X (.Name y p) (tE X aa ab ff))(ha:PA X (e::es) (tA X aa ab ts))
  (he:starEach (e::es) X.env=(false,eval e X.env)::starEach es X.env) (kE:(backTo pos (starEach es X.env)).any (·.1)=false):PE X (.Call (.Name y p) (e::es) [] pos) (tE X aa ab (pf fns call ff ts)):=by
 rintro ae s σ H Q I ⟨F,st,R,h⟩
 refine iM (thn (hf ae s σ H (λv H1=>∃F1 aI q,Rep X.K aa ab F1 aI σ H1/\aZ X.K F1 q v/\Tx X aa ab (aZ X.K) F1 aI (bnd (fD ((Sv q).bind λx=>(fns.lookup x).map λn=>(x,n))) λx=>FQ x.2 (call x.1) ts) σ Q) I
  ⟨F,st,R,h.bnd λq v F1 aI H1 R1 g1 b1 h1=>⟨F1,aI,q,R1,b1,h1⟩⟩) λu s1 ⟨x,H1,I1,rx,F1,aI,q,R1,b1,h1⟩=>?_)
 obtain⟨⟨y1,n⟩,e1,z⟩:=At.fD (At.bnd h1);obtain⟨y',e2,e3⟩:=aF e1;obtain⟨n',e4,e5⟩:=aL e3;simp only[jT]at e5;obtain⟨rfl,rfl⟩:=e5;rw[wu e2]at b1;obtain⟨a,rfl,Nt⟩:=l7.mp b1;obtain⟨j,f',fd,ps,G,hr,m1,m2,m3⟩:=Mr _ _ e4;have:=bG ((Jh _ a Nt).symm.trans m1);cases this;cases rx;exact W.callWith_K I.ok.mod.kin m2 (thn (ha pos ae s1 σ H1 (λvs H2=>∃F2 dF as,Rep X.K aa ab F2 dF σ H2/\ao X.K F2 as vs/\Tx X aa ab (aZ X.K) F2 dF (j4 _ _ as) σ Q) I1
  ⟨F1,aI,R1,Tx.bnd z λas vs F2 dF H2 R2 g2 b2 h2=>⟨F2,dF,as,R2,b2,h2⟩⟩) (by rintro us s2 ⟨vs,H2,I2,r,F2,dF,as,R2,b2,z⟩;exact⟨I2.oG,N4 G hr m3 _ _ _ _ _ _ _ _ _ _ _ _ I2 R2 b2 r z⟩)) he kE
noncomputable def Bg(f:Str):List Str->List PV->Option PV
 | g::ns,p::ps=>if g=f then some p else Bg f ns ps
 | _,_=>none
def Og(f:Str)(fe:Gx PV):Gx PV:=bnd fe λp=>hp λh=>match dv h p with
 | some (.ins _ ns,ps)=>Bg f ns ps
 | _=>none
theorem wx{K:W.Frag}:∀{fs:List (Str×V)} {ps:List PV} {p:PV},Bg f (fs.map (·.1)) ps=some p->ao K F ps (fs.map (·.2))->f∈fs.map (·.1)/\∃v,fs.lookup f=some v/\aZ K F p v
 | [],_,_,h,_=>by cases h
 | (g,v)::r,[],_,h,_=>by cases h
 | (g,v)::r,q::ps,p,h,b=>by
  obtain⟨v',w,e,b1,b2⟩:=b.bB;cases e;have h:(if g=f then some q else Bg f (r.map (·.1)) ps)=some p:=h
  by_cases hg:g=f
  ·grind
  ·rw[if_neg hg]at h;obtain⟨h1,v2,h2,h3⟩:=wx h b2;have hgf:(f==g)=false:=by grind
   exact⟨bY _ h1,v2,by grind,h3⟩
def Sw(he:PE X e (tE X aa ab fe))(hb:attributeBase e f X.env (eval e X.env)=eval e X.env):PE X (.Attribute e f pos) (tE X aa ab (Og f fe)):=(MW he hb).imp λσ H Q ⟨F,st,R,h⟩=>⟨F,st,R,h.bnd λq v F1 aI H1 R1 g1 b1 h1=>by
 obtain⟨o,e,z⟩:=h1.hp;split at e
 ·rename_i C ns ps hd;obtain⟨a,vs,rfl,⟨Ca,dx,fs,h2,h3,h4,h5,h6,h7⟩,h8⟩:=R1.at hd b1;subst h6 h7;obtain⟨hm,w,hl,bw⟩:=wx e h8;exact⟨a,Ca,dx,fs,w,rfl,h5,h3,h4 f hm,hl,z _ H1 F1 R1 (Gr.refl _) bw⟩
 ·cases e⟩
noncomputable def nj(f:Str)(q:PV):List Str->List PV->List Str×List PV
 | g::ns,p::ps=>if g=f then(g::ns,q::ps)else(g::(nj f q ns ps).1,p::(nj f q ns ps).2)
 | _,_=>([f],[q])
theorem Bh{K:W.Frag}(bq:aZ K F q v):∀{fs:List (Str×V)} {ps:List PV},ao K F ps (fs.map (·.2))->(gF f v fs).map (·.1)=(nj f q (fs.map (·.1)) ps).1/\ao K F (nj f q (fs.map (·.1)) ps).2 ((gF f v fs).map (·.2))/\∀g∈(nj f q (fs.map (·.1)) ps).1,g=f\/g∈fs.map (·.1)
 | [],ps,b=>by
  have e:=iF b.length;subst e;exact⟨rfl,.cons bq .nil,λg hg=>.inl (by simpa[nj]using hg)⟩
 | (g,w)::r,[],b=>by have:=b.length;simp at this
 | (g,w)::r,p::ps,b=>by
  obtain⟨v',w',e,b1,b2⟩:=b.bB;cases e;obtain⟨h1,h2,h3⟩:=Bh bq b2;by_cases hg:g=f
  ·subst hg;have e1:gF g v ((g,w)::r)=(g,v)::r:=if_pos rfl;have e2:nj g q (((g,w)::r).map (·.1)) (p::ps)=(g::r.map (·.1),q::ps):=if_pos rfl;rw[e1,e2];exact⟨rfl,.cons bq b2,λy hy=>.inr hy⟩
  ·have e1:gF f v ((g,w)::r)=(g,w)::gF f v r:=if_neg hg;have e2:nj f q (((g,w)::r).map (·.1)) (p::ps)=(g::(nj f q (r.map (·.1)) ps).1,p::(nj f q (r.map (·.1)) ps).2):=if_neg hg;rw[e1,e2];refine⟨by rw[aA,h1],.cons b1 h2,λy hy=>?_⟩
   rcases bh.mp hy with rfl | hy
   ·grind
   ·grind
def FX(K:W.Frag)(cls:List Str)(flds:List Str):Prop:=∀C,cls.contains C=true->∃Ca,ClsAt K C (.ref Ca)/\BL K Ca/\∀f,flds.contains f=true->g9 K Ca f
def WA(cls flds:List Str)(f:Str)(po pv:PV):bX->Option bX:=λst=>(Ct st.h po).bind λc=>match c.2.k with
 | .ins C ns=>if(cls.contains C&&flds.contains f&&decide (ns.length<900))=true then some ⟨st.ρ,st.h.set c.1 ⟨.ins C (nj f pv ns c.2.ps).1,(nj f pv ns c.2.ps).2⟩⟩else none
 | _=>none
def zy(cls flds:List Str)(f:Str)(fv fo:Gx PV):Gx d9:=bnd fv λv=>bnd fo λo=>stp (WA cls flds f o v)
def Sy{cls flds:List Str}(hc:FX X.K cls flds)(ho:PE X o (tE X aa ab fo))(he:PE X e (tE X aa ab fv))(hs:swapsWith e (some (.Attribute o f qy)) pos.line X.env=pure false):PS X (.Assign [.Attribute o f qy] e pos) (tS X aa ab (zy cls flds f fv fo)) :=
 (MX ho he hs).imp λD σ H ⟨F,st,R,h⟩=>⟨F,st,R,h.bnd λpv v F1 aI H1 R1 g1 b1 h1=>⟨F1,aI,R1,h1.bnd λpo o F2 dF H2 R2 g2 b2 h2=>by
  obtain⟨bK,e,z⟩:=h2.stp;obtain⟨⟨n,c⟩,e1,e0⟩:=aF e;clear e;have e:=e0;clear e0;obtain⟨rfl,DN,hl⟩:=gK e1;obtain⟨a,ha,rfl⟩:=dt.mp b2;obtain⟨_,vs,YS,g3⟩:=R2.c.cell n c a DN ha hl;split at e
  ·rename_i C ns hk;have hk:=hk;obtain⟨hq,rfl⟩:=aw e;rw[aC,aC]at hq;rw[hk]at YS;obtain⟨Ca,dx,fs,k1,k2,k3,k4,rfl,rfl⟩:=YS;obtain⟨Cb,m1,m2,m3⟩:=hc C hq.1.1;have eC:Ca=Cb:=by
    have:=k1.symm.trans m1;cases this;rfl
   subst eC;have dr:=eY hq.2;rw[ah]at dr;obtain⟨p1,p2,p3⟩:=Bh (b1.mono g2) g3;refine⟨a,Ca,dx,fs,rfl,k4,k2,m3 f hq.1.2,(Nat.le_add_left_of_le ‹_›),z F2 σ _ (R2.put DN hl ha ⟨Ca,dx,_,k1,k2,λg hg=>?_,ar,p1,rfl⟩ p2) (Gr.refl _)⟩
   rcases p3 g hg with rfl | hg
   ·exact m3 _ hq.1.2
   ·exact k3 g hg
  ·cases e⟩⟩
def Sz(st:bX):Rs PV×List ai->Option (Rs PV×bX)
 | (.ok .aV,h)=>(lC h 4 (.ref 0)).map λq=>(.ok q,st)
 | _=>none
def SA(C:Str)(n:Nat)(g:nh)(ts:Gx (List PV)):Gx PV:=bnd ts λas st=>if as.length+1=n/\(st.h.isEmpty || aE as)=true then(g (.ref 0::as) [⟨.ins C [],[]⟩]).bind (Sz st)else none
section
variable {C:Str} {Ca f:Addr} {fd:FuncData} {ps:List Str} {g:nh} {k n:Nat}
def J6(hC:ClsAt X.K C (.ref Ca))(c:BL X.K Ca)(h:tE X aa ab (SA C n g ts) σ H Q):Ln Ca (CG X.K n g) [] E0 (tA X aa ab ts) σ H Q:=by
 obtain⟨F,st,R,h⟩:=h;refine⟨F,st,R,h.bnd λas vs F1 aI H1 R1 g1 b1 h1 y dx hy hdx hne=>?_⟩
 obtain⟨q,e1,e2⟩:=h1;obtain⟨⟨hl,hn⟩,e1⟩:=bE e1;obtain⟨r,e3,e4⟩:=aF e1;have WB:cj H1 dx (.own y) y=none:=by rw[aH hne.symm];exact hy
 have up:b8 H1 (cj H1 dx (.own y)):=dA hdx;have b2:ao X.K ⟨F1.F,[y]⟩ (.ref 0::as) (.ref y::vs):=.cons (dt.mpr ⟨y,rfl,rfl⟩) (rV R1 hn b1 [y]);have C0:jY X.K (cj H1 dx (.own y)) ⟨F1.F,[y]⟩ ⟨F1.F,[y]⟩ [⟨.ins C [],[]⟩] (cj (cj H1 dx (.own y)) y (.ins Ca dx [])):=by
  refine⟨λb o e=>dA WB _ _ (up _ _ (R1.sub _ _ e)),dA WB,Gr.refl _,λa o e=>.inl e,λm a e=>?_,rfl,by simp,λm d a e1 e2 e3=>?_⟩
  ·cases m with
   | zero=>cases e;exact⟨WB,_,ar⟩
   | succ m=>simp at e
  ·cases m with
   | zero=>cases e1;cases e2;exact⟨R1.sub.free hy,[],⟨Ca,dx,[],hC,c,(λ_ z=>nomatch z),ar,rfl,rfl⟩,.nil⟩
   | succ m=>simp at e1
 match r,e4 with
 | (.ok .aV,h'),e4 =>
  obtain⟨p,e5,rfl⟩:=aL e4;refine⟨_,_,_,.ref 0::as,_,h',C0,λb o e=>?_,by grind,by grind,e3,λv F' H' D b'=>⟨cG.mp b',?_⟩⟩
  ·by_cases hb:b=y
   ·subst hb;exact .inr ⟨0,rfl⟩
   ·rw[aH hb]at e;exact .inl e
  ·obtain⟨R3,g3⟩:=R1.back up D;exact e2 _ H' _ R3 g3 (D.lC F1.μ _ _ _ _ e5 (dt.mpr ⟨y,D.base.m 0 y rfl,rfl⟩))
end
end
def WC(X:Cx)(aa:Hp)(ab:Fz)(fa:Addr)(ω:PV->Gx PV):Prop:=∀(H:Hp) (F:Fz) (st:bX) (σ:St) (ae:List (Addr×Obj)) (s:Shared) (Q:VK) (p:PV) (u:Value) (v:V),Inv X ae σ H s->Rep X.K aa ab F st σ H->aZ X.K F p v->RelV v u->Tx X aa ab (aZ X.K) F st (ω p) σ Q ->
 wpAny (model X.prog X.w) X.A (call (.ref fa) [u]) (EP X ae σ Q) X.xe s
structure FY (X:Cx) (aa:Hp) (ab:Fz) (n:Nat) (ω:PV->Gx PV):Prop where
 ex:∃fa o u WD,ab.μ[n]?=some fa/\X.aa fa=some (.vt o u)/\o.data=.func WD/\WC X aa ab fa ω
structure SD (X:Cx):Prop where
 ex:∃x c T,x∈de/\W.tabIn X.K x=some (c,T)/\W.codeHdIn X.K c T=true/\X.env.code=.ref c/\X.env.qual++"<lambda>"=Iu x
 blt:EX X.mg X.base
end L2.U
namespace PySem
open Sem (wp)
noncomputable abbrev BT(w:World):Bool:=w.params.followText "set-order"
end PySem
namespace PySem
open PyProof.Rows
section
variable {prog:Program} {w:World} {A:Around} {E:Value->Shared->Prop} {s:Shared}
def qE(a:Value)
  (h:Q₁ (.ref s.heap.objs.size) {s with heap:=s.heap.push {cls:=.type "set",dict:=none,data:=.set #[] 0 (.fresh 0 0 (!BT w))}}) :
  codeAny (model prog w) A (.call (.builtin "set.__new__") ⟨[.type "set",a],[]⟩) (wants Q₁ E) s:=by
 refine codeAny_of_tree ?_;refine af (wpAny_of_eq (F.newCall_set_1 a) (ag ⟨jR F.plain_set_new _,iQ F.entry_set_new ?_⟩));rw[jI F.plain_set_new _];unfold Builtin.«set.__new__» Builtin.Frozenset.newClass;have uF:=sub_set_self;obtain⟨hp,g,d,tk,os⟩:=s;dsimp only
 wp_walk
 refine wpAny_askSetting (ag ?_);dsimp only
 simp only[newObj];refine af (wpAny_alloc (ag ?_));exact ag h
end
end PySem
namespace L2.U
open PySem PySem.Spec PyProof.Rows
theorem rW{K:W.Frag}:∀ns:List Int,ao K F (ns.map .int) (ns.map V.int)
 | []=>.nil
 | n::r=>.cons (au.mpr rfl) (rW r)
section
variable {X:Cx} {aa:Hp} {ab:Fz} {e o:Expr} {fe fo:Gx PV} {pos p ph zp ap cp:Pos}
def pj(h:starEach [e] X.env=(false,eval e X.env)::starEach [] X.env)(hq:wpAny M A (eval e X.env) (λv s1=>Q [v] s1) E s):wpAny M A (spliced (backTo pos (starEach [e] X.env))) Q E s:=by
 rw[h];exact Calls.spliced_cons (thn hq λv s1 q=>Calls.spliced_nil q)
noncomputable def WE:PV->Option PV
 | .str a=>some (.bl (Txt.isdigit a))
 | _=>none
def Oh(fo:Gx PV):Gx PV:=bnd fo λp=>fD (WE p)
def CK:M4 X "str.isdigit" (λx xs H Q=>∃a,x=.str a/\xs=[]/\Q (.bl (Txt.isdigit a)) H):=by
 rintro ae s σ H x xs v us Q I rx rs ⟨a,e1,e2,q⟩
 subst e1 e2;obtain⟨t,rfl⟩:=rx;have VV:=rs.zero;subst VV;exact SC.isdigit ⟨.bl _,H,I,rfl,q⟩
def SE(ho:PE X o (tE X aa ab fo))(hb:attributeBase o "isdigit" X.env (eval o X.env)=eval o X.env)(fy:(ap.endLine==cp.line)=true):PE X (.Call (.Attribute o "isdigit" ap) [] [] cp) (tE X aa ab (Oh fo)) :=
 (ES F.plainAttrs_str F.slot_str_isdigit F.type_str_isdigit CK ho hb fy).imp λσ H Q ⟨F,st,R,h⟩=>⟨F,st,R,h.bnd λp v F1 aI H1 R1 g1 b1 h1=>by
  obtain⟨o,e,z⟩:=h1.fD;cases p<;>cases e
  rw[bj.mp b1];exact⟨rfl,_,rfl,rfl,z _ H1 F1 R1 (Gr.refl _) (aS.mpr rfl)⟩⟩
end
end L2.U
namespace PySem
open PyProof.Rows
namespace F
def d0:entryFor table "dict.update.loop"=some Builtin.«dict.update.loop» := entryFor_of_tree (by kernel_rfl)
def bD:plainId "dict.update.loop"=true:=by decide +kernel
end F
section
variable {prog:Program} {w:World} {K:Type} [DecidableEq K] {knd:KeyKind prog w K} {A:Around} {R:Result->Shared->Prop} {I:Addr} {fp wr:List Addr} {G:Array GenState->Array GenState->Prop} {n:Nat} {P:Nat->Value->Prop} {St:Nat->Shared->Prop}
def pq(h:Heap)(b:Addr)(key v:Value):Prop:=∃o m,h.get? b=some o/\o.cls=.type "tuple"/\o.data=.seq #[key,v] m
def nq(hp:pq s.heap b key v)(h:Q [key,v] s):wpAny (model prog w) A (Builtin.Dict.pairItems (.ref b)) Q E s:=by
 obtain⟨o,m,h1,h2,h3⟩:=hp;unfold Builtin.Dict.pairItems;refine af (jU ⟨o,h1,h2⟩ ?_);rw[if_pos (by decide)]
 refine af ?_;unfold seqItems?;obtain⟨WG,LI,SF,FZ⟩:=o;simp only at h2 h3;subst h2 h3
 wp_walk
 exact h
def rX(W:WalksS prog w A.in1 I fp wr G n P St)(S:Addr)(hSf:S∉fp)(hl:kvs.length=n)(hn:n<=sizeLine){s₀:Shared}
  (zz:∀i v,P i v->∃b k key u,v=.ref b/\kvs[i]?=some (k,u)/\knd.is k key=true/\b∉S::wr/\pq s₀.heap b key u) :
  ∀(c i:Nat) (s:Shared),n-i=c->i<=n->St i s->(∀b o,b∉S::wr->s₀.heap.get? b=some o->s.heap.get? b=some o)->s.heap.DictOf knd S (merged [] (kvs.take i)) ->
   (∀s',Moved (S::wr) G s s'->s'.heap.DictOf knd S (merged [] kvs)->R (.ok (.ret .none)) s') ->
   codeAny (model prog w) A (.builtin "dict.update.loop" ⟨[.ref S,.ref I,rawInt (i:Int),.none],[]⟩) R s:=by
 have SG:S∉wr:=λh=>hSf (W.sub _ h)
 have uF:∀b∈wr,b∈S::wr:=by grind
 intro c;induction c with
 | zero =>
  intro i s hk hi kr ho hS hR;have Oi:i=n:=by lia
  subst Oi;refine iQ F.d0 ?_;rw[jI F.bD _];refine af (W.done s _ _ kr λs' hm=>?_)
  refine af (ag ?_);rw[lE (iS ‹_›)]at hS;refine ag (hR s' (hm.mono uF) ?_);obtain⟨o,es,ep,h1,r⟩:=hS;exact⟨o,es,ep,hm.heap S _ SG h1,r⟩
 | succ c ih =>
  intro i s hk hi kr ho hS hR;have wj:i<n:=by lia
  refine iQ F.d0 ?_;rw[jI F.bD _];refine af (W.item i s _ _ wj kr λv s' hP F6 hm=>?_)
  obtain⟨b,k,key,u,rfl,hki,MU,hbn,SH⟩:=zz i v hP;have oH:∀b o,b∉S::wr->s₀.heap.get? b=some o->s'.heap.get? b=some o:=λb o hb e=>hm.heap b o (λz=>hb (bY _ z)) (ho b o hb e)
  refine af (c7 ?_);refine af (wpAny_tryCatch (nq (by
   obtain⟨o,m,h1,r⟩:=SH;exact⟨o,m,oH b o hbn h1,r⟩) ?_))
  refine c7 ?_;have hsz:(merged [] (kvs.take i)).length<=sizeLine:=by
   have:=merged_length_le ([]:List (K×Value)) (kvs.take i);rw[lM]at this;simp at this
   lia
  refine wpAny_dictSet_pairs MU (by
   obtain⟨o,es,ep,h1,r⟩:=hS;exact⟨o,es,ep,hm.heap S _ SG h1,r⟩) λh' hd Qa=>?_
  rw[<-merged_take_succ _ _ _ _ hki]at hd;have WH:∀b o,b∉S::wr->s₀.heap.get? b=some o->h'.get? b=some o:=λb o hb e=>(Qa.2 b (λh:b=S=>hb (by grind))).trans (oH b o hb e)
  refine ag ⟨jR F.bD _,ih (i+1) _ (by lia) wj (W.frame _ s' _ _ F6 (yC ..) λb hb o e=>?_) WH hd λMZ Oj Ol=>?_⟩
  ·exact(Qa.2 b (λh:b=S=>hSf (by grind))).trans e
  ·refine hR MZ (Moved.trans W.gtrans ((hm.mono uF).then_heap (yC ..) λb o hb e=>?_) Oj) Ol
   exact(Qa.2 b (λh:b=S=>hb (by grind))).trans e
end
namespace F
theorem uI:typeLookup (.type "list") "keys"=pure none:=by rw[tQ,tm];kernel_rfl
def qF:typeLookup (.type "tuple") "keys"=pure none:=by rw[tQ,tm];kernel_rfl
end F
section
variable {prog:Program} {w:World} {A:Around} {E:Value->Shared->Prop} {s:Shared} {a:Addr} {o:Obj} {xs:Array Value} {k:Nat} {Q:Option Value->Shared->Prop}
def nv(hx:s.heap.get? a=some o)(hc:o.cls=.type "tuple")(mh:o.data=.seq xs k)(hd:o.dict=none)(hA:A.handled=none)
  (h:∀h' tk,(∀b ob,s.heap.get? b=some ob->h'.get? b=some ob)->Q none {s with heap:=h',toks:=tk}) :
  wpAny (model prog w) A (getAttr? (.ref a) "keys") Q E s:=by
 obtain⟨c,J7,Yy,sl⟩:=o;simp only at hc mh hd;subst hc mh hd;obtain⟨hp,g,d,tk,os⟩:=s;have hT:∀F7,(⟨hp,g,d,F7,os⟩:Shared).TypeIs (.ref a) "tuple":=λ_=>⟨_,hx,rfl⟩
 have f1:=sub_AttributeError;have f3:=xW.lookup;have f4:=xW.bind (.ref a);have f5:=am_tuple_getattr_none;unfold getAttr? getAttrBy? getAttrBy
 repeat (any_goals (first | assumption | exact hT _ | ((with_reducible show wpAny _ _ (call (Value.builtin "tuple.__getattribute__") _ _) _ _ _);refine dN xW (hT _) am_entry_tuple_getattribute (F.args_tuple_getattribute_2 _ _) (meets_getattribute_miss_tuple a xs k sl "keys" _ F.qF (by decide +kernel) (by decide +kernel)) ⟨hx,hA,λh' F7 e rO=>?_⟩) | wp_step))
 obtain⟨t',u',he⟩:=rO.there;show wpAny _ _ (getattributeRaised _ _ _ _ _ _ _) _ _ _;unfold getattributeRaised
 repeat (any_goals (first | assumption | wp_step))
 exact h _ _ rO.keeps
theorem pw(hx:s.heap.get? a=some o)(hc:o.cls=.type "list")(mh:o.data=.seq xs k)(hd:o.dict=none)(hA:A.handled=none)
  (h:∀h' tk,(∀b ob,s.heap.get? b=some ob->h'.get? b=some ob)->Q none {s with heap:=h',toks:=tk}) :
  wpAny (model prog w) A (getAttr? (.ref a) "keys") Q E s:=by
 obtain⟨c,J7,Yy,sl⟩:=o;simp only at hc mh hd;subst hc mh hd;obtain⟨hp,g,d,tk,os⟩:=s;have hT:∀F7,(⟨hp,g,d,F7,os⟩:Shared).TypeIs (.ref a) "list":=λ_=>⟨_,hx,rfl⟩
 have f1:=sub_AttributeError;have f3:=xX.lookup;have f4:=xX.bind (.ref a);have f5:=am_list_getattr_none;unfold getAttr? getAttrBy? getAttrBy
 repeat (any_goals (first | assumption | exact hT _ | ((with_reducible show wpAny _ _ (call (Value.builtin "list.__getattribute__") _ _) _ _ _);refine dN xX (hT _) am_entry_list_getattribute (F.args_list_getattribute_2 _ _) (meets_getattribute_miss_list a xs k sl "keys" _ F.uI (by decide +kernel) (by decide +kernel)) ⟨hx,hA,λh' F7 e rO=>?_⟩) | wp_step))
 obtain⟨t',u',he⟩:=rO.there;show wpAny _ _ (getattributeRaised _ _ _ _ _ _ _) _ _ _;unfold getattributeRaised
 repeat (any_goals (first | assumption | wp_step))
 exact h _ _ rO.keeps
end
section
variable {prog:Program} {w:World} {A:Around} {E:Value->Shared->Prop} {s:Shared} {K:Type} [DecidableEq K] {knd:KeyKind prog w K}
def px(hh:A.handled=none)(hx:s.heap.get? l=some ol)(hc:ol.cls=.type "tuple")(mh:ol.data=.seq items m)(SJ:ol.dict=none)
  (hi:∀(i:Nat) (v:Value),items[i]?=some v->∃b k key u,v=.ref b/\kvs[i]?=some (k,u)/\knd.is k key=true/\pq s.heap b key u) (WI:kvs.length=items.size) (hb:items.size<=sizeLine)
  (h:∀(h':Heap) (tk:Nat),h'.DictOf knd s.heap.objs.size (merged [] kvs)->(∀b o,b<s.heap.objs.size->s.heap.get? b=some o->h'.get? b=some o)->Q (.ref s.heap.objs.size) {s with heap:=h',toks:=tk}) :
  wpAny (model prog w) A (call (.type "dict") [.ref l]) Q E s:=by
 refine callType_codes (Q₁:=λobj s₁=>obj=.ref s.heap.objs.size/\s₁={s with heap:=s.heap.push {cls:=.type "dict",data:=.dict #[]}}) F.kt_called_dict (F.kt_typeCall_dict_1 _) F.entry_dict_init (kt_code_dict_new _ ⟨rfl,rfl⟩) ?_
 rintro obj s₁ ⟨rfl,rfl⟩
 have pz:(s.heap.push {cls:=.type "dict",data:=.dict #[]}).DictOf knd s.heap.objs.size []:=yE s.heap
 have rO:(s.heap.push {cls:=.type "dict",data:=.dict #[]}).get? l=some ol:=ax _ hx
 have Om:=az hx;refine⟨pz.typeIs,F.args_dict_init_2 _ _,?_⟩;unfold Builtin.«dict.__init__»;refine af ?_;unfold Builtin.Dict.selfAndRest;refine af (yh pz.typeIs ?_);refine ag ?_;show wpAny _ _ (Builtin.Dict.updateFrom "dict.__init__" s.heap.objs.size (.ref l) [] .none) _ _ _;unfold Builtin.Dict.updateFrom;refine af (jU ⟨ol,rO,hc⟩ ?_);rw[if_pos (by decide)]
 refine af (nv rO hc mh SJ (by simp[hh]) λh2 tk2 kp=>?_)
 rw[if_pos (show(none:Option Value).isNone=true from rfl)]
 have WJ:=kp l ol rO;have wz:h2.DictOf knd s.heap.objs.size []:=by
  obtain⟨o,es,ep,h1,r⟩:=pz;exact⟨o,es,ep,kp _ _ h1,r⟩
 have SK:h2.IsTuple l items:=⟨ol,WJ,hc,m,mh⟩;refine af (iT ?_);refine af ?_;refine yo SK ?_;refine ag ⟨jR F.bD _,?_⟩;have LJ:s.heap.objs.size<h2.objs.size:=by
  obtain⟨o,_,_,h1,_⟩:=wz;exact az h1
 have Oo:=aO (g8 Om LJ);have zz:∀i (v:Value),items[i]?=some v->∃b k key u,v=.ref b/\kvs[i]?=some (k,u)/\knd.is k key=true/\b∉[s.heap.objs.size,h2.objs.size]/\pq s.heap b key u:=λi v hv=>by
  obtain⟨b,k,key,u,e1,e2,e3,e4⟩:=hi i v hv;refine⟨b,k,key,u,e1,e2,e3,?_,e4⟩;obtain⟨o,_,ho,_⟩:=e4;have:=az ho;simp only[bh,cY,c8,not_or];exact⟨aO this,aO (g8 this LJ)⟩
 refine rX (knd:=knd) (s₀:=s) ((Walks.tuple (by simp[hh]) h2.objs.size l Oo items).toS) s.heap.objs.size (by grind) WI hb zz (items.size-0) 0 _ (by lia) (fK _) ⟨⟨_,bc _ rfl,rfl,rfl⟩,SK.push _⟩ (λb o _ e=>ax _ (kp _ _ (ax _ e))) ?_ ?_
 ·obtain⟨o,es,ep,h1,r⟩:=wz;exact⟨o,es,ep,ax _ h1,r⟩
 ·intro s' hm xR;obtain⟨h',g',d',F7,IX⟩:=s';have eg:g'=s.gens:=hm.gens;have ed:d'=s.drawn:=hm.drawn;have eo:IX=s.os:=hm.os;subst eg;subst ed;subst eo;refine⟨rfl,h h' F7 xR λb o hb e=>?_⟩
  refine hm.heap b o ?_ (ax _ (kp _ _ (ax _ e)));simp only[bh,cY,c8,not_or];exact⟨aO hb,aO (g8 hb LJ)⟩
theorem wA{l:Addr}{ol:Obj}{items:Array Value}{m:Nat}{kvs:List (K×Value)}{Q:Value->Shared->Prop}(hh:A.handled=none)(hx:s.heap.get? l=some ol)(hc:ol.cls=.type "list")(mh:ol.data=.seq items m)(SJ:ol.dict=none)
  (hi:∀(i:Nat) (v:Value),items[i]?=some v->∃b k key u,v=.ref b/\kvs[i]?=some (k,u)/\knd.is k key=true/\pq s.heap b key u) (WI:kvs.length=items.size) (hb:items.size<=sizeLine)
  (h:∀(h':Heap) (tk:Nat),h'.DictOf knd s.heap.objs.size (merged [] kvs)->(∀b o,b<s.heap.objs.size->s.heap.get? b=some o->h'.get? b=some o)->Q (.ref s.heap.objs.size) {s with heap:=h',toks:=tk}) :
  wpAny (model prog w) A (call (.type "dict") [.ref l]) Q E s:=by
 refine callType_codes (Q₁:=λobj s₁=>obj=.ref s.heap.objs.size/\s₁={s with heap:=s.heap.push {cls:=.type "dict",data:=.dict #[]}}) F.kt_called_dict (F.kt_typeCall_dict_1 _) F.entry_dict_init (kt_code_dict_new _ ⟨rfl,rfl⟩) ?_
 rintro obj s₁ ⟨rfl,rfl⟩
 have pz:(s.heap.push {cls:=.type "dict",data:=.dict #[]}).DictOf knd s.heap.objs.size []:=yE s.heap
 have rO:(s.heap.push {cls:=.type "dict",data:=.dict #[]}).get? l=some ol:=ax _ hx
 have Om:l<s.heap.objs.size:=az hx;refine⟨pz.typeIs,F.args_dict_init_2 _ _,?_⟩;unfold Builtin.«dict.__init__»;refine af ?_;unfold Builtin.Dict.selfAndRest;refine af (yh pz.typeIs ?_);show wpAny _ _ (pure (s.heap.objs.size,[Value.ref l])) _ _ _;refine ag ?_;show wpAny _ _ (Builtin.Dict.updateFrom "dict.__init__" s.heap.objs.size (.ref l) [] .none) _ _ _;unfold Builtin.Dict.updateFrom;refine af (jU (T:="list") ⟨ol,rO,hc⟩ ?_);rw[if_pos (by decide)]
 refine af (pw rO hc mh SJ (by simp[hh]) λh2 tk2 kp=>?_)
 rw[if_pos (show(none:Option Value).isNone=true from rfl)]
 have WJ:h2.get? l=some ol:=kp l ol rO;have wz:h2.DictOf knd s.heap.objs.size []:=by
  obtain⟨o,es,ep,h1,r⟩:=pz;exact⟨o,es,ep,kp _ _ h1,r⟩
 have SK:h2.IsList l items:=⟨ol,WJ,hc,m,mh⟩;refine af (iT ?_);refine af ?_;refine lK SK ?_;refine ag ⟨jR F.bD _,?_⟩;have LJ:s.heap.objs.size<h2.objs.size:=by
  obtain⟨o,_,_,h1,_⟩:=wz;exact az h1
 have Oo:l≠h2.objs.size:=aO (g8 Om LJ);have hSf:s.heap.objs.size∉[h2.objs.size,l]:=by
  simp only[bh,cY,c8,not_or];exact⟨aO LJ,lU Om⟩
 have hh3:A.in1.in1.handled=none:=by simp[hh]
 have zz:∀(i:Nat) (v:Value),items[i]?=some v->∃b k key u,v=.ref b/\kvs[i]?=some (k,u)/\knd.is k key=true/\b∉[s.heap.objs.size,h2.objs.size]/\pq s.heap b key u:=λi v hv=>by
  obtain⟨b,k,key,u,e1,e2,e3,e4⟩:=hi i v hv;refine⟨b,k,key,u,e1,e2,e3,?_,e4⟩;obtain⟨o,_,ho,_⟩:=e4;have:=az ho;simp only[bh,cY,c8,not_or];exact⟨aO this,aO (g8 this LJ)⟩
 refine rX (knd:=knd) (s₀:=s) ((Walks.list hh3 h2.objs.size l Oo items).toS) s.heap.objs.size hSf WI hb zz (items.size-0) 0 _ (by lia) (fK _) ⟨⟨_,bc _ rfl,rfl,rfl⟩,SK.push _⟩ (λb o _ e=>ax _ (kp _ _ (ax _ e))) ?_ ?_
 ·obtain⟨o,es,ep,h1,r⟩:=wz;exact⟨o,es,ep,ax _ h1,r⟩
 ·intro s' hm xR;obtain⟨h',g',d',F7,IX⟩:=s';have eg:g'=s.gens:=hm.gens;have ed:d'=s.drawn:=hm.drawn;have eo:IX=s.os:=hm.os;subst eg;subst ed;subst eo;refine⟨rfl,h h' F7 xR λb o hb e=>?_⟩
  refine hm.heap b o ?_ (ax _ (kp _ _ (ax _ e)));simp only[bh,cY,c8,not_or];exact⟨aO hb,aO (g8 hb LJ)⟩
end
end PySem
namespace L2.U
open PySem PySem.Spec PyProof.Rows
section
variable {X:Cx} {a b:Expr} {ta tb:TE} {p cp bp:Pos}
def kW(K:W.Frag)(H:Hp):List V->List (cL×V)->Prop:=Paired λv kv=>∃c,v=.ref c/\fx K H c [kV kv.1,kv.2]
def dG(kvs:List (cL×V)):List (cL×V):=kvs.foldl (λacc kv=>putK acc kv.1 kv.2) []
def SM(K:W.Frag):R2:=λx y H Q=>∃a b xs ys kvs,x=.ref a/\y=.ref b/\fx K H a xs/\fx K H b ys/\(xs≠[]->ys≠[])/\xs.length+ys.length<=1000/\kW K H (xs++ys) kvs/\∀p,H p=none->Q (.ref p) (cj H p (.dK (dG kvs)))
theorem kX:∀{kvs:List (cL×V)} {vs:List (cL×Value)} {acc:List (cL×V)} {SN:List (cL×Value)},L2.KV kvs vs->L2.KV acc SN->L2.KV (kvs.foldl (λacc kv=>putK acc kv.1 kv.2) acc) (vs.foldl (λacc kv=>stored acc kv.1 kv.2) SN)
 | _,_,_,_,.nil,h=>h
 | _,_,_,_,.cons (a:=x) r t,h=>by
  have h2:=h.put x.1 r.2;rw[oy,oy];rw[r.1]at h2 ⊢;exact kX (t) h2
def pA(f:List (cL×V)):∀acc:List (cL×V),(f.foldl (λacc kv=>putK acc kv.1 kv.2) acc).length<=acc.length+f.length:=by
 induction f with
 | nil=>intro acc;simp
 | cons x f ih =>
  intro acc;have:=ih (putK acc x.1 x.2);have:=A3 acc x.1 x.2;rw[oy,bZ]
  lia
theorem nL(I:Inv X ae σ H s):∀{vs:List V} {kvs:List (cL×V)},kW X.K H vs kvs->∀{us:List Value},Vals vs us->∃CL:List (cL×Value),L2.KV kvs CL/\CL.length=us.length/\∀(i:Nat) (u:Value),us[i]?=some u->∃b k key w,u=.ref b/\CL[i]?=some (k,w)/\(bA X.prog X.w).is k key=true/\pq s.heap b key w
 | _,_,.nil,us,r=>by
  cases r;exact⟨[],.nil,rfl,λi u h=>by cases h⟩
 | _,_,.cons (b:=kv) q t,us,r=>by
  cases r with
  | cons r1 r2 =>
   obtain⟨CL,g1,g2,g3⟩:=nL I t r2;obtain⟨c,rfl,hs⟩:=q;obtain⟨ak,rr,⟨o,h1,h2,n,h3⟩,_⟩:=I.tuple hs;obtain⟨key,w,e,hk,hw⟩:=rr.two;subst e;cases r1;refine⟨(kv.1,w)::CL,.cons ⟨rfl,hw⟩ g1,by rw[bZ,bZ,g2],λi u hu=>?_⟩
   cases i with
   | zero =>
    cases hu;exact⟨c,kv.1,key,w,rfl,rfl,mG hk,o,n,h1,h2,h3⟩
   | succ i=>exact g3 i u hu
def J8(hh:X.A.handled=none)(hg:Gl X "dict")(hm:X.mg "dict"=none)(ha:PE X a ta)(hb:PE X b tb)(hs:starEach [.BinOp a .Add b bp] X.env=[(false,eval (.BinOp a .Add b bp) X.env)]):PE X (.Call (.Name "dict" p) [.BinOp a .Add b bp] [] cp) (MK (SM X.K) ta tb):=by
 intro ae s σ H Q I h;refine Call_ (ld_blt I hg hm (show bootBuiltins "dict"=some (.type "dict") by decide +kernel) (ej (pj hs (wpAny_BinOp (IJ ha hb I h λv u s2 x y H2 I2 rx ry q=>?_))) hs rfl))
 obtain⟨t1,t2,xs,ys,kvs,rfl,rfl,h1,h2,h4,h5,h6,q⟩:=q;cases rx;cases ry;obtain⟨ak,r1,p1,_⟩:=I2.tuple h1;obtain⟨cM,r2,⟨o2,d1,d2,⟨d3,d4⟩,d5⟩,_⟩:=I2.Es h2;have p2:IsTup s2.heap t2 cM.toArray:=⟨o2,d1,d2,d3,d4⟩;by_cases h3:xs=[]
 ·subst h3;cases r1;refine vW p1 p2 ?_;obtain⟨CL,g1,g2,g3⟩:=nL I2 h6 r2;have LK:1000<=sizeLine:=by decide
  have YT:cM.length<=1000:=by rw[<-r2.length];simpa using h5
  refine px (knd:=bA X.prog X.w) (items:=cM.toArray) (kvs:=CL) hh d1 d2 d4 d5 (λi v hv=>?_) (by rw[g2];simp) (by simp;lia) λh' tk dd kp=>?_
  ·rw[lF]at hv;exact g3 i v hv
  ·have DO:=kX g1 .nil;refine⟨.ref _,_,I2.laid (o:=.dK (dG kvs)) (λb u e=>kp b u (az e) e) (aq _) ?_,rfl,q _ (I2.hok.fresh (aq _))⟩
   refine⟨?_,g7.mpr (bJ (aO (iW I2))),_,DO,dd⟩;have:=pA kvs [];have e:kvs.length=CL.length:=iR g1;unfold dG;simp only[tP]at this
   lia
 replace h4:=h4 h3;have hz:ak.length+cM.length<=1000:=by rw[<-r1.length,<-r2.length];exact h5
 have LK:1000<=sizeLine:=by decide
 refine HT.AK p1 p2 (λz=>h3 (r1.kG.mp z)) (λz=>absurd (r2.kG.mp z) h4) (λz=>?_) (aM ‹_› ‹_›)
 obtain⟨CL,g1,g2,g3⟩:=nL I2 h6 (r1.append r2);obtain⟨DQ,aaJ⟩:=nw (s2.heap.push {cls:=.type "tuple",data:=.seq (ak++cM).toArray})
 have hsz:(ak++cM).toArray.size=ak.length+cM.length:=by simp
 refine px (knd:=bA X.prog X.w) hh (bc _ rfl) rfl rfl rfl (λi v hv=>?_) (by rw[g2];simp) (by grind) λh' tk dd kp=>?_
 ·rw[lF]at hv;obtain⟨c,k,key,w,e1,e2,e3,o,n,e4,e5⟩:=g3 i v hv;exact⟨c,k,key,w,e1,e2,e3,o,n,ax _ e4,e5⟩
 ·have hS:s2.heap.objs.size<=(s2.heap.push {cls:=.type "tuple",data:=.seq (ak++cM).toArray}).objs.size:=by simp_all
  have DO:=kX g1 .nil;refine⟨.ref _,_,I2.laid (λb u e=>kp b u (bP (az e) hS) (ax _ e)) hS ?_,rfl,q _ (I2.hok.fresh hS)⟩
  refine⟨?_,g7.mpr (bJ (aO (bP (iW I2) hS))),_,DO,dd⟩;have:=pA kvs [];have e:=iR g1;rw[cz]at g2;unfold dG;simp only[tP]at this
  lia
end
def YU(K:W.Frag):List V->Hp->VK->Prop:=λxs H Q=>∃a vs kvs,xs=[.ref a]/\gE K H a vs/\vs.length<=1000/\kW K H vs kvs/\∀p,H p=none->Q (.ref p) (cj H p (.dK (dG kvs)))
theorem zA{X:Cx}(hh:X.A.handled=none):jB X (.type "dict") (YU X.K):=by
 intro ae s σ H xs us Q I rs ⟨a,vs,kvs,ex,ha,hl,hp,q⟩;subst ex;obtain⟨u,rfl,ru⟩:=iw rs;cases ru;obtain⟨ak,n,r,hx,_⟩:=I.kM ha;obtain⟨CL,g1,g2,g3⟩:=nL I hp r;have LK:1000<=sizeLine:=by decide
 have YT:ak.length<=1000:=by rw[<-r.length];exact hl
 refine wA (knd:=bA X.prog X.w) (items:=ak.toArray) (kvs:=CL) hh hx rfl rfl rfl (λi v hv=>?_) (by rw[g2];simp) (by simp;lia) λh' tk dd kp=>?_
 ·rw[lF]at hv;exact g3 i v hv
 ·have DO:L2.KV (dG kvs) (merged [] CL):=kX g1 .nil;refine⟨.ref _,_,I.laid (o:=.dK (dG kvs)) (λb u e=>kp b u (az e) e) (aq _) ?_,rfl,q _ (I.hok.fresh (aq _))⟩
  refine⟨?_,g7.mpr (bJ (aO (iW I))),_,DO,dd⟩;have:=pA kvs [];have e:kvs.length=CL.length:=iR g1;unfold dG;simp only[tP]at this
  lia
def J9{X:Cx}{a:Expr}{ta:TE}{p cp:Pos}(hh:X.A.handled=none)(hg:Gl X "dict")(hm:X.mg "dict"=none)(ha:PE X a ta)(hs:starEach [a] X.env=[(false,eval a X.env)]):PE X (.Call (.Name "dict" p) [a] [] cp) (λσ H Q=>ta σ H λx H1=>YU X.K [x] H1 Q):=by
 intro ae s σ H Q I h;refine Call_ (ld_blt I hg hm (show bootBuiltins "dict"=some (.type "dict") by decide +kernel) (ej (pj hs (thn (ha ae s σ H _ I h) λv s1 ⟨x,H1,I1,r1,q1⟩=>?_)) hs rfl))
 exact zA hh ae s1 σ H1 [x] [v] Q I1 (.cons r1 .nil) q1
def wB:PV->Option (cL×PV)
 | .nd .aj [k,v]=>(Fh k).map λj=>(j,v)
 | _=>none
def pB:List (cL×PV)->ai->ai
 | [],c=>c
 | (k,v)::r,c=>match c.k with
  | .eW t ks=>pB r (uz t [k] v ks c.ps)
  | _=>c
def wC(ps:List PV):Option ai:=if ps.length<=1000 then(aQ wB ps).map λkvs=>pB kvs ⟨.eW false [],[]⟩else none
section
variable {K:W.Frag} {F:Fz}
theorem wD:∀{ps:List PV} {kvs:List (cL×PV)} {vs:List V},aQ wB ps=some kvs->ao K F ps vs->∃ks:List (cL×V),kW K F.F vs ks/\ks.map (·.1)=kvs.map (·.1)/\ao K F (kvs.map (·.2)) (ks.map (·.2))
 | [],_,_,h,b=>by
  cases h;rw[b.bL];exact⟨[],.nil,rfl,.nil⟩
 | p::ps,kvs,vs,h,b=>by
  obtain⟨kv,r,h1,h2,rfl⟩:=cW h;obtain⟨v,w,rfl,b1,b2⟩:=b.bB;obtain⟨ks,g1,g2,g3⟩:=wD h2 b2;unfold wB at h1;split at h1
  ·rename_i k q;obtain⟨j,e1,rfl⟩:=aL h1;obtain⟨c,ws,rfl,hs,hb⟩:=bt.mp b1;obtain⟨x,y,rfl,bx,bq⟩:=kR hb;rw[oZ e1 bx]at hs;exact⟨(j,y)::ks,.cons ⟨c,rfl,hs⟩ g1,by rw[aA,aA,g2],.cons bq g3⟩
  ·cases h1
theorem Bi:∀{kvs:List (cL×PV)} {ks:List (cL×V)} {acc:List (cL×V)} {ps:List PV},ks.map (·.1)=kvs.map (·.1)->ao K F (kvs.map (·.2)) (ks.map (·.2))->ao K F ps (acc.map (·.2)) ->
  ∃rM vo,pB kvs ⟨.eW false (acc.map λy=>[y.1]),ps⟩=⟨.eW false rM,vo⟩/\(ks.foldl (λacc kv=>putK acc kv.1 kv.2) acc).map (λy=>[y.1])=rM/\ao K F vo ((ks.foldl (λacc kv=>putK acc kv.1 kv.2) acc).map (·.2))
 | [],ks,acc,ps,h1,h2,h3=>by
  have:=List.map_eq_nil_iff.mp h1;subst this;exact⟨_,_,rfl,rfl,h3⟩
 | (k,q)::kvs,[],acc,ps,h1,h2,h3=>by cases h1
 | (k,q)::kvs,(j,v)::ks,acc,ps,h1,h2,h3=>by
  simp only[aA,ou]at h1;obtain⟨rfl,h1⟩:=h1;obtain⟨v',w,e,b1,b2⟩:=h2.bB;cases e;obtain⟨rM,vo,e1,e2,e3⟩:=Fj b1 h3;obtain⟨ks2,ps2,e4,e5,e6⟩:=Bi h1 b2 e3;refine⟨ks2,ps2,?_,e5,e6⟩;show pB kvs (uz false [j] q (acc.map λy=>[y.1]) ps)=_
  rw[e1,<-e2];exact e4
end
def Bj{K:W.Frag}(h:wC ps=some c)(b:ao K F ps vs):∃ks:List (cL×V),kW K F.F vs ks/\ps.length<=1000/\∃rM qs,c=⟨.eW false rM,qs⟩/\(dG ks).map (λy=>[y.1])=rM/\ao K F qs ((dG ks).map (·.2)):=by
 obtain⟨hl,h⟩:=bE h;obtain⟨kvs,h1,rfl⟩:=aL h;obtain⟨ks,g1,g2,g3⟩:=wD h1 b;obtain⟨rM,vo,e1,e2,e3⟩:=Bi (acc:=[]) g2 g3 .nil;exact⟨ks,g1,hl,rM,vo,e1,e2,e3⟩
theorem kW.mono{K:W.Frag}(h:b8 F G):∀{vs:List V} {ks:List (cL×V)},kW K F vs ks->kW K G vs ks
 | _,_,.nil=>.nil
 | _,_,.cons ⟨c,e,q⟩ t=>.cons ⟨c,e,aT h q⟩ (kW.mono h t)
noncomputable def Ka:PV->Option (List PV)
 | .nd .aj ps=>some ps
 | _=>none
def SO(p q:PV):Gx PV:=λst=>(Ka p).bind λps=>(Ka q).bind λqs=>if(!ps.isEmpty&&qs.isEmpty)=true then none else(wC (ps++qs)).bind λc=>ia c st
def Bk(fa fb:Gx PV):Gx PV:=bnd fa λp=>bnd fb λq=>SO p q
section
variable {X:Cx} {aa:Hp} {ab:Fz} {a b e:Expr} {fa fb fe:Gx PV} {p cp bp:Pos}
def Oq(hh:X.A.handled=none)(hg:Gl X "dict")(hm:X.mg "dict"=none)(ha:PE X a (tE X aa ab fa))(hb:PE X b (tE X aa ab fb))(hs:starEach [.BinOp a .Add b bp] X.env=[(false,eval (.BinOp a .Add b bp) X.env)]):PE X (.Call (.Name "dict" p) [.BinOp a .Add b bp] [] cp) (tE X aa ab (Bk fa fb)) :=
 (J8 hh hg hm ha hb hs).imp λσ H Q ⟨F,st,R,h⟩=>⟨F,st,R,h.bnd λq v F1 aI H1 R1 g1 b1 h1=>⟨F1,aI,R1,h1.bnd λq2 v2 F2 dF H2 R2 g2 b2 h2=>by
  obtain⟨r,e1,e2⟩:=h2;obtain⟨ps,e3,e1⟩:=aF e1;obtain⟨qs,e4,e1⟩:=aF e1;split at e1
  ·cases e1
  ·rename_i hne;obtain⟨c,e5,e1⟩:=aF e1;have t1:q=.aj ps:=by
    unfold Ka at e3;split at e3
    ·grind
    ·cases e3
   have t2:q2=.aj qs:=by
    unfold Ka at e4;split at e4
    ·grind
    ·cases e4
   subst t1 t2;obtain⟨a1,vs,rfl,WK,Ot⟩:=bt.mp (b1.mono g2);obtain⟨a2,ws,rfl,xO,UT⟩:=bt.mp b2;obtain⟨ks,k1,hl,rM,vo,rfl,e6,e7⟩:=Bj e5 (Ot.append UT);rw[cz]at hl;refine⟨a1,a2,vs,ws,ks,rfl,rfl,aT R2.sub WK,aT R2.sub xO,λy z=>hne ?_,by rw[<-Ot.length,<-UT.length];exact hl,k1.mono R2.sub,λp hp=>?_⟩
   ·subst z;have z2:qs=[]:=iF UT.length;have z1:ps≠[]:=λz=>y (iF (by rw[<-Ot.length,z];rfl))
    simp[z2,z1]
   ·exact Tx.ia (show Tx X aa ab (aZ X.K) F2 dF (ia ⟨.eW false rM,vo⟩) σ Q from⟨r,e1,e2⟩) R2 hp ⟨dG ks,ar,e6,rfl⟩ e7⟩⟩
def Kb(fa:Gx PV):Gx PV:=bnd fa λp st=>match p with
 | .nd .lst ps=>(wC ps).bind λc=>ia c st
 | _=>none
def F8(hh:X.A.handled=none)(hg:Gl X "dict")(hm:X.mg "dict"=none)(ha:PE X a (tE X aa ab fa))(hs:starEach [a] X.env=[(false,eval a X.env)]):PE X (.Call (.Name "dict" p) [a] [] cp) (tE X aa ab (Kb fa)) :=
 (J9 hh hg hm ha hs).imp λσ H Q ⟨F,st,R,h⟩=>⟨F,st,R,h.bnd λq v F1 aI H1 R1 g1 b1 h1=>by
  obtain⟨r,e1,e2⟩:=h1;split at e1
  ·rename_i ps;obtain⟨c,e5,e1⟩:=aF e1;obtain⟨ad,vs,rfl,WK,Ot⟩:=cP.mp b1;obtain⟨ks,k1,hl,rM,vo,rfl,e6,e7⟩:=Bj e5 Ot;refine⟨ad,vs,ks,rfl,gI R1.sub WK,by rw[<-Ot.length];exact hl,k1.mono R1.sub,λp hp=>?_⟩
   exact Tx.ia (show Tx X aa ab (aZ X.K) F1 aI (ia ⟨.eW false rM,vo⟩) σ Q from⟨r,e1,e2⟩) R1 hp ⟨dG ks,ar,e6,rfl⟩ e7
  ·cases e1⟩
end
noncomputable def Ou:List PV->Option (List Int)
 | [.int n]=>if 0<=n/\n<=1000 then some (rangeInts 0 1 n.toNat)else none
 | [.int a,.int b]=>if 0<=a/\a<=b/\b<=1000 then some (rangeInts a 1 (b-a).toNat)else none
 | _=>none
def kY(m:Nat)(ps:List PV):Gx PV:=λst=>match m with
 | 0=>some (.ok (.lst ps),st)
 | _=>ia ⟨.lst,ps⟩ st
def WL(m:Nat)(ts:Gx (List PV)):Gx PV:=bnd ts λps=>bnd (fD (Ou ps)) λl=>kY m (l.map .int)
def boot_range:bootBuiltins "range"=some (.type "range"):=by kernel_rfl
section
variable {X:Cx} {aa:Hp} {ab:Fz} {e:Expr} {es:List Expr} {ts:Gx (List PV)} {pos p ph zp:Pos} {m:Nat}
def Tx.kY{st:bX}(h:Tx X aa ab (aZ X.K) F st (kY m ps) σ Q)(R:Rep X.K aa ab F st σ H)(hq:H q=none)(hb:ao X.K F ps vs):Q (.ref q) (cj H q (.lst vs)):=by
 cases m with
 | zero =>
  obtain⟨r,e1,e2⟩:=h;cases e1;obtain⟨R2,s2⟩:=R.laid (.lst vs) hq;exact e2 _ _ _ R2 s2 (cP.mpr ⟨q,vs,rfl,gE.of ar,hb.mono s2⟩)
 | succ m=>exact Tx.ia (h) R hq ar hb
def zB(h:ItemsOf (fun(i:Nat) (v:Value)=>∃t:Tok,v=Value.int (a+i*c) t) acc n):Vals ((rangeInts a c n).map V.int) acc.toList:=by
 have:∀l k,(∀j v,l[j]?=some v->∃t:Tok,v=Value.int (a+(k+j:Nat)*c) t)->Vals (((List.range' k l.length).map fun(i:Nat)=>a+i*c).map V.int) l:=by
  intro l;induction l with
  | nil=>intro k _;exact .nil
  | cons x l ih =>
   intro k hx;obtain⟨t,ht⟩:=hx 0 x rfl;rw[bZ,List.range'_succ,aA,aA];refine .cons ⟨t,by rw[ht];rfl⟩ (ih (k+1) λj v hv=>?_)
   have:=hx (j+1) v (by simpa using hv)
   rw[show k+(j+1)=k+1+j by lia]at this
   exact this
 have h2:=this acc.toList 0 λj v hv=>by
  rw[lS];exact h.2 j v (by rw[<-yj];exact hv)
 rw[lI,h.1,<-List.range_eq_range']at h2;exact h2
def SQ(hh:X.A.handled=none)(Ov:Gl X "list")(Ow:X.mg "list"=none)(hg:Gl X "range")(hm:X.mg "range"=none)(ha:PA X (e::es) (tA X aa ab ts))(hs:starEach (e::es) X.env=(false,eval e X.env)::starEach es X.env)(xO:(backTo ph (starEach es X.env)).any (·.1)=false) :
  PE X (.Call (.Name "list" p) [.Call (.Name "range" zp) (e::es) [] ph] [] pos) (tE X aa ab (WL m ts)):=by
 rintro ae s σ H Q I ⟨F,st,Rp,h⟩
 refine iM (ld_blt I Ov Ow (ic .list) ?_ (by decide) (by decide))
 refine ej (pj rfl ?_) rfl rfl;have hA:=ha ph ae s σ H (λvs H'=>∃F' bK ps,Rep X.K aa ab F' bK σ H'/\ao X.K F' ps vs/\Tx X aa ab (aZ X.K) F' bK (bnd (fD (Ou ps)) λl=>kY m (l.map .int)) σ Q) I ⟨F,st,Rp,h.bnd λps vs F1 aI H1 R1 g1 b1 h1=>⟨F1,aI,ps,R1,b1,h1⟩⟩
 refine Call_ (ld_blt I hg hm boot_range (ej (thn hA λus s1 z9=>?_) hs xO))
 obtain⟨vs,H1,I1,r1,F1,aI,ps,R1,b1,h1⟩:=z9;obtain⟨ns,f2,h1⟩:=At.fD (At.bnd h1);have iU:∀r h1 WM (a b c:Int) (t u v:Tok) (n:Nat),(∀b o,s1.heap.get? b=some o->h1.get? b=some o)->IsRange h1 r a b c t u v->Builtin.Range.small a b c=true->Builtin.Range.rangeSize a b c=n->n<=3000->ns=rangeInts a c n ->
   wpAny (model X.prog X.w) X.A (call (.type "list") [.ref r]) (EP X ae σ Q) X.xe {s1 with heap:=h1,toks:=WM}:=λr h2 WM a b c t u v n hk hr hsm hn UM Jh=>by
  refine call_list_range hh hr hsm hn (by lia) λh' tk acc c' UO hS WN=>?_
  have I2:=I1.kept (t':=WM) hk;have hz:=I2.hok.fresh (aq _);have hv:=zB WN;rw[<-Jh]at hv;refine⟨.ref h2.objs.size,cj H1 h2.objs.size (.lst (ns.map V.int)),I2.laid UO (aq _) ⟨?_,acc.toList,c',hv,hS⟩,rfl,Tx.kY h1 R1 hz (rW ns)⟩;rw[ah,Jh,rangeInts_length];exact aM UM (by decide)
 clear h1;unfold Ou at f2;split at f2
 ·rename_i n;obtain⟨⟨h0,h1⟩,e1⟩:=aw f2;obtain⟨v,rfl,bv⟩:=cu b1;rw[au.mp bv]at r1;obtain⟨u,rfl,ru⟩:=iw r1;obtain⟨tk0,rfl⟩:=ru;refine call_range_1 ?_;refine iU _ _ _ 0 n 1 _ _ _ n.toNat (λb o e=>ax _ e) (IsRange.new ..) ?_ ?_ (by lia) e1.symm
  ·exact small_one (by decide) (by decide) (by lia) (by lia)
  ·unfold Builtin.Range.rangeSize;rw[if_pos (by decide)]
   split<;>lia
 ·rename_i a b;obtain⟨⟨h0,h1,h2⟩,e1⟩:=aw f2;obtain⟨v1,v2,rfl,bv1,bv2⟩:=kR b1;rw[au.mp bv1,au.mp bv2]at r1;obtain⟨u1,u2,rfl,NV,SR⟩:=AH r1;obtain⟨k1,rfl⟩:=NV;obtain⟨k2,rfl⟩:=SR;refine call_range_2 ?_;refine iU _ _ _ a b 1 _ _ _ (b-a).toNat (λb o e=>ax _ e) (IsRange.new ..) (small_one (by lia) (by lia) (by lia) (by lia)) (rangeSize_nat a b) (by lia) e1.symm
 ·cases f2
end
def j6(ps:List PV):Option (List Bool):=aQ vR ps
def wF:GC:=λh ps=>match ps with
 | [p]=>(ma h p).bind λqs=>(j6 qs).map λbs=>.bl (bs.all id)
 | _=>none
def Kc:GC:=λh ps=>match ps with
 | [p]=>(ma h p).bind λqs=>(j6 qs).map λbs=>.bl (bs.any id)
 | _=>none
section
variable {X:Cx} {aa:Hp} {ab:Fz} {e:Expr} {fe:Gx PV} {pos p:Pos} {m:Nat}
theorem rY{K:W.Frag}{F:Fz}:∀{ps:List PV} {ns:List Bool} {vs:List V},j6 ps=some ns->ao K F ps vs->vs=ns.map V.bl
 | [],ns,vs,h,b=>by cases h;exact b.bL
 | p::r,ns,vs,h,b=>by
  obtain⟨i,ms,h1,h2,rfl⟩:=cW h;obtain⟨v,vr,rfl,c,d⟩:=b.bB;rw[jZ h1]at c;rw[aS.mp c,rY h2 d];rfl
theorem pC:∀{bs:List Bool} {us:List Value},Vals (bs.map V.bl) us->us=bs.map Value.bool
 | [],_,r=>by cases r;rfl
 | b::bs,_,r=>by
  cases r with
  | cons ra rr =>
   cases ra;rw[pC rr];rfl
theorem CM(bs:List Bool):(List.range bs.length).any (λi=>bs[i]?.getD false)=bs.any id:=by
 rw[jQ,tH,tH];refine⟨λ⟨i,hi,h⟩=>?_,λ⟨b,hb,h⟩=>?_⟩
 ·have hi:=cH.mp hi;rw[aR hi]at h;exact⟨_,yv hi,h⟩
 ·obtain⟨i,hi,e⟩:=List.getElem_of_mem hb;refine⟨i,cH.mpr hi,?_⟩;rw[aR hi,e];exact h
theorem pE{ae:List (Addr×Obj)}{s:Shared}{σ τ:St}{H aa:Hp}{ab F:Fz}{st:bX}{us:List Value}{v:V}{p:PV}{qs:List PV}{ns:List Bool}(I:Inv X ae σ H s)(rs:Vals [v] us)(R:Rep X.K aa ab F st τ H)(b:aZ X.K F p v)(e1:ma st.h p=some qs)(e2:j6 qs=some ns) :
  ∃a,us=[.ref a]/\s.heap.IsList a (ns.map Value.bool).toArray/\a≠s.heap.objs.size:=by
 obtain⟨a,vs,rfl,ha,eR⟩:=R.at (du e1) b;obtain⟨ak,r,pl,_⟩:=I.list (gE.sq ha);have ev:=rY e2 eR;subst ev;have ei:=pC r;subst ei;obtain⟨u,rfl,ru⟩:=iw rs;cases ru;refine⟨a,rfl,pl.isList,?_⟩;obtain⟨o,ho,_⟩:=pl.isList;exact aO (az ho)
theorem rZ{ns:List Bool}{d:Bool}{i:Nat}{v:Value}{s':Shared}{Q':Bool->Shared->Prop}{E':Value->Shared->Prop}{M:Model}{A:Around}(hP:(ns.map Value.bool).toArray[i]?=some v)(hQ:Q' (ns[i]?.getD d) s'):wpAny M A (truthy v) Q' E' s':=by
 rw[lF,bg]at hP;cases w:ns[i]? with
 | none=>rw[w]at hP;cases hP
 | some bb =>
  rw[w]at hP hQ;cases hP;exact iN hQ
theorem CN(hc:X.A.handled=none):zg X (.builtin "any") Kc:=by
 intro ae s σ H xs us Q I rs ⟨aa,ab,F,st,τ,ps,p,e,R,bs,k⟩;unfold Kc at e;split at e
 ·obtain⟨qs,e1,e⟩:=aF e;obtain⟨ns,e2,rfl⟩:=aL e;obtain⟨v,rfl,b⟩:=cu bs;obtain⟨a,rfl,hL,hne⟩:=pE I rs R b e1 e2;refine call_any_walk (lK hL ?_);refine⟨_,_,_,_,_,_,λi=>ns[i]?.getD false,rfl,Walks.list (A:=X.A.in1) hc s.heap.objs.size a hne _,⟨⟨_,bc _ rfl,rfl,rfl⟩,yA hL _⟩,λi v s' Q' E' hP hQ=>rZ hP hQ,λh' tk hk=>?_⟩
  refine⟨.bl (ns.any id),H,I.kept (t':=tk) λb o e=>?_,?_,k _ H F R (Gr.refl F) (aS.mpr rfl)⟩
  ·exact hk b o (λhm=>absurd (bF.mp hm▸az e) (dM _)) (ax _ e)
  ·show Value.bool _=_;rw[<-CM ns];simp
 ·cases e
theorem CO(bs:List Bool):(List.range bs.length).all (λi=>bs[i]?.getD true)=bs.all id:=by
 rw[jQ,dY,dY];refine⟨λh b hb=>?_,λh i hi=>?_⟩
 ·obtain⟨i,hi,e⟩:=List.getElem_of_mem hb;have:=h i (cH.mpr hi);rw[aR hi,e]at this;exact this
 ·have hi:=cH.mp hi;rw[aR hi];exact h _ (yv hi)
theorem CP(hc:X.A.handled=none):zg X (.builtin "all") wF:=by
 intro ae s σ H xs us Q I rs ⟨aa,ab,F,st,τ,ps,p,e,R,bs,k⟩;unfold wF at e;split at e
 ·obtain⟨qs,e1,e⟩:=aF e;obtain⟨ns,e2,rfl⟩:=aL e;obtain⟨v,rfl,b⟩:=cu bs;obtain⟨a,rfl,hL,hne⟩:=pE I rs R b e1 e2;refine call_all_walk (lK hL ?_);refine⟨_,_,_,_,_,_,λi=>ns[i]?.getD true,rfl,Walks.list (A:=X.A.in1) hc s.heap.objs.size a hne _,⟨⟨_,bc _ rfl,rfl,rfl⟩,yA hL _⟩,λi v s' Q' E' hP hQ=>rZ hP hQ,λh' tk hk=>?_⟩
  refine⟨.bl (ns.all id),H,I.kept (t':=tk) λb o e=>?_,?_,k _ H F R (Gr.refl F) (aS.mpr rfl)⟩
  ·exact hk b o (λhm=>absurd (bF.mp hm▸az e) (dM _)) (ax _ e)
  ·show Value.bool _=_;rw[<-CO ns];simp
 ·cases e
noncomputable def Ox(p:PV):Option (List PV):=match p with
 | .nd .aj ps=>some ps
 | _=>none
def Ke(m:Nat)(fe:Gx PV):Gx PV:=bnd fe λp=>bnd (fD (Ox p)) λps=>kY m ps
def Oy(Ov:Gl X "list")(Ow:X.mg "list"=none)(he:PE X e (tE X aa ab fe))(hs:∀es,starEach (e::es) X.env=(false,eval e X.env)::starEach es X.env):PE X (.Call (.Name "list" p) [e] [] pos) (tE X aa ab (Ke m fe)):=by
 rintro ae s σ H Q I ⟨F,st,Rp,h⟩
 refine iM (ld_blt I Ov Ow (ic .list) ?_ (by decide) (by decide))
 refine ej (pj (hs []) ?_) (hs []) rfl;have hA:=he ae s σ H (λv H'=>∃F' bK q,Rep X.K aa ab F' bK σ H'/\aZ X.K F' q v/\Tx X aa ab (aZ X.K) F' bK (bnd (fD (Ox q)) λps=>kY m ps) σ Q) I ⟨F,st,Rp,h.bnd λq v F1 aI H1 R1 g1 b1 h1=>⟨F1,aI,q,R1,b1,h1⟩⟩
 refine thn hA λu s1 z9=>?_
 obtain⟨x,H1,I1,r1,F1,aI,q,R1,b1,h1⟩:=z9;obtain⟨ps,f2,h1⟩:=At.fD (At.bnd h1);obtain rfl:q=.aj ps:=by
  unfold Ox at f2;split at f2
  ·cases f2;rfl
  ·cases f2
 obtain⟨a,vs,rfl,ha,eR⟩:=bt.mp b1;cases r1;obtain⟨ak,rv,⟨o,ho,hc,n,hd⟩,hz⟩:=I1.tuple (aT R1.sub ha);refine call_list_seq (hsz:=by rw[bU,<-rv.length];exact hz) a (.inr rfl) ho hc hd λh' c' hk hS=>?_
 exact⟨.ref s1.heap.objs.size,cj H1 s1.heap.objs.size (.lst vs),I1.laid hk (aq _) ⟨hz,ak,c',rv,hS⟩,rfl,Tx.kY h1 R1 (I1.hok.fresh (aq _)) eR⟩
def SS(h:List ai)(p q:PV):Option (List PV):=(ma h p).bind λxs=>(ma h q).bind λys=>if xs.length+ys.length<=gV then some (xs++ys)else none
def Oz(m:Nat)(fa fb:Gx PV):Gx PV:=bnd fa λp=>bnd fb λq=>bnd (hp λh=>SS h p q) λl=>kY m l
def WO(X:Cx)(aa:Hp)(ab:Fz)(m:Nat):R2:=λx y H Q=>∃F st σ pa pb l,SS st.h pa pb=some l/\Rep X.K aa ab F st σ H/\aZ X.K F pa x/\aZ X.K F pb y/\Tx X aa ab (aZ X.K) F st (kY m l) σ Q
def Kf:OpR X (binaryOp .Add) (WO X aa ab m):=by
 rintro ae s σ H x y v u Q I rx ry ⟨F,st,τ,pa,pb,l,e,R,ba,bb,k⟩
 obtain⟨xs,e1,e⟩:=aF e;obtain⟨ys,e2,e⟩:=aF e;obtain⟨hz,rfl⟩:=aw e;obtain⟨a,vs,rfl,ha,eR⟩:=R.at (du e1) ba;obtain⟨b,ws,rfl,hb,HV⟩:=R.at (du e2) bb;cases rx;cases ry;obtain⟨ak,n,r,e1,z1⟩:=I.kM ha;obtain⟨cM,n2,r2,e2,z2⟩:=I.kM hb;have hl:=r.length;have UK:=r2.length;have hz':vs.length+ws.length<=sizeLine:=by rw[<-eR.length,<-HV.length];exact dh hz
 refine PySem.P.add_list e1 e2 ?_ (by grind)
 have ea:ak.toArray++cM.toArray=(ak++cM).toArray:=by simp
 rw[ea];exact⟨.ref _,_,I.M8 (r.append r2) (by grind),rfl,Tx.kY k R I.fresh (eR.append HV)⟩
def OA{a b:Expr}{fa fb:Gx PV}(ha:PE X a (tE X aa ab fa))(hb:PE X b (tE X aa ab fb)):PE X (.BinOp a .Add b pos) (tE X aa ab (Oz m fa fb)):=(Ll Kf ha hb).imp λσ H Q ⟨F,st,R,h⟩ =>
 ⟨F,st,R,h.bnd λp v F1 aI H1 R1 g1 b1 h1=>⟨F1,aI,R1,h1.bnd λq w F2 dF H2 R2 g2 b2 h2=>by
  obtain⟨l,e,z⟩:=At.hp (At.bnd h2);exact⟨F2,dF,σ,p,q,l,e,R2,b1.mono g2,b2,z⟩⟩⟩
def CQ(h:List ai)(p:PV)(as:List PV):Option PV:=match as with
 | [q]=>(ma h p).bind λps=>(toT h dP q).bind λx=>(aQ (toT h dP) ps).map λys=>.int (ys.countP λy=>eqT y x:Nat)
 | _=>none
def F9(p:PV)(as:List PV):Gx PV:=hp λh=>CQ h p as
def SU(K:W.Frag):V->List V->Hp->VK->Prop:=λv ws H Q=>∃aa ab F st σ p as o,CQ st.h p as=some o/\Rep K aa ab F st σ H/\aZ K F p v/\ao K F as ws/\∀u H' F',Rep K aa ab F' st σ H'->Gr F F'->aZ K F' o u->Q u H'
theorem Bm{s:Shared}{p:Tr}:∀{ts:List Tr} {us:List Value},bC s ts us->us.countP (jv s p)=ts.countP λy=>eqT y p
 | [],_,b=>by simp only[bC]at b;subst b;rfl
 | q::ts,_,b=>by
  simp only[bC]at b;obtain⟨u,r,rfl,c1,d1⟩:=b;rw[List.countP_cons,List.countP_cons,ux c1,Bm d1]
def OB(hu:X.A.units+1150<cLine):M4 X "list.count" (SU X.K):=by
 rintro ae s σ H x vs v us Q I rx rv ⟨aa,ab,F,st,τ,p,as,o,e,R,bp,ba,k⟩
 unfold CQ at e;split at e
 ·obtain⟨ps,e1,e⟩:=aF e;obtain⟨t,e2,e⟩:=aF e;obtain⟨ts,e3,rfl⟩:=aL e;obtain⟨y,rfl,b⟩:=cu ba;obtain⟨a,ws,rfl,ha,eR⟩:=R.at (du e1) bp;cases rx;obtain⟨u,rfl,ru⟩:=rv.one;have tp:=R.tree I _ _ _ _ _ e2 b ru;obtain⟨ak,r,pl,_⟩:=I.list (gE.sq ha);obtain⟨h1,h2⟩:=R.trees I _ _ _ _ _ e3 eR r;obtain⟨⟨cls,dd,data,sl⟩,ho,hc,n,hd⟩:=pl.isList;simp only at hc hd;subst hc hd;refine dN PySem.F.slot_list_count ⟨_,ho,rfl⟩ PySem.F.entry_list_count (PySem.F.args_list_count_2 _ _) (SeqAt.list_countAt a ak.toArray n dd sl u (jv s t)) ⟨ho,λy hy=>nH tp h1 (by rw[oi];unfold dP at h2;lia) y (by simpa using hy),?_⟩
  rw[show ak.toArray.toList=ak from rfl,Bm h1]
  exact⟨.int _,H,I.tok _,⟨_,rfl⟩,k _ H F R (Gr.refl F) (au.mpr rfl)⟩
 ·cases e
def OC:Sl X (SU X.K) F9:=λaa H ab F st σ p as v ws Q h R bp ba=>by
 obtain⟨o,e,z⟩:=At.hp h;exact⟨aa,ab,F,st,σ,p,as,o,e,R,bp,ba,z⟩
def SV{o:Expr}{es:List Expr}{fo:Gx PV}{ts:Gx (List PV)}{kx fZ:Pos}(hu:X.A.units+1150<cLine)(ho:PE X o (tE X aa ab fo))(ha:PA X (e::es) (tA X aa ab ts))(gh:attributeBase o "count" X.env (eval o X.env)=eval o X.env)
  (qA:((backTo fZ (starEach (e::es) X.env)).all (λx=>!x.1)&&(backToKw fZ (keywordEach [] X.env)).all (λx=>x.1.isSome)&&decide ((e::es).length+([]:List Keyword).length+(if([]:List Keyword).isEmpty then 0 else 1)<30))=true)
  (fy:(kx.endLine==fZ.line)=true) (kr:starEach (e::es) X.env=(false,eval e X.env)::starEach es X.env) (kE:(backTo fZ (starEach es X.env)).any (·.1)=false):PE X (.Call (.Attribute o "count" kx) (e::es) [] fZ) (tE X aa ab (HW "list" F9 fo ts)) :=
 (oR nX PySem.F.slot_list_count PySem.F.type_list_count (OB hu) ho ha gh qA fy kr kE).imp λ_ _ _ h=>j5 OC h
def Ga:bootBuiltins "all"=some (.builtin "all"):=by kernel_rfl
def Gb:bootBuiltins "any"=some (.builtin "any"):=by kernel_rfl
end
theorem ng{a b:Nat}(h:b<a):@Ne Addr a b:=lU h
structure Zp (h:Heap) (z TI TO i1 i2 l1 l2:Nat) (f0:Value) (k:Nat) (xs ys:Array Value):Prop where
 hz:IsZip h z TI TO f0
 hTI:IsPair h TI (.ref i1) (.ref i2)
 hTO:∃a b,IsPair h TO a b
 s1:SI h i1 l1 k xs
 s2:SI h i2 l2 k ys
 ord:i1<i2/\i2<TI/\TI<TO/\TO<z
 o1:l1<i1
 o2:l2<i1
section
variable {prog:Program} {w:World} {A:Around} {E:Value->Shared->Prop} {s:Shared} {z TI TO i1 i2 l1 l2:Nat} {k:Nat} {xs ys:Array Value}
theorem Bn{x y:Value}{Q:Value->Shared->Prop}(Z:Zp s.heap z TI TO i1 i2 l1 l2 .none k xs ys)(hx:xs[k]?=some x)(hy:ys[k]?=some y)
  (hQ:∀h',Zp h' z TI TO i1 i2 l1 l2 (rawInt s.heap.objs.size) (k+1) xs ys->IsPair h' s.heap.objs.size x y->h'.objs.size=s.heap.objs.size+1->(∀c o,c≠z->c≠TO->c≠i1->c≠i2->s.heap.get? c=some o->h'.get? c=some o)->Q (.ref s.heap.objs.size) {s with heap:=h'}) :
  wpAny (model prog w) A (Builtin.«zip.__next__» ⟨[.ref z],[]⟩) (λiU s'=>∃v,iU=.done (.ret v)/\Q v s') E s:=by
 obtain⟨hz,hTI,⟨a,b,hTO⟩,s1,s2,⟨o1,o2,o3,o4⟩,q1,q2⟩:=Z;show wpAny _ _ (field (.ref z) 2 >>= _) _ _ _;refine af (cb hz rfl (x:=.bool false) rfl ?_);show wpAny _ _ (field (.ref z) 3 >>= _) _ _ _;refine af (cb hz rfl (x:=.ref TI) rfl (af (fJ hTI rfl ?_)));show wpAny _ _ (Builtin.SmallTypes.ownedTupleIsFree (.ref z) >>= _) _ _ _;refine af ?_;unfold Builtin.SmallTypes.ownedTupleIsFree;refine af (cb hz rfl (x:=.none) rfl (ag ?_));simp only[dc];refine af (iT (af (cb hz rfl (x:=.ref TO) rfl (af (jK hz (by simp) λfQ hz₁ e₁=>?_)))))
 replace hz₁:IsZip fQ z TI TO .ellipsis:=hz₁;refine af ?_;simp only[List.zipIdx_cons,List.zipIdx_nil,om,tV];refine af (af (t5 ?_));show wpAny _ _ (Builtin.SmallTypes.nextOf (.ref i1) >>= _) _ _ _;have kZ:SI fQ i1 l1 k xs:=s1.at (λo e=>e₁.extBut _ _ (by first | exact nl (by lia) | exact ng (by lia)) e) (λo e=>e₁.extBut _ _ (by first | exact nl (by lia) | exact ng (by lia)) e)
 refine af (SI.next kZ hx λpF wG e₂=>ag ?_)
 have pH:IsPair pF TO a b:=e₂.extBut _ _ (by first | exact nl (by lia) | exact ng (by lia)) (e₁.extBut _ _ (by first | exact nl (by lia) | exact ng (by lia)) hTO)
 refine af (fJ pH rfl (af (yk pH λj7 hTO₃ iD=>?_)))
 replace hTO₃:IsPair j7 TO x b:=hTO₃;refine af (lV (ag (af (af (t5 ?_)))));show wpAny _ _ (Builtin.SmallTypes.nextOf (.ref i2) >>= _) _ _ _;have wH:SI j7 i2 l2 k ys:=s2.at (λo e=>iD.extBut _ _ (by first | exact nl (by lia) | exact ng (by lia)) (e₂.extBut _ _ (by first | exact nl (by lia) | exact ng (by lia)) (e₁.extBut _ _ (by first | exact nl (by lia) | exact ng (by lia)) e))) (λo e=>iD.extBut _ _ (by first | exact nl (by lia) | exact ng (by lia)) (e₂.extBut _ _ (by first | exact nl (by lia) | exact ng (by lia)) (e₁.extBut _ _ (by first | exact nl (by lia) | exact ng (by lia)) e)))
 refine af (SI.next wH hy λOD SW e₄=>ag ?_)
 have Gd:IsPair OD TO x b:=e₄.extBut _ _ (by first | exact nl (by lia) | exact ng (by lia)) hTO₃
 refine af (fJ Gd rfl (af (yk Gd λi7 hTO₅ zC=>?_)))
 replace hTO₅:IsPair i7 TO x y:=hTO₅;refine af (lV (ag (ag ?_)));refine af (fJ hTO₅ rfl (af (wpAny_newTuple ?_)));have hsz:i7.objs.size=s.heap.objs.size:=by rw[zC.1,e₄.1,iD.1,e₂.1,e₁.1]
 have LL:IsZip i7 z TI TO .ellipsis:=zC.extBut _ _ (by first | exact nl (by lia) | exact ng (by lia)) (e₄.extBut _ _ (by first | exact nl (by lia) | exact ng (by lia)) (iD.extBut _ _ (by first | exact nl (by lia) | exact ng (by lia)) (e₂.extBut _ _ (by first | exact nl (by lia) | exact ng (by lia)) hz₁)))
 have kp:∀c o,c≠z->c≠TO->c≠i1->c≠i2->s.heap.get? c=some o->i7.get? c=some o:=λc o c1 c2 c3 c4 e=>zC.extBut _ _ c2 (e₄.extBut _ _ c4 (iD.extBut _ _ c2 (e₂.extBut _ _ c3 (e₁.extBut _ _ c1 e))))
 have SX:SI i7 i1 l1 (k+1) xs:=wG.at (λo e=>zC.extBut _ _ (by first | exact nl (by lia) | exact ng (by lia)) (e₄.extBut _ _ (by first | exact nl (by lia) | exact ng (by lia)) (iD.extBut _ _ (by first | exact nl (by lia) | exact ng (by lia)) e))) (λo e=>zC.extBut _ _ (by first | exact nl (by lia) | exact ng (by lia)) (e₄.extBut _ _ (by first | exact nl (by lia) | exact ng (by lia)) (iD.extBut _ _ (by first | exact nl (by lia) | exact ng (by lia)) e)))
 have SY:SI i7 i2 l2 (k+1) ys:=SW.at (λo e=>zC.extBut _ _ (by first | exact nl (by lia) | exact ng (by lia)) e) (λo e=>zC.extBut _ _ (by first | exact nl (by lia) | exact ng (by lia)) e)
 have zlt:z<i7.objs.size:=az LL;show wpAny _ _ (Builtin.SmallTypes.ownedTupleHandOut (.ref z) (.ref i7.objs.size) >>= _) _ _ _;refine af ?_;unfold Builtin.SmallTypes.ownedTupleHandOut;have S0:IsZip (i7.push {cls:=.type "tuple",data:=.seq #[x,y]}) z TI TO .ellipsis:=ax _ LL
 refine af (jK S0 (by simp) λWQ Ge e₇=>?_)
 replace Ge:IsZip WQ z TI TO (rawInt i7.objs.size):=Ge;refine jK Ge (by simp) λGf Bo OE=>?_
 replace Bo:IsZip Gf z TI TO (rawInt i7.objs.size):=Bo;have up:∀c o,c≠z->i7.get? c=some o->Gf.get? c=some o:=λc o c1 e=>OE.extBut _ _ c1 (e₇.extBut _ _ c1 (ax _ e))
 have hT₈:IsPair Gf i7.objs.size x y:=OE.extBut _ _ (by first | exact nl (by lia) | exact ng (by lia)) (e₇.extBut _ _ (by first | exact nl (by lia) | exact ng (by lia)) (bc _ rfl))
 have YV:Gf.objs.size=i7.objs.size+1:=by rw[OE.1,e₇.1,c6]
 rw[hsz]at Bo hT₈ YV;refine ag ⟨_,rfl,?_⟩;show Q (.ref i7.objs.size) _;rw[hsz];refine hQ Gf ⟨Bo,up _ _ (by first | exact nl (by lia) | exact ng (by lia)) (kp _ _ (by first | exact nl (by lia) | exact ng (by lia)) (by first | exact nl (by lia) | exact ng (by lia)) (by first | exact nl (by lia) | exact ng (by lia)) (by first | exact nl (by lia) | exact ng (by lia)) hTI),⟨x,y,up _ _ (by first | exact nl (by lia) | exact ng (by lia)) hTO₅⟩,SX.at (λo e=>up _ o (by first | exact nl (by lia) | exact ng (by lia)) e) (λo e=>up _ o (by first | exact nl (by lia) | exact ng (by lia)) e),SY.at (λo e=>up _ o (by first | exact nl (by lia) | exact ng (by lia)) e) (λo e=>up _ o (by first | exact nl (by lia) | exact ng (by lia)) e),⟨o1,o2,o3,o4⟩,q1,q2⟩ hT₈ YV λc o c1 c2 c3 c4 e=>up c o c1 (kp c o c1 c2 c3 c4 e)
theorem Gg{Q:Fin->Shared->Prop}(hh:A.handled=none)(Z:Zp s.heap z TI TO i1 i2 l1 l2 .none k xs ys)(wI:xs[k]?=none\/ys[k]?=none)
  (hE:∀h' e,(∀c o,c≠z->c≠TO->c≠i1->c≠i2->s.heap.get? c=some o->h'.get? c=some o)->(∃o,h'.get? e=some o/\o.cls=.type "StopIteration")->E (.ref e) {s with heap:=h'}):wpAny (model prog w) A (Builtin.«zip.__next__» ⟨[.ref z],[]⟩) Q E s:=by
 obtain⟨hz,hTI,⟨a,b,hTO⟩,s1,s2,⟨o1,o2,o3,o4⟩,q1,q2⟩:=Z;show wpAny _ _ (field (.ref z) 2 >>= _) _ _ _;refine af (cb hz rfl (x:=.bool false) rfl ?_);show wpAny _ _ (field (.ref z) 3 >>= _) _ _ _;refine af (cb hz rfl (x:=.ref TI) rfl (af (fJ hTI rfl ?_)));show wpAny _ _ (Builtin.SmallTypes.ownedTupleIsFree (.ref z) >>= _) _ _ _;refine af ?_;unfold Builtin.SmallTypes.ownedTupleIsFree;refine af (cb hz rfl (x:=.none) rfl (ag ?_));simp only[dc];refine af (iT (af (cb hz rfl (x:=.ref TO) rfl (af (jK hz (by simp) λfQ hz₁ e₁=>?_)))))
 replace hz₁:IsZip fQ z TI TO .ellipsis:=hz₁;refine af ?_;simp only[List.zipIdx_cons,List.zipIdx_nil,om,tV];refine af (af (t5 ?_));show wpAny _ _ (Builtin.SmallTypes.nextOf (.ref i1) >>= _) _ _ _;have kZ:SI fQ i1 l1 k xs:=s1.at (λo e=>e₁.extBut _ _ (by first | exact nl (by lia) | exact ng (by lia)) e) (λo e=>e₁.extBut _ _ (by first | exact nl (by lia) | exact ng (by lia)) e)
 cases hx:xs[k]? with
 | none =>
  refine af (SI.stop hh kZ hx λpF e hs₂ he=>?_)
  obtain⟨oe,OF,S2⟩:=he;have LM:IsZip pF z TI TO .ellipsis:=hs₂ _ _ (by first | exact nl (by lia) | exact ng (by lia)) hz₁
  have WR:e≠z:=λx=>by subst x;rw[LM]at OF;cases OF;simp at S2
  exact jK LM (by simp) λj7 _ hs₃=>hE j7 e (λc o c1 _ c3 _ x=>hs₃.extBut _ _ c1 (hs₂ _ _ c3 (e₁.extBut _ _ c1 x))) ⟨oe,hs₃.extBut _ _ WR OF,S2⟩
 | some x =>
  have hy:ys[k]?=none:=by
   rcases wI with h | h
   ·rw[hx]at h;cases h
   ·exact h
  refine af (SI.next kZ hx λpF wG e₂=>ag ?_)
  have pH:IsPair pF TO a b:=e₂.extBut _ _ (by first | exact nl (by lia) | exact ng (by lia)) (e₁.extBut _ _ (by first | exact nl (by lia) | exact ng (by lia)) hTO)
  refine af (fJ pH rfl (af (yk pH λj7 hTO₃ iD=>?_)))
  refine af (lV (ag (af (af (t5 ?_)))));show wpAny _ _ (Builtin.SmallTypes.nextOf (.ref i2) >>= _) _ _ _;have wH:SI j7 i2 l2 k ys:=s2.at (λo e=>iD.extBut _ _ (by first | exact nl (by lia) | exact ng (by lia)) (e₂.extBut _ _ (by first | exact nl (by lia) | exact ng (by lia)) (e₁.extBut _ _ (by first | exact nl (by lia) | exact ng (by lia)) e))) (λo e=>iD.extBut _ _ (by first | exact nl (by lia) | exact ng (by lia)) (e₂.extBut _ _ (by first | exact nl (by lia) | exact ng (by lia)) (e₁.extBut _ _ (by first | exact nl (by lia) | exact ng (by lia)) e)))
  refine af (SI.stop hh wH hy λOD e LN he=>?_)
  obtain⟨oe,OF,S2⟩:=he;have LO:IsZip OD z TI TO .ellipsis:=LN _ _ (by first | exact nl (by lia) | exact ng (by lia)) (iD.extBut _ _ (by first | exact nl (by lia) | exact ng (by lia)) (e₂.extBut _ _ (by first | exact nl (by lia) | exact ng (by lia)) hz₁))
  have WR:e≠z:=λx=>by subst x;rw[LO]at OF;cases OF;simp at S2
  exact jK LO (by simp) λi7 _ hs₅=>hE i7 e (λc o c1 c2 c3 c4 x=>hs₅.extBut _ _ c1 (LN _ _ c4 (iD.extBut _ _ c2 (e₂.extBut _ _ c3 (e₁.extBut _ _ c1 x))))) ⟨oe,hs₅.extBut _ _ WR OF,S2⟩
theorem wJ(l1 l2:Addr)(xs ys:Array Value)(c1 c2:String) :
  Meets (Builtin.«zip.__new__» ⟨[.type "zip",.ref l1,.ref l2],[]⟩) (λ_ R s=>gN s.heap l1 xs c1/\gN s.heap l2 ys c2 /\
   ∀h1 h2 h3 h4:Heap,h1=s.heap.push {cls:=.type c1,data:=.fields #[.ref l1,.int 0 0]}->h2=h1.push {cls:=.type c2,data:=.fields #[.ref l2,.int 0 0]}->h3=h2.push {cls:=.type "tuple",data:=.seq #[.ref s.heap.objs.size,.ref h1.objs.size]}->h4=h3.push {cls:=.type "tuple",data:=.seq #[.none,.none]} ->
    R (.ok (.ret (.ref h4.objs.size))) {s with heap:=h4.push {cls:=.type "zip",data:=.fields #[.none,.bool false,.bool false,.ref h2.objs.size,.ref h3.objs.size]}}) :=
 .of_wp λprog w A R s h=>by
  obtain⟨hp,g,d,tk,os⟩:=s;obtain⟨OG,UK,h⟩:=h;have uF:=sub_zip;have hL1:gN (Shared.heap ⟨hp,g,d,tk,os⟩) l1 xs c1:=OG;have hL2:gN (Shared.heap ⟨hp.push {cls:=.type c1,data:=.fields #[.ref l1,.int 0 0]},g,d,tk,os⟩) l2 ys c2:=by
   rcases UK with⟨e,q⟩ | ⟨e,q⟩
   ·exact .inl ⟨e,yA q _⟩
   ·exact .inr ⟨e,Heap.IsTuple.push q _⟩
  wp_walk using jn hL1,jn hL2
  exact⟨_,rfl,h _ _ _ _ rfl rfl rfl rfl⟩
end
def WS(h:Heap)(z TI TO t:Nat)(f:Bool):Prop:=h.get? z=some {cls:=.type "zip",data:=.fields #[rawInt t,.bool f,.bool false,.ref TI,.ref TO]}
structure Zq (h:Heap) (z TI TO i1 i2 l1 l2 t:Nat) (f:Bool) (k:Nat) (xs ys:Array Value):Prop where
 hz:WS h z TI TO t f
 hTI:IsPair h TI (.ref i1) (.ref i2)
 s1:SI h i1 l1 k xs
 s2:SI h i2 l2 k ys
 al:∃o,h.get? t=some o
 ord:i1<i2/\i2<TI/\TI<TO/\TO<z/\z<t
 o1:l1<i1
 o2:l2<i1
section
variable {prog:Program} {w:World} {A:Around} {E:Value->Shared->Prop} {s:Shared} {z TI TO i1 i2 l1 l2 t:Nat} {f:Bool} {k:Nat} {xs ys:Array Value}
theorem Zq.at{h h':Heap}(Z:Zq h z TI TO i1 i2 l1 l2 t f k xs ys)(kp:∀b o,b<=z->h.get? b=some o->h'.get? b=some o)(ka:∀o,h.get? t=some o->∃o',h'.get? t=some o'):Zq h' z TI TO i1 i2 l1 l2 t f k xs ys:=by
 obtain⟨hz,hTI,s1,s2,⟨oa,ha⟩,⟨o1,o2,o3,o4,o5⟩,q1,q2⟩:=Z;exact⟨kp _ _ (aq _) hz,kp _ _ (by lia) hTI,s1.at (λo e=>kp _ o (by lia) e) (λo e=>kp _ o (by lia) e),s2.at (λo e=>kp _ o (by lia) e) (λo e=>kp _ o (by lia) e),ka _ ha,⟨o1,o2,o3,o4,o5⟩,q1,q2⟩
theorem Bp{oa:Obj}{Q:Bool->Shared->Prop}(hz:WS s.heap z TI TO t f)(ha:s.heap.get? t=some oa)(hQ:∀fQ,WS fQ z TI TO t true->Heap.SameBut z s.heap fQ->Q false {s with heap:=fQ}):wpAny (model prog w) A (Builtin.SmallTypes.ownedTupleIsFree (.ref z)) Q E s:=by
 unfold Builtin.SmallTypes.ownedTupleIsFree;refine af (cb hz rfl (x:=rawInt t) rfl ?_);show wpAny _ _ (loadIfAlive ((t:Int).toNat) >>= _) _ _ _;rw[lJ];refine af (W.kdx_alive ha ?_);simp only[Option.isNone_some,cN,b6];refine af (cb hz rfl (x:=.bool f) rfl ?_);cases f with
 | true =>
  rw[if_neg (show ¬((Value.bool true != Value.bool true)=true)from dJ)]
  exact ag (hQ _ hz (Heap.SameBut.refl _ _))
 | false =>
  rw[if_pos (show(Value.bool false != Value.bool true)=true from rfl)]
  exact af (jK hz (by simp) λfQ hz₁ e₁=>ag (hQ fQ hz₁ e₁))
theorem Kg{x y:Value}{Q:Value->Shared->Prop}(Z:Zq s.heap z TI TO i1 i2 l1 l2 t f k xs ys)(hx:xs[k]?=some x)(hy:ys[k]?=some y)
  (hQ:∀h',Zq h' z TI TO i1 i2 l1 l2 t true (k+1) xs ys->IsPair h' s.heap.objs.size x y->h'.objs.size=s.heap.objs.size+1->(∀c o,c≠z->c≠i1->c≠i2->s.heap.get? c=some o->h'.get? c=some o)->Q (.ref s.heap.objs.size) {s with heap:=h'}) :
  wpAny (model prog w) A (Builtin.«zip.__next__» ⟨[.ref z],[]⟩) (λiU s'=>∃v,iU=.done (.ret v)/\Q v s') E s:=by
 obtain⟨hz,hTI,s1,s2,⟨oa,ha⟩,⟨o1,o2,o3,o4,o5⟩,q1,q2⟩:=Z;show wpAny _ _ (field (.ref z) 2 >>= _) _ _ _;refine af (cb hz rfl (x:=.bool false) rfl ?_);show wpAny _ _ (field (.ref z) 3 >>= _) _ _ _;refine af (cb hz rfl (x:=.ref TI) rfl (af (fJ hTI rfl ?_)));show wpAny _ _ (Builtin.SmallTypes.ownedTupleIsFree (.ref z) >>= _) _ _ _;refine af (Bp hz ha λfQ hz₁ e₁=>?_)
 simp only[cN,b6];refine af ?_;simp only[List.forIn_toArray,om,tV];refine af (af (c7 ?_));show wpAny _ _ (Builtin.SmallTypes.nextOf (.ref i1) >>= _) _ _ _;have kZ:SI fQ i1 l1 k xs:=s1.at (λo e=>e₁.extBut _ _ (by first | exact nl (by lia) | exact ng (by lia)) e) (λo e=>e₁.extBut _ _ (by first | exact nl (by lia) | exact ng (by lia)) e)
 refine af (SI.next kZ hx λpF wG e₂=>ag ?_)
 refine ag (af (af (c7 ?_)));show wpAny _ _ (Builtin.SmallTypes.nextOf (.ref i2) >>= _) _ _ _;have Gh:SI pF i2 l2 k ys:=s2.at (λo e=>e₂.extBut _ _ (by first | exact nl (by lia) | exact ng (by lia)) (e₁.extBut _ _ (by first | exact nl (by lia) | exact ng (by lia)) e)) (λo e=>e₂.extBut _ _ (by first | exact nl (by lia) | exact ng (by lia)) (e₁.extBut _ _ (by first | exact nl (by lia) | exact ng (by lia)) e))
 refine af (SI.next Gh hy λj7 wH iD=>ag ?_)
 refine ag (ag ?_);have hsz:j7.objs.size=s.heap.objs.size:=by rw[iD.1,e₂.1,e₁.1]
 have kp:∀c o,c≠z->c≠i1->c≠i2->s.heap.get? c=some o->j7.get? c=some o:=λc o c1 c2 c3 e=>iD.extBut _ _ c3 (e₂.extBut _ _ c2 (e₁.extBut _ _ c1 e))
 have up:∀c o,c≠i1->c≠i2->fQ.get? c=some o->j7.get? c=some o:=λc o c2 c3 e=>iD.extBut _ _ c3 (e₂.extBut _ _ c2 e)
 refine af (wpAny_newTuple (hsz:=by show 2<=sizeLine;decide) ?_)
 show wpAny _ _ (ret (Value.ref j7.objs.size)) _ _ {s with heap:=j7.push {cls:=.type "tuple",data:=.seq #[x,y]}}
 rw[hsz];refine ag ⟨_,rfl,?_⟩;have Z3:Zq j7 z TI TO i1 i2 l1 l2 t true (k+1) xs ys:=⟨up _ _ (by first | exact nl (by lia) | exact ng (by lia)) (by first | exact nl (by lia) | exact ng (by lia)) hz₁,kp _ _ (by first | exact nl (by lia) | exact ng (by lia)) (by first | exact nl (by lia) | exact ng (by lia)) (by first | exact nl (by lia) | exact ng (by lia)) hTI,wG.at (λo e=>iD.extBut _ _ (by first | exact nl (by lia) | exact ng (by lia)) e) (λo e=>iD.extBut _ _ (by first | exact nl (by lia) | exact ng (by lia)) e),wH,⟨oa,kp _ _ (by first | exact nl (by lia) | exact ng (by lia)) (by first | exact nl (by lia) | exact ng (by lia)) (by first | exact nl (by lia) | exact ng (by lia)) ha⟩,⟨o1,o2,o3,o4,o5⟩,q1,q2⟩
 refine hQ _ (Z3.at (λb o _ e=>ax _ e) λo e=>⟨o,ax _ e⟩) ?_ (by rw[c6,hsz]) λc o c1 c2 c3 e=>ax _ (kp c o c1 c2 c3 e)
 rw[<-hsz];exact bc _ rfl
theorem OH{Q:Fin->Shared->Prop}(hh:A.handled=none)(Z:Zq s.heap z TI TO i1 i2 l1 l2 t f k xs ys)(wI:xs[k]?=none\/ys[k]?=none)
  (hE:∀h' e,(∀c o,c≠z->c≠i1->c≠i2->s.heap.get? c=some o->h'.get? c=some o)->(∃o,h'.get? e=some o/\o.cls=.type "StopIteration")->E (.ref e) {s with heap:=h'}):wpAny (model prog w) A (Builtin.«zip.__next__» ⟨[.ref z],[]⟩) Q E s:=by
 obtain⟨hz,hTI,s1,s2,⟨oa,ha⟩,⟨o1,o2,o3,o4,o5⟩,q1,q2⟩:=Z;show wpAny _ _ (field (.ref z) 2 >>= _) _ _ _;refine af (cb hz rfl (x:=.bool false) rfl ?_);show wpAny _ _ (field (.ref z) 3 >>= _) _ _ _;refine af (cb hz rfl (x:=.ref TI) rfl (af (fJ hTI rfl ?_)));show wpAny _ _ (Builtin.SmallTypes.ownedTupleIsFree (.ref z) >>= _) _ _ _;refine af (Bp hz ha λfQ hz₁ e₁=>?_)
 simp only[cN,b6];refine af ?_;simp only[List.forIn_toArray,om,tV];refine af (af (c7 ?_));show wpAny _ _ (Builtin.SmallTypes.nextOf (.ref i1) >>= _) _ _ _;have kZ:SI fQ i1 l1 k xs:=s1.at (λo e=>e₁.extBut _ _ (by first | exact nl (by lia) | exact ng (by lia)) e) (λo e=>e₁.extBut _ _ (by first | exact nl (by lia) | exact ng (by lia)) e)
 cases hx:xs[k]? with
 | none =>
  refine af (SI.stop hh kZ hx λpF e hs₂ he=>?_)
  exact hE pF e (λc o c1 c3 _ x=>hs₂ _ _ c3 (e₁.extBut _ _ c1 x)) he
 | some x =>
  have hy:ys[k]?=none:=by
   rcases wI with h | h
   ·rw[hx]at h;cases h
   ·exact h
  refine af (SI.next kZ hx λpF wG e₂=>ag ?_)
  refine ag (af (af (c7 ?_)));show wpAny _ _ (Builtin.SmallTypes.nextOf (.ref i2) >>= _) _ _ _;have Gh:SI pF i2 l2 k ys:=s2.at (λo e=>e₂.extBut _ _ (by first | exact nl (by lia) | exact ng (by lia)) (e₁.extBut _ _ (by first | exact nl (by lia) | exact ng (by lia)) e)) (λo e=>e₂.extBut _ _ (by first | exact nl (by lia) | exact ng (by lia)) (e₁.extBut _ _ (by first | exact nl (by lia) | exact ng (by lia)) e))
  refine af (SI.stop hh Gh hy λj7 e hs₃ he=>?_)
  exact hE j7 e (λc o c1 c2 c3 x=>hs₃ _ _ c3 (e₂.extBut _ _ c2 (e₁.extBut _ _ c1 x))) he
end
def ZS(h:Heap)(z TI TO i1 i2 l1 l2 B i:Nat)(xs ys:Array Value):Prop:=(i=0/\Zp h z TI TO i1 i2 l1 l2 .none 0 xs ys)\/(0<i/\∃f,Zq h z TI TO i1 i2 l1 l2 B f i xs ys)
noncomputable def j8(B i:Nat):Array Value:=((List.range i).map λj=>Value.ref (B+j)).toArray
theorem CS(B i:Nat):(j8 B i).push (.ref (B+i))=j8 B (i+1):=by
 unfold j8;rw[yF,bQ];simp
theorem r6(B i:Nat):(j8 B i).size=i:=by unfold j8;simp
section
variable {prog:Program} {w:World} {A:Around} {E:Value->Shared->Prop} {s:Shared} {z TI TO i1 i2 l1 l2 B:Nat} {i:Nat} {xs ys:Array Value}
theorem ZS.zip{h:Heap}(Z:ZS h z TI TO i1 i2 l1 l2 B i xs ys):∃o,h.get? z=some o/\o.cls=.type "zip":=by
 rcases Z with⟨_,Z⟩ | ⟨_,f,Z⟩
 ·exact⟨_,Z.hz,rfl⟩
 ·exact⟨_,Z.hz,rfl⟩
theorem ZS.at{h h':Heap}(Z:ZS h z TI TO i1 i2 l1 l2 B i xs ys)(kp:∀b o,b<=z->h.get? b=some o->h'.get? b=some o)(ka:∀o,h.get? B=some o->∃o',h'.get? B=some o'):ZS h' z TI TO i1 i2 l1 l2 B i xs ys:=by
 rcases Z with⟨e,⟨hz,hTI,⟨a,b,hTO⟩,s1,s2,⟨o1,o2,o3,o4⟩,q1,q2⟩⟩ | ⟨e,f,Z⟩
 ·exact .inl ⟨e,⟨kp _ _ (aq _) hz,kp _ _ (by lia) hTI,⟨a,b,kp _ _ (by lia) hTO⟩,s1.at (λo e=>kp _ o (by lia) e) (λo e=>kp _ o (by lia) e),s2.at (λo e=>kp _ o (by lia) e) (λo e=>kp _ o (by lia) e),⟨o1,o2,o3,o4⟩,q1,q2⟩⟩
 ·exact .inr ⟨e,f,Z.at kp ka⟩
theorem Kh{x y:Value}{Q:Option Value->Shared->Prop}(Z:ZS s.heap z TI TO i1 i2 l1 l2 B i xs ys)(hsz:s.heap.objs.size=B+i)(hx:xs[i]?=some x)(hy:ys[i]?=some y)
  (hQ:∀h',ZS h' z TI TO i1 i2 l1 l2 B (i+1) xs ys->IsPair h' (B+i) x y->h'.objs.size=B+(i+1)->(∀c o,c≠z->c≠TO->c≠i1->c≠i2->s.heap.get? c=some o->h'.get? c=some o)->Q (some (.ref (B+i))) {s with heap:=h'}) :
  wpAny (model prog w) A (pyNext (.ref z)) Q E s:=by
 obtain⟨oz,UU,WT⟩:=Z.zip;have hT:s.TypeIs (.ref z) "zip":=⟨_,UU,WT⟩;have WU:z<s.heap.objs.size:=az UU;unfold pyNext;rcases Z with⟨rfl,Z⟩ | ⟨hi,f,Z⟩
 ·refine af (jS (eX (name:=Str.ofString "__next__") hT fj (fg fj hT lN
   (Bn Z hx hy λh' Z' LP RV kp=>ag ?_) (lL _))))
  obtain⟨hz,hTI,_,s1,s2,⟨o1,o2,o3,o4⟩,q1,q2⟩:=Z';rw[hsz]at LP hz WU ⊢;refine(hQ h' (.inr ⟨Nat.succ_pos _,false,⟨hz,hTI,s1,s2,⟨_,LP⟩,⟨o1,o2,o3,o4,by lia⟩,q1,q2⟩⟩) LP (by lia) kp)
 ·refine af (jS (eX (name:=Str.ofString "__next__") hT fj (fg fj hT lN
   (Kg Z hx hy λh' Z' LP RV kp=>ag ?_) (lL _))))
  rw[hsz]at LP ⊢;exact(hQ h' (.inr ⟨Nat.succ_pos _,true,Z'⟩) LP (by lia) λc o c1 _ c3 c4 e=>kp c o c1 c3 c4 e)
theorem Ki{Q:Option Value->Shared->Prop}(hh:A.handled=none)(Z:ZS s.heap z TI TO i1 i2 l1 l2 B i xs ys)(wI:xs[i]?=none\/ys[i]?=none)
  (hQ:∀h',(∀c o,c≠z->c≠TO->c≠i1->c≠i2->s.heap.get? c=some o->h'.get? c=some o)->Q none {s with heap:=h'}) :
  wpAny (model prog w) A (pyNext (.ref z)) Q E s:=by
 obtain⟨oz,UU,WT⟩:=Z.zip;have hT:s.TypeIs (.ref z) "zip":=⟨_,UU,WT⟩;unfold pyNext;rcases Z with⟨rfl,Z⟩ | ⟨hi,f,Z⟩
 ·refine af (jS (eX (name:=Str.ofString "__next__") hT fj (fg fj hT lN (Gg hh Z wI λh' e kp ⟨o,ho,hcl⟩=>?_) (lL _))))
  exact af (tF (T:="StopIteration") (b:=true) ⟨o,ho,hcl⟩ tY (ag (hQ h' kp)))
 ·refine af (jS (eX (name:=Str.ofString "__next__") hT fj (fg fj hT lN (OH hh Z wI λh' e kp ⟨o,ho,hcl⟩=>?_) (lL _))))
  exact af (tF (T:="StopIteration") (b:=true) ⟨o,ho,hcl⟩ tY (ag (hQ h' λc o c1 _ c3 c4 e=>kp c o c1 c3 c4 e)))
end
section
variable {prog:Program} {w:World} {A:Around} {R:Result->Shared->Prop} {z TI TO i1 i2 l1 l2 S B n:Nat} {xs ys:Array Value}
def k0(h:Heap)(B i:Nat)(xs ys:Array Value):Prop:=∀j,j<i->∃x y,xs[j]?=some x/\ys[j]?=some y/\IsPair h (B+j) x y
theorem Kj(hh:A.handled=none)(hn:n=min xs.size ys.size)(YW:z<S)(YX:S<B)(ord:i1<z/\i2<z/\TO<z)(res:Value)(Qb:n<=sizeLine) :
  ∀(k i:Nat) (s:Shared) (c:Nat),n-i=k->i<=n->ZS s.heap z TI TO i1 i2 l1 l2 B i xs ys->s.heap.objs.size=B+i->k0 s.heap B i xs ys->s.heap.get? S=some {cls:=.type "list",dict:=none,data:=.seq (j8 B i) c,slots:=#[]} ->
  (∀h' c',(∀b o,b≠z->b≠TO->b≠i1->b≠i2->b≠S->s.heap.get? b=some o->h'.get? b=some o)->h'.get? S=some {cls:=.type "list",dict:=none,data:=.seq (j8 B n) c',slots:=#[]}->k0 h' B n xs ys->R (.ok (.ret res)) {s with heap:=h'}) ->
  codeAny (model prog w) A (.builtin "list.extend.loop" ⟨[.ref S,.ref z,res],[]⟩) R s:=by
 intro k;induction k with
 | zero =>
  intro i s c hk hi kr hsz hp hS hR;have Oi:i=n:=by lia
  subst Oi;refine iQ F.entry_extend_loop ?_;rw[jI tq _];show wpAny _ A.in1 (pyNext (.ref z) >>= _) _ _ s;refine af (Ki (by simp[hh]) kr ?_ λh' kp=>?_)
  ·rcases Nat.le_total xs.size ys.size with q | q
   ·exact .inl (jH (by lia))
   ·exact .inr (jH (by lia))
  ·refine ag (hR h' c (λb o c1 c2 c3 c4 _ e=>kp b o c1 c2 c3 c4 e) (kp S _ (by lia) (by lia) (by lia) (by lia) hS) λj hj=>?_)
   obtain⟨x,y,e1,e2,e3⟩:=hp j hj;exact⟨x,y,e1,e2,kp _ _ (by lia) (by lia) (by lia) (by lia) e3⟩
 | succ k ih =>
  intro i s c hk hi kr hsz hp hS hR;have wj:i<n:=by lia
  have hx:xs[i]?=some (xs[i]'(by lia)):=nW _
  have hy:ys[i]?=some (ys[i]'(by lia)):=nW _
  refine iQ F.entry_extend_loop ?_;rw[jI tq _];show wpAny _ A.in1 (pyNext (.ref z) >>= _) _ _ s;refine af (Kh kr hsz hx hy λh' F6 hpr WV kp=>?_)
  have xR:=kp S _ (by lia) (by lia) (by lia) (by lia) hS
  show wpAny _ A.in1 (updateSeq S (·.push (.ref (B+i))) >>= _) _ _ _;refine af ?_;have WW:=iJ (Obj.mapSeq (·.push (Value.ref (B+i)))) xR rfl;obtain⟨c1,WW⟩:∃c1,(h'.update S (Obj.mapSeq (·.push (Value.ref (B+i))))).get? S=some {cls:=.type "list",dict:=none,data:=.seq (j8 B (i+1)) c1,slots:=#[]}:=⟨_,by rw[<-CS];exact WW⟩
  have oth:∀b o,b≠S->h'.get? b=some o->(h'.update S (Obj.mapSeq (·.push (Value.ref (B+i))))).get? b=some o:=λb o hb e=>(iI _ _ (bJ hb)).trans e
  refine oj (s:={s with heap:=h'}) xR rfl (ag ⟨jR tq _,ih (i+1) _ c1 (by lia) wj (F6.at (λb o hb e=>oth b o (by lia) e) λo e=>⟨o,oth _ o (by lia) e⟩) ?_ (λj hj=>?_) ?_ λh2 c2 R6 WX DQ=>?_⟩)
   (by rw[r6];lia) (by show((j8 B i).push _).size<=sizeLine+1;rw[Array.size_push,r6];lia)
  ·show(h'.update S _).objs.size=_;rw[tK];exact WV
  ·by_cases hji:j=i
   ·subst hji;exact⟨_,_,hx,hy,oth _ _ (by lia) hpr⟩
   ·obtain⟨x,y,e1,e2,e3⟩:=hp j (by lia)
    exact⟨x,y,e1,e2,oth _ _ (by lia) (kp _ _ (by lia) (by lia) (by lia) (by lia) e3)⟩
  ·exact WW
  ·exact hR h2 c2 (λb o c1 c2 c3 c4 c5 e=>R6 b o c1 c2 c3 c4 c5 (oth b o c5 (kp b o c1 c2 c3 c4 e))) WX DQ
end
theorem zD:typeLookup (.type "zip") "__len__"=pure none:=by rw[tQ,tm];kernel_rfl
theorem wK:typeLookup (.type "zip") "__length_hint__"=pure none:=by rw[tQ,tm];kernel_rfl
section
variable {prog:Program} {w:World} {A:Around} {E:Value->Shared->Prop} {s:Shared} {R:Result->Shared->Prop} {z TI TO i1 i2 l1 l2 S B n:Nat} {xs ys:Array Value}
theorem CU{c:Nat}(hh:A.handled=none)(hn:n=min xs.size ys.size)(YW:z<S)(hB:s.heap.objs.size=B)(YX:S<B)(ord:i1<z/\i2<z/\TO<z)(res:Value)(Qb:n<=sizeLine)
  (Z:Zp s.heap z TI TO i1 i2 l1 l2 .none 0 xs ys) (hS:s.heap.get? S=some {cls:=.type "list",data:=.seq #[] c})
  (hR:∀h' c',(∀b o,b≠z->b≠TO->b≠i1->b≠i2->b≠S->s.heap.get? b=some o->h'.get? b=some o)->h'.get? S=some {cls:=.type "list",dict:=none,data:=.seq (j8 B n) c',slots:=#[]}->k0 h' B n xs ys->R (.ok (.ret res)) {s with heap:=h'}) :
  wpAny (model prog w) A.in1 (Builtin.List.listExtendWith (.ref S) (.ref z) res)
   (λiU s'=>match iU with | .done f=>R (.ok f) s' | .again c'=>c'.quiet=true/\codeAny (model prog w) A c' R s') (λe s'=>R (.error e) s') s:=by
 have hT:s.TypeIs (.ref z) "zip":=⟨_,Z.hz,rfl⟩;unfold Builtin.List.listExtendWith;refine af (jU hT ?_);have h1:Builtin.List.listSameRef (.ref S) (.ref z)=false:=by
  have:(S==z)=false:=by simp;lia
  exact this
 have h2:(Value.type "zip"==Value.type "list")=false:=by decide
 have h3:(Value.type "zip"==Value.type "tuple")=false:=by decide
 simp only[h1,h2,h3,Bool.or_false,cN,b6];refine af (yw Z.hz ?_);refine af (c7 ?_);unfold Builtin.List.listLengthHint;refine af (wpAny_specialOf hT zD ?_);show wpAny _ A.in1 (specialOf (Value.ref z) (Str.ofString "__length_hint__") >>= _) _ _ _;refine af (wpAny_specialOf hT wK ?_);refine ag ?_;show wpAny _ A.in1 (rule "list.extend.makes-room" >>= λ_=>Builtin.List.listTouch (.ref S) >>= λ_ =>
  again (.builtin "list.extend.loop" ⟨[.ref S,.ref z,res],[]⟩)) _ _ _
 refine af (iT ?_);refine af ?_;show wpAny _ A.in1 (updateSeq S (·.push .none) >>= λ_=>updateSeq S (·.pop)) _ _ _
 refine af (oj hS rfl ?_);have Bq:=iJ (Obj.mapSeq (·.push Value.none)) hS rfl;refine oj (hz:=by seq_fits) Bq rfl ?_
 have S3:=iJ (Obj.mapSeq (·.pop)) Bq rfl;have oth:∀b o,b≠S->s.heap.get? b=some o->((s.heap.update S (Obj.mapSeq (·.push Value.none))).update S (Obj.mapSeq (·.pop))).get? b=some o :=
  λb o hb e=>(iI _ _ (bJ hb)).trans ((iI _ _ (bJ hb)).trans e)
 have Z0:ZS s.heap z TI TO i1 i2 l1 l2 B 0 xs ys:=.inl ⟨rfl,Z⟩;refine ag ⟨jR tq _,Kj hh hn YW YX ord res Qb n 0 _ _ rfl (fK _) (Z0.at (λb o hb e=>oth b o (by lia) e) λo e=>?_) ?_ (λj hj=>absurd hj (Nat.not_lt_zero _)) S3 λh' c' kp xR hp=>?_⟩
 ·have q:=az e;rw[hB]at q;exact absurd q (dM _)
 ·show((s.heap.update S _).update S _).objs.size=_;rw[tK,tK];exact hB
 ·exact hR h' c' (λb o c1 c2 c3 c4 c5 e=>kp b o c1 c2 c3 c4 c5 (oth b o c5 e)) xR hp
theorem qG{Q:Value->Shared->Prop}(hh:A.handled=none)(hn:n=min xs.size ys.size)(Qb:n<=sizeLine)(ord:i1<z/\i2<z/\TO<z)(Z:Zp s.heap z TI TO i1 i2 l1 l2 .none 0 xs ys)
  (hQ:∀h' c',(∀b o,b≠z->b≠TO->b≠i1->b≠i2->s.heap.get? b=some o->h'.get? b=some o)->h'.get? s.heap.objs.size=some {cls:=.type "list",dict:=none,data:=.seq (j8 (s.heap.objs.size+1) n) c',slots:=#[]}->k0 h' (s.heap.objs.size+1) n xs ys->Q (.ref s.heap.objs.size) {s with heap:=h'}) :
  wpAny (model prog w) A (call (.type "list") [.ref z]) Q E s:=by
 refine callType_codes (Q₁:=λobj s₁=>obj=.ref s.heap.objs.size/\s₁={s with heap:=s.heap.push {cls:=.type "list",data:=.seq #[]}}) F.called_list (F.typeCall_list_1 _) F.entry_list_init
  (code_list_new _ ⟨rfl,rfl⟩) λobj s₁ fQ=>?_
 obtain⟨rfl,rfl⟩:=fQ;have WU:z<s.heap.objs.size:=az Z.hz;have hS:(s.heap.push {cls:=.type "list",data:=.seq #[]}).get? s.heap.objs.size=some {cls:=.type "list",data:=.seq #[]}:=bc _ rfl
 refine⟨⟨_,hS,rfl⟩,F.args_list_init_2 _ _,?_⟩;show wpAny _ _ (do let old <-Builtin.List.listItems (.ref s.heap.objs.size);Builtin.List.listUpdate (.ref s.heap.objs.size) (λ_=>#[]);letGo old.toList.reverse;Builtin.List.listExtendWith (.ref s.heap.objs.size) (.ref z) .none) _ _ _
 refine af ?_;unfold Builtin.List.listItems;refine af (fJ hS rfl (ag ?_));show wpAny _ _ (updateSeq s.heap.objs.size (λ_=>#[]) >>= λ_=>letGo (#[]:Array Value).toList.reverse >>= λ_=>Builtin.List.listExtendWith (.ref s.heap.objs.size) (.ref z) .none) _ _ _
 refine af (oj hS rfl ?_);have Bq:=iJ (Obj.mapSeq (λ_=>(#[]:Array Value))) hS rfl
 have oth:∀b o,b≠s.heap.objs.size->s.heap.get? b=some o->((s.heap.push {cls:=.type "list",data:=.seq #[]}).update s.heap.objs.size (Obj.mapSeq (λ_=>(#[]:Array Value)))).get? b=some o :=
  λb o hb e=>(iI _ _ (bJ hb)).trans (ax _ e)
 refine af (lV ?_);have Z1:ZS ((s.heap.push {cls:=.type "list",data:=.seq #[]}).update s.heap.objs.size (Obj.mapSeq (λ_=>(#[]:Array Value)))) z TI TO i1 i2 l1 l2 0 0 xs ys :=
  ZS.at (h:=s.heap) (.inl ⟨rfl,Z⟩) (λb o hb e=>oth b o (by lia) e) λo e=>⟨o,oth _ o (by lia) e⟩
 rcases Z1 with⟨_,Z1⟩ | ⟨h0,_⟩
 ·refine CU (A:=A.in1) (by simp[hh]) hn WU (B:=s.heap.objs.size+1) ?_ (lP _) ord .none Qb Z1 Bq λh' c' kp xR hp=>⟨rfl,?_⟩
  ·show((s.heap.push _).update _ _).objs.size=_;rw[tK,c6]
  ·exact hQ h' c' (λb o c1 c2 c3 c4 e=>kp b o c1 c2 c3 c4 (aO (az e)) (oth b o (aO (az e)) e)) xR hp
 ·exact absurd h0 (dM _)
end
theorem r9{vs:List V}{us:List Value}(r:Vals vs us):∀{i:Nat} {u:Value},us[i]?=some u->∃v,vs[i]?=some v/\RelV v u:=by
 induction r with
 | nil=>intro i u e;simp at e
 | @cons v w vs ws h t ih =>
  intro i u e;cases i with
  | zero=>simp at e;subst e;exact⟨v,rfl,h⟩
  | succ i=>obtain⟨x,h1,h2⟩:=ih (i:=i) (u:=u) (by simpa using e);exact⟨x,by simpa using h1,h2⟩
theorem CV(B n:Nat):Vals ((List.range n).map λj=>V.ref (B+j)) (j8 B n).toList:=by
 unfold j8;induction n with
 | zero=>exact .nil
 | succ n ih =>
  rw[yF,bQ,bQ];exact ih.append (.cons rfl .nil)
theorem wL{X:Cx}{ae:List (Addr×Obj)}{σ:St}{H1 aa:Hp}{ab F1:Fz}{st:bX}{s:Shared}{B m:Nat}{xs ys:List Value}{vs ws:List V}{ps qs:List PV}(b0:Nat)(Yw:b0<=B)(fo:∀b,b0<=b->H1 b=none/\oK X ae H1 b)(hsz:X.s₀.heap.objs.size<=b0)(I:Inv X ae σ H1 s)(R:Rep X.K aa ab F1 st σ H1)(r1:Vals vs xs)(r2:Vals ws ys)(b1:ao X.K F1 ps vs)(b2:ao X.K F1 qs ws)
  (hp:k0 s.heap B m xs.toArray ys.toArray):∀i,i<=m->∃Hi Fi,Inv X ae σ Hi s/\Rep X.K aa ab Fi st σ Hi/\Gr F1 Fi/\ao X.K Fi ((List.zipWith ef ps qs).take i) ((List.range i).map λj=>V.ref (B+j))/\∀b,b0<=b->(b<B\/B+i<=b)->Hi b=none:=by
 intro i;induction i with
 | zero=>intro _;exact⟨H1,F1,I,R,Gr.refl _,by simp only[List.take_zero,List.range_zero,bI];exact .nil,λb hb _=>(fo b hb).1⟩
 | succ i ih =>
  intro hi;obtain⟨Hi,Fi,Ii,Ri,si,bi,ni⟩:=ih (by lia)
  obtain⟨x,y,e1,e2,e3⟩:=hp i hi;obtain⟨v,ev,rv⟩:∃v,vs[i]?=some v/\RelV v x:=by
   exact r9 r1 (by simpa using e1)
  obtain⟨w,ew,Jd⟩:∃w,ws[i]?=some w/\RelV w y:=by
   exact r9 r2 (by simpa using e2)
  obtain⟨p,ep⟩:∃p,ps[i]?=some p:=⟨_,aR (by have:=(b9.mp ev).1;rw[b1.length];exact this)⟩
  obtain⟨v',ev',bp⟩:=b1.get ep;cases bG (ev.symm.trans ev');obtain⟨q,YY⟩:∃q,qs[i]?=some q:=⟨_,aR (by have:=(b9.mp ew).1;rw[b2.length];exact this)⟩
  obtain⟨w',ew',bq⟩:=b2.get YY;cases bG (ew.symm.trans ew');have hn:Hi (B+i)=none:=ni (B+i) (by lia) (.inr (aq _))
  obtain⟨_,f2,f3,f4,f5,f6⟩:=(fo (B+i) (by lia)).2
  have I2:=Inv.adopt (D:=B+i) (o:=.aj [v,w]) Ii hn (aM hsz (by lia)) f2 f5 f6 ⟨(by show 2<=sizeLine;decide),[x,y],.cons rv (.cons Jd .nil),⟨_,e3,rfl,⟨0,rfl⟩,rfl⟩⟩
  obtain⟨R2,s2⟩:=Ri.laid (.aj [v,w]) hn;refine⟨_,_,I2,R2,si.trans s2,?_,λb hb hc=>?_⟩
  ·have hz:(List.zipWith ef ps qs)[i]?=some (ef p q):=by rw[List.getElem?_zipWith,ep,YY]
   rw[List.take_succ,hz,yF,bQ];exact(bi.mono s2).append (.cons (bt.mpr ⟨B+i,[v,w],rfl,fx.of ar,.cons (bp.mono (si.trans s2)) (.cons (bq.mono (si.trans s2)) .nil)⟩) .nil)
  ·rw[aH (show b≠B+i from λz=>by lia)]
   exact ni b hb (by lia)
def WY(p q:PV):Option (List PV):=(nc p).bind λps=>(nc q).bind λqs=>if(List.zipWith ef ps qs).length<=gV then some (List.zipWith ef ps qs)else none
def OI(m:Nat)(fa fb:Gx PV):Gx PV:=bnd fa λp=>bnd fb λq=>bnd (fD (WY p q)) λl=>kY m l
section
variable {X:Cx} {aa:Hp} {ab:Fz} {a b:Expr} {fa fb:Gx PV} {pos p ph zp:Pos} {m:Nat}
def OJ(hh:X.A.handled=none)(Ov:Gl X "list")(Ow:X.mg "list"=none)(hg:Gl X "zip")(hm:X.mg "zip"=none)(ha:PE X a (tE X aa ab fa))(hb:PE X b (tE X aa ab fb))(hs:starEach [a,b] X.env=(false,eval a X.env)::starEach [b] X.env)(xO:starEach [b] X.env=[(false,eval b X.env)]) :
  PE X (.Call (.Name "list" p) [.Call (.Name "zip" zp) [a,b] [] ph] [] pos) (tE X aa ab (OI m fa fb)):=by
 rintro ae s σ H Q I ⟨F,st,Rp,h⟩
 refine iM (ld_blt I Ov Ow (ic .list) ?_ (by decide) (by decide))
 refine ej (pj rfl ?_) rfl rfl;have hA:=gg ha (gg hb oP xO) hs ph ae s σ H (λvs H'=>∃F' bK x y pa pb,vs=[x,y]/\Rep X.K aa ab F' bK σ H'/\aZ X.K F' pa x/\aZ X.K F' pb y/\Tx X aa ab (aZ X.K) F' bK (bnd (fD (WY pa pb)) λl=>kY m l) σ Q) I
  ⟨F,st,Rp,h.bnd λpa v F1 aI H1 R1 g1 b1 h1=>⟨F1,aI,R1,h1.bnd λpb w F2 dF H2 R2 g2 b2 h2=>⟨F2,dF,v,w,pa,pb,rfl,R2,b1.mono g2,b2,h2⟩⟩⟩
 refine Call_ (ld_blt I hg hm boot_zip (ej (thn hA λus s1 z9=>?_) hs (by rw[xO];rfl)))
 obtain⟨vs,H1,I1,r1,F1,aI,x,y,pa,pb,ev,R1,b1,b2,hT⟩:=z9;subst ev;obtain⟨l,e,hT⟩:=At.fD (At.bnd hT);obtain⟨ps,f3,e⟩:=aF e;obtain⟨qs,f4,e⟩:=aF e;obtain⟨zb,rfl⟩:=aw e;obtain⟨u1,u2,rfl,NV,SR⟩:=AH r1;obtain⟨c1,l1,YL,rfl,q1,P9,k1⟩:=i6 f3 b1;obtain⟨c2,l2,vs2,rfl,q2,UW,k2⟩:=i6 f4 b2;cases NV;cases SR;obtain⟨ak,v1,JU⟩:=(k1 H1 R1.sub).get I1;obtain⟨cM,v2,Qc⟩:=(k2 H1 R1.sub).get I1;have lt:∀{l:Addr} {xs:Array Value} {c:String},gN s1.heap l xs c->l<s1.heap.objs.size:=λh=>by
  rcases h with⟨_,⟨o,e,_⟩⟩ | ⟨_,⟨o,e,_⟩⟩
  ·exact az e
  ·exact az e
 have R8:=lt JU;have Ly:=lt Qc;refine callType_new PySem.F.called_zip (by decide) (PySem.F.typeCall_zip_2 _ _) (PySem.F.newCall_zip_2 _ _) (λobj=>DX obj _ _) PySem.F.entry_zip_new (wJ l1 l2 ak.toArray cM.toArray (jw c1) (jw c2)) ⟨JU,Qc,λh1 h2 h3 h4 e1 e2 e3 e4=>?_⟩
 have z1:h1.objs.size=s1.heap.objs.size+1:=by rw[e1];exact c6 ..
 have z2:h2.objs.size=s1.heap.objs.size+2:=by rw[e2,c6,z1]
 have z3:h3.objs.size=s1.heap.objs.size+3:=by rw[e3,c6,z2]
 have z4:h4.objs.size=s1.heap.objs.size+4:=by rw[e4,c6,z3]
 generalize e5:h4.push {cls:=.type "zip",data:=.fields #[.none,.bool false,.bool false,.ref h2.objs.size,.ref h3.objs.size]}=h5
 have z5:h5.objs.size=s1.heap.objs.size+5:=by rw[<-e5,c6,z4]
 have p1:∀b o,s1.heap.get? b=some o->h1.get? b=some o:=λb o e=>by rw[e1];exact ax _ e
 have p2:∀b o,h1.get? b=some o->h2.get? b=some o:=λb o e=>by rw[e2];exact ax _ e
 have p3:∀b o,h2.get? b=some o->h3.get? b=some o:=λb o e=>by rw[e3];exact ax _ e
 have p4:∀b o,h3.get? b=some o->h4.get? b=some o:=λb o e=>by rw[e4];exact ax _ e
 have p5:∀b o,h4.get? b=some o->h5.get? b=some o:=λb o e=>by rw[<-e5];exact ax _ e
 have pp:∀b o,s1.heap.get? b=some o->h5.get? b=some o:=λb o e=>p5 _ _ (p4 _ _ (p3 _ _ (p2 _ _ (p1 _ _ e))))
 have g5:IsZip h5 h4.objs.size h2.objs.size h3.objs.size .none:=by rw[<-e5];exact bc _ rfl
 have g4:IsPair h5 h3.objs.size .none .none:=p5 _ _ (by rw[e4];exact bc _ rfl)
 have g3:IsPair h5 h2.objs.size (.ref s1.heap.objs.size) (.ref h1.objs.size):=p5 _ _ (p4 _ _ (by rw[e3];exact bc _ rfl))
 have g2:h5.get? h1.objs.size=some {cls:=.type (jw c2),data:=.fields #[.ref l2,.int 0 0]}:=p5 _ _ (p4 _ _ (p3 _ _ (by rw[e2];exact bc _ rfl)))
 have g1:h5.get? s1.heap.objs.size=some {cls:=.type (jw c1),data:=.fields #[.ref l1,.int 0 0]}:=p5 _ _ (p4 _ _ (p3 _ _ (p2 _ _ (by rw[e1];exact bc _ rfl))))
 have YZ:∀{c:Bool} {it l:Addr} {xs:Array Value},h5.get? it=some {cls:=.type (jw c),data:=.fields #[.ref l,.int 0 0]}->gN s1.heap l xs (jw c)->SI h5 it l 0 xs:=λ{c it l xs} e k=>by
  cases c with
  | true =>
   rcases k with⟨_,⟨o,eo,r⟩⟩ | ⟨k,_⟩
   ·exact .inl ⟨⟨_,e,rfl,rfl⟩,⟨o,pp _ _ eo,r⟩⟩
   ·exact absurd k (by decide)
  | false =>
   rcases k with⟨k,_⟩ | ⟨_,⟨o,eo,r⟩⟩
   ·exact absurd k (by decide)
   ·exact .inr ⟨⟨_,e,rfl,rfl⟩,⟨o,pp _ _ eo,r⟩⟩
 have Z:Zp h5 h4.objs.size h2.objs.size h3.objs.size s1.heap.objs.size h1.objs.size l1 l2 .none 0 ak.toArray cM.toArray:=⟨g5,g3,⟨_,_,g4⟩,YZ g1 JU,YZ g2 Qc,⟨by lia,by lia,by lia,by lia⟩,R8,Ly⟩
 refine⟨⟨_,g5,rfl⟩,?_⟩;have aaW:=P9.length;have aaX:=UW.length;have vl1:=v1.length;have vl2:=v2.length;have WZ:min ak.toArray.size cM.toArray.size=(List.zipWith ef ps qs).length:=by rw[List.length_zipWith,bU,bU];lia
 refine qG (s:={s1 with heap:=h5,toks:=s1.toks}) hh WZ.symm (dh zb) ⟨by lia,by lia,by lia⟩ Z λh' c' kp hS hp=>?_
 have hS:h'.get? h5.objs.size=some {cls:=.type "list",dict:=none,data:=.seq (j8 (h5.objs.size+1) (List.zipWith ef ps qs).length) c',slots:=#[]}:=hS
 have I2:Inv X ae σ H1 {s1 with heap:=h',toks:=s1.toks}:=I1.kept λb o e=>by
  have hb:@LT.lt Nat _ b s1.heap.objs.size:=az e;exact kp b o (show @Ne Nat _ _ by lia) (show @Ne Nat _ _ by lia) (show @Ne Nat _ _ by lia) (show @Ne Nat _ _ by lia) (pp _ _ e)
 have fo:∀b,s1.heap.objs.size<=b->H1 b=none/\oK X ae H1 b:=λb hb=>⟨I1.hok.fresh hb,I1.ug hb (I1.hok.fresh hb)⟩
 obtain⟨Hn,Fn,In,Rn,sn,bn,nn⟩:=wL s1.heap.objs.size (B:=h5.objs.size+1) (by lia) fo I1.sz I2 R1 v1 v2 P9 UW hp _ (aq _)
 rw[tD]at bn;have Y0:Hn h5.objs.size=none:=nn _ (by lia) (.inl (by lia))
 obtain⟨_,f2,f3,f4',f5,f6⟩:=(fo h5.objs.size (by lia)).2
 have I3:=Inv.adopt (D:=h5.objs.size) (o:=.lst ((List.range (List.zipWith ef ps qs).length).map λj=>V.ref (h5.objs.size+1+j))) In Y0 (aM I1.sz (by lia)) f2 f5 f6
  ⟨by simp only[ah,eZ];exact dh zb,(j8 (h5.objs.size+1) (List.zipWith ef ps qs).length).toList,c',CV _ _,by simpa using hS⟩
 exact⟨.ref h5.objs.size,_,I3,rfl,Tx.kY (Tx.mono hT sn λ_ _ z=>z) Rn Y0 bn⟩
end
section
variable {X:Cx}
theorem uJ{α:Type}(xs:List α):∀n:Nat,(List.replicate n xs).flatten.length=n*xs.length
 | 0=>by simp
 | n+1=>by rw[gZ,jN,cz,uJ xs n,Nat.succ_mul,Nat.add_comm]
theorem uK(ak:List Value):∀(m:Nat) (acc:List Value),List.foldl (λx1 x2=>x1++x2) acc.toArray (List.replicate m ak.toArray)=(acc++(List.replicate m ak).flatten).toArray
 | 0,acc=>by simp
 | m+1,acc=>by
  rw[gZ,oy,show acc.toArray++ak.toArray=(acc++ak).toArray by simp,uK ak m,gZ,jN,og]
theorem pK{xs:List V}{ak:List Value}(r:Vals xs ak):∀n:Nat,Vals (List.replicate n xs).flatten (List.replicate n ak).flatten
 | 0=>.nil
 | n+1=>by rw[gZ,gZ,jN,jN];exact r.append (pK r n)
theorem uL{K:W.Frag}{F:Fz}{ps:List PV}{vs:List V}(r:ao K F ps vs):∀n:Nat,ao K F (List.replicate n ps).flatten (List.replicate n vs).flatten
 | 0=>.nil
 | n+1=>by rw[gZ,gZ,jN,jN];exact r.append (uL r n)
def S4(K:W.Frag):R2:=λx y H Q=>∃l k xs,x=.ref l/\y=.int k/\gE K H l xs /\ -(2^63)<=k/\k<2^63/\xs.length*k.toNat<=sizeLine /\
 ∀p,H p=none->Q (.ref p) (cj H p (.lst (List.replicate k.toNat xs).flatten))
theorem Kk:OpR X (binaryOp .Mult) (S4 X.K):=by
 intro ae s σ H x y v u Q I rx ry h;obtain⟨l,k,xs,rfl,rfl,hH,h1,h2,hz,q⟩:=h;cases rx;obtain⟨t,rfl⟩:=ry;obtain⟨ak,n,r,e,z⟩:=I.kM hH;have hl:=r.length;have dr:ak.toArray.size*k.toNat<=sizeLine:=by rw[bU,<-hl];exact hz
 have W0:¬ak.toArray.size*k.toNat>(2^63-1)/8:=by
  have:(sizeLine:Nat)<=(2^63-1)/8:=by decide
  lia
 have RN:¬(!Builtin.List.listFitsIndex k)=true:=by
  rw[fitsIndex_both h1 h2];exact dJ
 have S5:¬Builtin.List.listTooLong (ak.toArray.size*k.toNat)=true:=by
  rw[vM dr];exact dJ
 have pz:List.foldl (λx1 x2=>x1++x2) #[] (List.replicate (if ak.toArray.isEmpty=true then 0 else k.toNat) ak.toArray)=(List.replicate k.toNat ak).flatten.toArray:=by
  have f0:∀m:Nat,List.foldl (λx1 x2=>x1++x2) #[] (List.replicate m ak.toArray)=(List.replicate m ak).flatten.toArray:=λm=>by
   have:=uK ak m [];rw[et]at this;exact this
  rw[f0];cases ak with
  | nil=>simp
  | cons a r'=>rw[if_neg (by simp)]
 refine wpAny_binaryOp_repeat_ref (T:="list") (U:="int") (by decide) ⟨_,e,rfl⟩ (λs'=>oA s' k t) noFill_list_mul F.fills_int_mul F.slot_int_rmul repeat_list F.slot_int_index.lookup
  (dN F.slot_int_rmul (oA s k t) F.entry_int_rmul (F.args_int_rmul_2 _ _) (int___rmul___int_list k t l ak.toArray n)
   ⟨e,rfl,⟨_,e,rfl⟩,dN F.slot_list_mul ⟨_,e,rfl⟩ F.entry_list_mul (F.args_list_mul_2 _ _) (AutoListH.list___mul___list_int_3 l ak.toArray n k t RN W0 S5) ⟨e,?_⟩⟩)
 rw[pz];exact⟨.ref _,_,I.M8 (t':=s.toks) (pK r k.toNat) (by rw[uJ,Nat.mul_comm];exact hz),rfl,q _ I.fresh⟩
theorem CW:fillsNumberSlot (.type "tuple") "mul"=pure false:=PySem.fillsNumberSlot_seq (id:="tuple.__mul__") (r:=some (.builtin "tuple.__rmul__")) F.slot_tuple_mul.lookup (by decide +kernel) F.slot_tuple_rmul.lookup (by decide +kernel)
theorem OK:seqRepeat? (.type "tuple")=pure (some (.builtin "tuple.__mul__")):=by
  unfold seqRepeat?;rw[PySem.seqSlot_of (T:="tuple") (name:="__mul__") (id:="tuple.__mul__") F.slot_tuple_mul.lookup (by decide +kernel),PySem.seqSlot_of (T:="tuple") (name:="__rmul__") (id:="tuple.__rmul__") F.slot_tuple_rmul.lookup (by decide +kernel)]
  rfl
theorem Kl(a:Int)(t:Tok)(l:Addr)(items:Array Value)(n:Nat)(J7:Option Addr)(sl:Array (Option Value)) :
    Meets (Builtin.«int.__rmul__» ⟨[.int a t,.ref l],[]⟩) (λ_ R s=>s.heap.get? l=some {cls:=.type "tuple",dict:=J7,data:=.seq items n,slots:=sl}/\R (.ok (.ret Value.notImplemented)) s) :=
  .of_wp λprog w A R s h=>by
    obtain⟨hp,g,d,tk,os⟩:=s;obtain⟨hl,h⟩:=h
    wp_walk
    exact⟨_,rfl,h⟩
theorem OL(l:Addr)(items:Array Value)(n:Nat)(u:Tok)(J7:Option Addr)(sl:Array (Option Value)) :
    Meets (Builtin.«tuple.__mul__» ⟨[.ref l,.int 1 u],[]⟩) (λ_ R s=>s.heap.get? l=some {cls:=.type "tuple",dict:=J7,data:=.seq items n,slots:=sl}/\R (.ok (.ret (.ref l))) s) :=
  .of_wp λprog w A R s h=>by
    obtain⟨hp,g,d,tk,os⟩:=s;obtain⟨hl,h⟩:=h
    wp_walk
    exact⟨_,rfl,h⟩
theorem Km(l:Addr)(items:Array Value)(n:Nat)(x:Int)(u:Tok)(J7:Option Addr)(sl:Array (Option Value))(h2:2<=x)(h3:x<=1000)(ne:items.isEmpty=false)(hz:items.size<=1000) :
    Meets (Builtin.«tuple.__mul__» ⟨[.ref l,.int x u],[]⟩) (λ_ R s=>s.heap.get? l=some {cls:=.type "tuple",dict:=J7,data:=.seq items n,slots:=sl}/\R (.ok (.ret (.ref s.heap.objs.size))) {s with heap:=s.heap.push {cls:=.type "tuple",data:=.seq (List.foldl (λx1 x2=>x1++x2) #[] (List.replicate x.toNat items))}}) :=
  .of_wp λprog w A R s h=>by
    obtain⟨hp,g,d,tk,os⟩:=s;obtain⟨hl,h⟩:=h;have hx:(items.size:Int)*x<=1000*1000:=by
      have h0:(0:Int)<=items.size:=Int.natCast_nonneg _;have h1:(items.size:Int)<=1000:=by lia
      exact Int.mul_le_mul h1 h3 (by lia) (by lia)
    have hsz:(List.foldl (λx1 x2=>x1++x2) #[] (List.replicate x.toNat items)).size<=sizeLine:=by
      rw[AutoListH.size_joined,jV];have h4:x.toNat*items.size<=1000*1000:=tZ (by lia) hz
      simp
      lia
    wp_walk
    refine ot (bz ?_) ?_
    · simp
      lia
    wp_walk
    refine ot (bz ?_) ?_
    · rw[ne]
      simp
      lia
    wp_walk
    refine ot (bz ?_) ?_
    · rw[ne]
      simp
      lia
    wp_walk
    refine ot (bz ?_) ?_
    · lia
    wp_walk
    refine ot (bz ?_) ?_
    · unfold Builtin.Tuple.tupleTooMany
      rw[jV];simp
      lia
    wp_walk
    exact⟨_,rfl,h⟩
theorem Ko(l:Addr)(items:Array Value)(n:Nat)(u:Tok)(J7:Option Addr)(sl:Array (Option Value))(ne:items.isEmpty=false) :
  Meets (Builtin.«tuple.__mul__» ⟨[.ref l,.int 0 u],[]⟩) (λ_ R s=>s.heap.get? l=some {cls:=.type "tuple",dict:=J7,data:=.seq items n,slots:=sl}/\R (.ok (.ret (.ref s.heap.objs.size))) {s with heap:=s.heap.push {cls:=.type "tuple",data:=.seq #[]}}) :=
 .of_wp λprog w A R s h=>by
  obtain⟨hp,g,d,tk,os⟩:=s;obtain⟨hl,h⟩:=h
  wp_walk
  exact⟨_,rfl,h⟩
theorem OM{xs:List PV}{j:Int}(h1:0<=j)(h2:j<=1000)(h3:1<=xs.length)(h4:xs.length<=100){ae:List (Addr×Obj)}{s:Shared}{σ τ:St}{H aa:Hp}{ab F:Fz}{st:bX}{x y:V}{v u:Value}{Q:V->Hp->Prop}(I:Inv X ae σ H s)(rx:RelV x v)(ry:RelV y u)(R:Rep X.K aa ab F st τ H)(ba:aZ X.K F (.aj xs) x)(bb:aZ X.K F (.int j) y)
    (k:∀v' H' F',Rep X.K aa ab F' st τ H'->Gr F F'->aZ X.K F' (.aj (List.replicate j.toNat xs).flatten) v'->Q v' H'):wpAny (model X.prog X.w) X.A (binaryOp .Mult v u) (EP X ae σ Q) X.xe s:=by
  obtain⟨a,vs,rfl,ha,eR⟩:=bt.mp ba;rw[au.mp bb]at ry;cases rx;obtain⟨t,rfl⟩:=ry;obtain⟨ak,r,pl,_⟩:=I.tuple (aT R.sub ha);obtain⟨⟨cls,dd,data,sl⟩,e,hc,n,hd⟩:=id pl;simp only at hc hd;subst hc hd;have hl:=r.length;have hxl:=eR.length;refine wpAny_binaryOp_repeat_ref (T:="tuple") (U:="int") (by decide) ⟨_,e,rfl⟩ (λs'=>oA s' j t) CW PySem.F.fills_int_mul PySem.F.slot_int_rmul OK PySem.F.slot_int_index.lookup
    (dN PySem.F.slot_int_rmul (oA s j t) PySem.F.entry_int_rmul (PySem.F.args_int_rmul_2 _ _) (Kl j t a ak.toArray n dd sl) ⟨e,rfl,⟨_,e,rfl⟩,?_⟩)
  have nt:ak.toArray.isEmpty=false:=by
    cases ak with
    | nil=>rw[tP]at hl;lia
    | cons _ _=>simp
  by_cases W2:j=0
  · subst W2
    refine dN yf ⟨_,e,rfl⟩ ya (xY _ _) (Ko a ak.toArray n t dd sl nt) ⟨e,?_⟩;obtain⟨R2,s2⟩:=R.laid (.aj []) I.fresh;exact⟨.ref s.heap.objs.size,_,I.laid (t':=s.toks) (o:=.aj []) (λb ob q=>ax _ q) (aq _) ⟨fK _,[],.nil,mV.new _ _⟩,rfl,k _ _ _ R2 s2 (bt.mpr ⟨_,_,rfl,fx.of ar,.nil⟩)⟩
  by_cases hj:j=1
  · subst hj
    refine dN yf ⟨_,e,rfl⟩ ya (xY _ _) (OL a ak.toArray n t dd sl) ⟨e,?_⟩;refine⟨.ref a,H,I,rfl,k _ H F R (Gr.refl F) ?_⟩;simpa using ba
  · refine dN yf ⟨_,e,rfl⟩ ya (xY _ _) (Km a ak.toArray n j t dd sl (by lia) h2 nt (by rw[bU];lia)) ⟨e,?_⟩
    have pz:List.foldl (λx1 x2=>x1++x2) #[] (List.replicate j.toNat ak.toArray)=(List.replicate j.toNat ak).flatten.toArray:=by
      have:=uK ak j.toNat [];rw[et]at this;exact this
    rw[pz];obtain⟨R2,s2⟩:=R.laid (.aj (List.replicate j.toNat vs).flatten) I.fresh;have dr:(List.replicate j.toNat vs).flatten.length<=sizeLine:=by
      rw[uJ,jV];have:j.toNat*vs.length<=1000*100:=tZ (by lia) (by lia)
      lia
    exact⟨.ref s.heap.objs.size,_,I.laid (t':=s.toks) (o:=.aj (List.replicate j.toNat vs).flatten) (λb ob q=>ax _ q) (aq _) ⟨dr,_,pK r j.toNat,mV.new _ _⟩,rfl,k _ _ _ R2 s2 (bt.mpr ⟨_,_,rfl,fx.of ar,(uL eR j.toNat).mono s2⟩)⟩
def ON{x':Str}{j:Int}(h1:2<=j)(h2:j<=100)(h3:1<=x'.length)(h4:x'.length<=100){ae:List (Addr×Obj)}{s:Shared}{σ τ:St}{H aa:Hp}{ab F:Fz}{st:bX}{x y:V}{v u:Value}{Q:V->Hp->Prop}(I:Inv X ae σ H s)(rx:RelV x v)(ry:RelV y u)(R:Rep X.K aa ab F st τ H)(ba:aZ X.K F (.str x') x)(bb:aZ X.K F (.int j) y)
 (k:∀v' H' F',Rep X.K aa ab F' st τ H'->Gr F F'->aZ X.K F' (.str (Txt.mul x' j)) v'->Q v' H'):wpAny (model X.prog X.w) X.A (binaryOp .Mult v u) (EP X ae σ Q) X.xe s:=by
 rw[au.mp bb]at ry;rw[bj.mp ba]at rx;obtain⟨t,rfl⟩:=rx;obtain⟨t',rfl⟩:=ry;refine SB.mul ⟨by simp;lia,λ_ _=>?_,λ_ _=>?_⟩ λt' m=>⟨.str _,H,I.kept (t':=m) (λ_ _ e=>e),⟨t',rfl⟩,k _ H F R (Gr.refl F) (bj.mpr rfl)⟩
 ·have:100<=(2^63-1:Int)/j:=by
   rw[Int.le_ediv_iff_mul_le (by lia)]
   lia
  lia
 ·unfold Builtin.Str.tooLong;have:x'.length*j.toNat<=100*100:=tZ h4 (by lia)
  exact bz (Nat.not_lt.mpr (aM this (by decide)))
def W3(h:List ai)(p:PV)(j:Int):Option (List PV):=(ma h p).bind λxs=>if(-1000<=j/\j<=1000/\xs.length<=100)then some (List.replicate j.toNat xs).flatten else none
def jy:G2:=λh p q=>match p,q with
 | .int i,.int j=>if((-qB<i/\i<qB)\/(-qB<j/\j<qB))then some (.int (i*j))else none
 | .nd .aj xs,.int j=>if(0<=j/\j<=1000/\1<=xs.length/\xs.length<=100)then some (.aj (List.replicate j.toNat xs).flatten)else none
 | .str x,.int j=>if(2<=j/\j<=100/\1<=x.length/\x.length<=100)then some (.str (Txt.mul x j))else none
 | p,.int j=>(W3 h p j).map .lst
 | _,_=>none
theorem OO{xs:List PV}{vs:List V}{F:Fz}{j:Int}(h:-1000<=j/\j<=1000/\xs.length<=100)(b:ao X.K F xs vs):-(2^63)<=j/\j<2^63/\vs.length*j.toNat<=sizeLine:=by
 refine⟨by lia,by lia,?_⟩
 have:=b.length;rw[jV];have:vs.length*j.toNat<=100*1000:=tZ (by lia) (by lia)
 lia
theorem Gi:qr X (binaryOp .Mult) jy:=by
 intro ae s σ H x y v u Q I rx ry ⟨aa,ab,F,st,τ,pa,pb,p,e,R,ba,bb,k⟩;unfold jy at e;split at e
 ·rename_i i j;obtain⟨hc,rfl⟩:=aw e;exact AV (op:=.Mult) (g:=Nr) rfl ae s σ H x y v u Q I rx ry ⟨aa,ab,F,st,τ,.int i,.int j,.int (i*j),(show(if decide ((-qB<i/\i<qB)\/(-qB<j/\j<qB))=true then some (PV.int (i*j))else none)=_ from if_pos (bf hc)),R,ba,bb,k⟩
 ·obtain⟨⟨h1,h2,h3,h4⟩,rfl⟩:=aw e;exact OM h1 h2 h3 h4 I rx ry R ba bb k
 ·obtain⟨⟨h1,h2,h3,h4⟩,rfl⟩:=aw e;exact ON h1 h2 h3 h4 I rx ry R ba bb k
 ·obtain⟨qs,e1,rfl⟩:=aL e;obtain⟨xs,e2,e1⟩:=aF e1;obtain⟨hc,rfl⟩:=aw e1;obtain⟨a,vs,rfl,ha,eR⟩:=R.at (du e2) ba;obtain⟨c1,c2,c3⟩:=OO hc eR;refine Kk ae s σ H _ y v u Q I rx ry ⟨a,_,vs,rfl,au.mp bb,ha,c1,c2,c3,λp hp=>?_⟩
  obtain⟨R2,s2⟩:=R.laid (.lst (List.replicate _ vs).flatten) hp;exact k _ _ _ R2 s2 (cP.mpr ⟨p,_,rfl,gE.of ar,(uL eR _).mono s2⟩)
 ·cases e
def Kp(op:Operator):Option G2:=match op with
 | .Mult=>some jy
 | op=>Nu op
theorem Gj{op:Operator}{g:G2}(h:Kp op=some g):qr X (binaryOp op) g:=by
 cases op<;>first | (cases h;exact Gi) | exact AV h
end
def Y1(K:W.Frag)(c1 c2:Bool)(l1 l2:Addr):It where
 go:=λi H=>∃vs ws v w,qw K H c1 l1 vs/\qw K H c2 l2 ws/\vs[i]?=some v/\ws[i]?=some w
 yld:=λi H x H'=>∃T v w,H T=none/\x=.ref T/\H'=cj H T (.aj [v,w])/\∀vs ws,qw K H c1 l1 vs->qw K H c2 l2 ws->vs[i]?=some v/\ws[i]?=some w
 stop:=λi H=>∃vs ws,qw K H c1 l1 vs/\qw K H c2 l2 ws/\(vs.length<=i\/ws.length<=i)
def zTn(z TI TO i1 i2 l1 l2:Nat)(c1 c2:Bool)(i:Nat)(h:Heap):Prop:=IsZip h z TI TO .none/\IsPair h TI (.ref i1) (.ref i2)/\(∃a b,IsPair h TO a b)/\DP h c1 i1 l1 i/\DP h c2 i2 l2 i
theorem Gk{P:Program}{w:World}{K:W.Frag}{elts:List Expr}{x1:Nat}{B8:Pos}{z TI TO i1 i2 l1 l2:Nat}{c1 c2:Bool}(ord:i1<i2/\i2<TI/\TI<TO/\TO<z)(o1:l1<i1)(o2:l2<i1) :
  Turn P w K (.Tuple elts x1 B8) (Y1 K c1 c2 l1 l2) [z,TI,TO,i1,i2] z (zTn z TI TO i1 i2 l1 l2 c1 c2) where
 mem:=cy
 obj:=by
  rintro i h ⟨a1,a2,⟨_,_,a3⟩,a4,a5⟩ b hb
  simp only[bh,cY,c8]at hb;rcases hb with rfl | rfl | rfl | rfl | rfl
  ·exact⟨_,a1,λv=>by simp⟩
  ·exact⟨_,a2,λv=>by simp⟩
  ·exact⟨_,a3,λv=>by simp⟩
  ·exact a4.obj
  ·exact a5.obj
 keep:=λi h h' ⟨a1,a2,⟨p,q,a3⟩,a4,a5⟩ k=>⟨k z (by simp) _ a1,k TI (by simp) _ a2,⟨p,q,k TO (by simp) _ a3⟩,a4.at λo e=>k i1 (by simp) o e,a5.at λo e=>k i2 (by simp) o e⟩
 item:=by
  rintro X hP hw hK hc i ae s σ H E I hf ⟨a1,a2,a3,a4,a5⟩ ⟨vs,ws,v,w',hv,UX,ev,ew⟩
  subst hP hw hK;obtain⟨ak,r1,k1⟩:=hv.get I;obtain⟨cM,r2,k2⟩:=UX.get I;obtain⟨x,ex,rx⟩:=r1.get ev;obtain⟨y,ey,ry⟩:=r2.get ew;have Z:Zp s.heap z TI TO i1 i2 l1 l2 .none i ak.toArray cM.toArray:=⟨a1,a2,a3,rR a4 k1,rR a5 k2,ord,o1,o2⟩;have hT:s.TypeIs (.ref z) "zip":=⟨_,a1,rfl⟩;unfold pyNext;refine af (jS (eX (name:=Str.ofString "__next__") hT fj (fg fj hT lN
   (Bn Z (by simpa using ex) (by simpa using ey) λh' Z' LP RV kp=>ag ⟨_,rfl,?_⟩) (lL _))))
  refine wpAny_letOwnedTupleGo_zip Z'.hz λNT W4 sb=>?_
  have R0:∀b∈[z,TI,TO,i1,i2],b<s.heap.objs.size:=λb hb=>by
   simp only[bh,cY,c8]at hb;have h1:=az a1;have h2:z<s.heap.objs.size:=h1;obtain⟨q1,q2,q3,q4⟩:=ord;rcases hb with rfl | rfl | rfl | rfl | rfl<;>lia
  have zT:z≠s.heap.objs.size:=aO (R0 z (by simp))
  have R6:∀b o,b∉[z,TI,TO,i1,i2]->s.heap.get? b=some o->NT.get? b=some o:=λb o hb e=>by
   simp only[bh,cY,c8,not_or]at hb;exact sb.extBut _ _ hb.1 (kp b o hb.1 hb.2.2.1 hb.2.2.2.1 hb.2.2.2.2 e)
  have I1:Inv X ae σ H {s with heap:=NT,toks:=s.toks}:=Inv.turns I hf R6
  have hn:H s.heap.objs.size=none:=I.fresh;have JQ:=I.ug (H':=H) (aq _) hn;have pr:IsPair NT s.heap.objs.size x y:=sb.extBut _ _ (bJ zT) LP;have I2:=Inv.adopt (D:=s.heap.objs.size) (o:=.aj [v,w']) I1 hn (by
    rcases JQ.2.2.2.1 with q | q
    ·exact I.sz
    ·exact q) JQ.2.1 JQ.2.2.2.2.1 JQ.2.2.2.2.2 ⟨(by show 2<=sizeLine;decide),[x,y],.cons rx (.cons ry .nil),⟨_,pr,rfl,⟨0,rfl⟩,rfl⟩⟩
  refine⟨.ref s.heap.objs.size,_,I2,rfl,⟨s.heap.objs.size,v,w',hn,rfl,rfl,λwb ws' h1 h2=>?_⟩,⟨W4,sb.extBut _ _ (by first | exact nl (by lia) | exact ng (by lia)) Z'.hTI,?_,?_,?_⟩,λb hb=>?_⟩
  ·rw[<-qw.inj I hv h1,<-qw.inj I UX h2];exact⟨ev,ew⟩
  ·obtain⟨p,q,e⟩:=Z'.hTO;exact⟨p,q,sb.extBut _ _ (by first | exact nl (by lia) | exact ng (by lia)) e⟩
  ·have q:=uE (k':=i) Z'.s1 k1 λo e=>kp l1 o (by first | exact nl (by lia) | exact ng (by lia)) (by first | exact nl (by lia) | exact ng (by lia)) (by first | exact nl (by lia) | exact ng (by lia)) (by first | exact nl (by lia) | exact ng (by lia)) e
   exact q.at λo e=>sb.extBut _ _ (by first | exact nl (by lia) | exact ng (by lia)) e
  ·have q:=uE (k':=i) Z'.s2 k2 λo e=>kp l2 o (by first | exact nl (by lia) | exact ng (by lia)) (by first | exact nl (by lia) | exact ng (by lia)) (by first | exact nl (by lia) | exact ng (by lia)) (by first | exact nl (by lia) | exact ng (by lia)) e
   exact q.at λo e=>sb.extBut _ _ (by first | exact nl (by lia) | exact ng (by lia)) e
  ·rw[aH (aO (R0 b hb))];exact(hf b hb).1
 done:=by
  rintro X hP hw hK hc i ae s σ H E I hf ⟨a1,a2,a3,a4,a5⟩ ⟨vs,ws,hv,UX,he⟩
  subst hP hw hK;obtain⟨ak,r1,k1⟩:=hv.get I;obtain⟨cM,r2,k2⟩:=UX.get I;have Z:Zp s.heap z TI TO i1 i2 l1 l2 .none i ak.toArray cM.toArray:=⟨a1,a2,a3,rR a4 k1,rR a5 k2,ord,o1,o2⟩;have hT:s.TypeIs (.ref z) "zip":=⟨_,a1,rfl⟩;have wI:ak.toArray[i]?=none\/cM.toArray[i]?=none:=by
   rcases he with q | q
   ·exact .inl (jH (by rw[bU,<-r1.length];exact q))
   ·exact .inr (jH (by rw[bU,<-r2.length];exact q))
  unfold pyNext;refine af (jS (eX (name:=Str.ofString "__next__") hT fj (fg fj hT lN (Gg (I.ok.hd hc) Z wI λh' e kp ⟨o,ho,hcl⟩=>?_) (lL _))))
  refine af (tF (T:="StopIteration") (b:=true) ⟨o,ho,hcl⟩ tY (ag ⟨rfl,?_⟩));exact Inv.turns (t':=s.toks) I hf λb o hb e=>by
   simp only[bh,cY,c8,not_or]at hb;exact kp b o hb.1 hb.2.2.1 hb.2.2.2.1 hb.2.2.2.2 e
 self:=λA i s Q E ⟨a1,_⟩ q=>yw a1 q
theorem Gn{K:W.Frag}{F:Fz}{c1 c2:Bool}{l1 l2:Addr}{ps qs:List PV}{vs ws:List V}(k1:∀F',b8 F.F F'->qw K F' c1 l1 vs)(k2:∀F',b8 F.F F'->qw K F' c2 l2 ws)(b1:ao K F ps vs)(b2:ao K F qs ws):Walk K F (List.zipWith ef ps qs) (Y1 K c1 c2 l1 l2):=by
 intro aa ab F' ρ σ H R s i;have h1:=k1 H (s.s.trans R.sub);have h2:=k2 H (s.s.trans R.sub);refine⟨λp e=>?_,λe=>?_⟩
 ·rw[List.getElem?_zipWith]at e;cases z1:ps[i]? with
  | none=>rw[z1]at e;cases e
  | some p1 =>
   cases z2:qs[i]? with
   | none=>rw[z1,z2]at e;cases e
   | some p2 =>
    rw[z1,z2]at e;cases e;obtain⟨v,e1,NU⟩:=b1.get z1;obtain⟨w,e2,c2'⟩:=b2.get z2;refine⟨⟨vs,ws,v,w,h1,h2,e1,e2⟩,λx H' ⟨T,v',w',hn,hx,hH,vO⟩=>?_⟩
    obtain⟨g1,g2⟩:=vO vs ws h1 h2;rw[e1]at g1;rw[e2]at g2;cases g1;cases g2;subst hx hH;obtain⟨R2,s2⟩:=R.laid (.aj [v,w]) hn;exact⟨_,R2,s2,bt.mpr ⟨T,[v,w],rfl,fx.of ar,.cons (NU.mono (s.trans s2)) (.cons (c2'.mono (s.trans s2)) .nil)⟩⟩
 ·refine⟨vs,ws,h1,h2,?_⟩;have:=fH.mp e;rw[List.length_zipWith,b1.length,b2.length]at this
  lia
section
variable {X:Cx} {aa:Hp} {ab:Fz} {a b tg:Expr} {fa fb:Gx PV} {pos p:Pos}
def W5(p q:PV):Option (List PV):=(nc p).bind λps=>(nc q).map λqs=>List.zipWith ef ps qs
def OP(fa fb:Gx PV):Gx (List PV):=bnd fa λp=>bnd fb λq=>fD (W5 p q)
theorem S6(ht:A7 tg=true)(hg:Gl X "zip")(hm:X.mg "zip"=none)(ha:PE X a (tE X aa ab fa))(hb:PE X b (tE X aa ab fb))(hs:starEach [a,b] X.env=(false,eval a X.env)::starEach [b] X.env)(xO:starEach [b] X.env=[(false,eval b X.env)]) :
  PI X tg (.Call (.Name "zip" p) [a,b] [] pos) (tI X aa ab (OP fa fb)):=by
 rintro ae s σ H R I ⟨F,st,Rp,h⟩
 have hA:=gg ha (gg hb oP xO) hs pos ae s σ H (λvs H'=>∃F' bK x y pa pb ps qs,vs=[x,y]/\Rep X.K aa ab F' bK σ H'/\aZ X.K F' pa x/\aZ X.K F' pb y/\nc pa=some ps/\nc pb=some qs/\∀b R7 E5,Rep X.K aa ab E5 bK σ R7->Gr F' E5->Walk X.K E5 (List.zipWith ef ps qs) b->R b R7) I
  ⟨F,st,Rp,h.bnd λp v F1 aI H1 R1 g1 b1 h1=>⟨F1,aI,R1,h1.bnd λq w F2 dF H2 R2 g2 b2 h2=>by
   obtain⟨o,e,z⟩:=h2.fD;obtain⟨ps,e1,e⟩:=aF e;obtain⟨qs,e2,rfl⟩:=aL e;exact⟨F2,dF,v,w,p,q,ps,qs,rfl,R2,b1.mono g2,b2,e1,e2,z⟩⟩⟩
 refine Call_ (ld_blt I hg hm boot_zip (ej (thn hA λus s1 z9=>?_) hs (by rw[xO];rfl)))
 obtain⟨vs,H1,I1,r1,F1,aI,x,y,pa,pb,ps,qs,ev,R1,b1,b2,f3,f4,q⟩:=z9;subst ev;obtain⟨u1,u2,rfl,NV,SR⟩:=AH r1;obtain⟨c1,l1,YL,rfl,q1,P9,k1⟩:=i6 f3 b1;obtain⟨c2,l2,vs2,rfl,q2,UW,k2⟩:=i6 f4 b2;cases NV;cases SR;obtain⟨ak,v1,JU⟩:=(k1 H1 R1.sub).get I1;obtain⟨cM,v2,Qc⟩:=(k2 H1 R1.sub).get I1;have lt:∀{l:Addr} {xs:Array Value} {c:String},gN s1.heap l xs c->l<s1.heap.objs.size:=λh=>by
  rcases h with⟨_,⟨o,e,_⟩⟩ | ⟨_,⟨o,e,_⟩⟩
  ·exact az e
  ·exact az e
 have R8:=lt JU;have Ly:=lt Qc;refine callType_new PySem.F.called_zip (by decide) (PySem.F.typeCall_zip_2 _ _) (PySem.F.newCall_zip_2 _ _) (λobj=>DX obj _ _) PySem.F.entry_zip_new (wJ l1 l2 ak.toArray cM.toArray (jw c1) (jw c2)) ⟨JU,Qc,λh1 h2 h3 h4 e1 e2 e3 e4=>?_⟩
 have z1:h1.objs.size=s1.heap.objs.size+1:=by rw[e1];exact c6 ..
 have z2:h2.objs.size=s1.heap.objs.size+2:=by rw[e2,c6,z1]
 have z3:h3.objs.size=s1.heap.objs.size+3:=by rw[e3,c6,z2]
 have z4:h4.objs.size=s1.heap.objs.size+4:=by rw[e4,c6,z3]
 generalize e5:h4.push {cls:=.type "zip",data:=.fields #[.none,.bool false,.bool false,.ref h2.objs.size,.ref h3.objs.size]}=h5
 have p1:∀b o,s1.heap.get? b=some o->h1.get? b=some o:=λb o e=>by rw[e1];exact ax _ e
 have p2:∀b o,h1.get? b=some o->h2.get? b=some o:=λb o e=>by rw[e2];exact ax _ e
 have p3:∀b o,h2.get? b=some o->h3.get? b=some o:=λb o e=>by rw[e3];exact ax _ e
 have p4:∀b o,h3.get? b=some o->h4.get? b=some o:=λb o e=>by rw[e4];exact ax _ e
 have p5:∀b o,h4.get? b=some o->h5.get? b=some o:=λb o e=>by rw[<-e5];exact ax _ e
 have g5:IsZip h5 h4.objs.size h2.objs.size h3.objs.size .none:=by rw[<-e5];exact bc _ rfl
 have g4:IsPair h5 h3.objs.size .none .none:=p5 _ _ (by rw[e4];exact bc _ rfl)
 have g3:IsPair h5 h2.objs.size (.ref s1.heap.objs.size) (.ref h1.objs.size):=p5 _ _ (p4 _ _ (by rw[e3];exact bc _ rfl))
 have g2:h5.get? h1.objs.size=some {cls:=.type (jw c2),data:=.fields #[.ref l2,.int 0 0]}:=p5 _ _ (p4 _ _ (p3 _ _ (by rw[e2];exact bc _ rfl)))
 have g1:h5.get? s1.heap.objs.size=some {cls:=.type (jw c1),data:=.fields #[.ref l1,.int 0 0]}:=p5 _ _ (p4 _ _ (p3 _ _ (p2 _ _ (by rw[e1];exact bc _ rfl))))
 have Y2:∀{c:Bool} {it l:Addr},h5.get? it=some {cls:=.type (jw c),data:=.fields #[.ref l,.int 0 0]}->DP h5 c it l 0:=λ{c it l} e=>by
  cases c with
  | true=>exact(show h5.IsListIter it l 0 from⟨_,e,rfl,rfl⟩)
  | false=>exact(show h5.IsTupleIter it l 0 from⟨_,e,rfl,rfl⟩)
 have I2:Inv X ae σ H1 {s1 with heap:=h5,toks:=s1.toks}:=I1.kept λb o e=>p5 _ _ (p4 _ _ (p3 _ _ (p2 _ _ (p1 _ _ e))))
 have kA:∀b,s1.heap.objs.size<=b->H1 b=none:=λb hb=>I1.hok.fresh hb
 refine⟨⟨_,g5,rfl⟩,?_⟩;show wpAny _ _ (pyIter (.ref h4.objs.size)) _ _ {s1 with heap:=h5,toks:=s1.toks}
 refine yw g5 ?_;cases tg with
 | Tuple elts x1 B8 =>
  refine⟨h4.objs.size,[h4.objs.size,h2.objs.size,h3.objs.size,s1.heap.objs.size,h1.objs.size],_,_,H1,rfl,I2,Gk (TI:=h2.objs.size) (TO:=h3.objs.size) (i1:=s1.heap.objs.size) (i2:=h1.objs.size) (l1:=l1) (l2:=l2) (c1:=c1) (c2:=c2) ⟨by lia,by lia,by lia,by lia⟩ R8 Ly,⟨g5,g3,⟨_,_,g4⟩,Y2 g1,Y2 g2⟩,λb hb=>?_,q _ H1 F1 R1 (Gr.refl _) (Gn k1 k2 P9 UW)⟩
  simp only[bh,cY,c8]at hb;have R9:s1.heap.objs.size<=b:=by rcases hb with rfl | rfl | rfl | rfl | rfl<;>lia
  have fo:=I1.ug (H':=H1) R9 (kA b R9);exact fo
 | _=>cases ht
end
end L2.U
namespace PySem
open PyProof.Rows
noncomputable def mq(l:List Str)(v:Str):List Str:=if l.any (· == v)=true then l else l++[v]
theorem Gp(l:List Str)(v k:Str):(l.any (· == k) || decide (k=v))=(mq l v).any (· == k):=by
 unfold mq;by_cases hk:k=v
 ·subst hk;split
  ·rename_i hc;rw[hc];simp
  ·simp
 ·have:(v==k)=false:=by simpa using bJ hk
  split<;>simp[hk,this]
theorem wM(l:List Str)(v:Str):(if l.any (· == v)=true then l.length else l.length+1)=(mq l v).length:=by
 unfold mq;split<;>simp
def pM(val:Nat->Str):Nat->List Str
 | 0=>[]
 | i+1=>mq (pM val i) (val i)
def pP(val:Nat->Str):∀i,(pM val i).length<=i
 | 0=>aq _
 | i+1=>by
  have:=pP val i;unfold pM;rw[<-wM];split<;>lia
section
variable {prog:Program} {w:World} {A:Around} {R:Result->Shared->Prop} {I:Addr} {fp wr:List Addr} {G:Array GenState->Array GenState->Prop} {n:Nat} {P:Nat->Value->Prop} {St:Nat->Shared->Prop}
abbrev CY(prog:Program)(w:World)(h:Heap)(S:Addr)(ks:List Str):Prop:=h.SetOf (strKind prog w) S (λk=>ks.any (· == k)) ks.length
def CZ(W:WalksS prog w A.in1 I fp wr G n P St)(S:Addr)(hSf:S∉fp)(val:Nat->Str)(zz:∀i v,P i v->∃t,v=.str (val i) t)(hn:n<=1000) :
  ∀(k i:Nat) (s:Shared),n-i=k->i<=n->St i s->CY prog w s.heap S (pM val i) ->
   (∀s',Moved (S::wr) G s s'->CY prog w s'.heap S (pM val n)->R (.ok (.ret .none)) s') ->
   codeAny (model prog w) A (.builtin "set.update.loop" ⟨[.ref S,.ref I],[]⟩) R s:=by
 have SG:S∉wr:=λh=>hSf (W.sub _ h)
 have uF:∀b∈wr,b∈S::wr:=by grind
 intro k;induction k with
 | zero =>
  intro i s hk hi kr hS hR;have Oi:i=n:=by lia
  subst Oi;refine iQ F.entry_set_update_loop ?_;rw[jI x9 _];refine af (W.done s _ _ kr λs' hm=>?_)
  exact ag (hR s' (hm.mono uF) (by
   obtain⟨o,es,ep,t,ho,rest⟩:=hS;exact⟨o,es,ep,t,hm.heap S _ SG ho,rest⟩))
 | succ k ih =>
  intro i s hk hi kr hS hR;have wj:i<n:=by lia
  refine iQ F.entry_set_update_loop ?_;rw[jI x9 _];refine af (W.item i s _ _ wj kr λv s' hP F6 hm=>?_)
  obtain⟨t,rfl⟩:=zz i v hP;have xR:CY prog w s'.heap S (pM val i):=by
   obtain⟨o,es,ep,t,ho,rest⟩:=hS;exact⟨o,es,ep,t,hm.heap S _ SG ho,rest⟩
  refine af (c7 ?_);unfold setAdd;refine c7 ?_;refine af ((strKind prog w).pyHash (oB _ _ _ _) ?_);have OG:=pP val i;have aa0:scanBound=4096:=rfl;refine wpAny_setAddHashed_of (oB _ _ _ _) rfl xR (by lia) λh' Qa WX=>?_
  have hSi:CY prog w h' S (pM val (i+1)):=by
   exact SetOf_congr WX (λk'=>Gp _ _ _) (wM _ _)
  refine ag ⟨jR x9 _,ih (i+1) _ (by lia) wj (W.frame _ s' _ _ F6 (Nat.le_succ _) λb hb o e=>?_) hSi λMZ Oj Ol=>?_⟩
  ·rw[Qa.2 b (λh:b=S=>hSf (by grind))];exact e
  ·refine hR MZ (Moved.trans W.gtrans ((hm.mono uF).then_heap (Nat.le_succ _) λb o hb e=>?_) Oj) Ol
   rw[Qa.2 b (λh:b=S=>hb (by grind))];exact e
end
section
variable {prog:Program} {w:World} {A:Around} {E:Value->Shared->Prop} {s:Shared}
set_option maxHeartbeats 3200000 in
theorem C1(hh:A.handled=none)(hl:s.heap.IsList l items)(val:Nat->Str)(hi:∀(i:Nat) (v:Value),items[i]?=some v->∃t,v=.str (val i) t)(hb:items.size<=1000)
  (h:∀(h':Heap) (tk:Nat),CY prog w h' s.heap.objs.size (pM val items.size)->(∀b o,b<s.heap.objs.size->s.heap.get? b=some o->h'.get? b=some o)->Q (.ref s.heap.objs.size) {s with heap:=h',toks:=tk}) :
  wpAny (model prog w) A (call (.type "set") [.ref l]) Q E s:=by
 obtain⟨c,tl,aa2⟩:=F.called_set.mro;have Y3:=F.called_set.made;have uF:=F.called_set.sub;refine wpAny_call (codeAny_of_tree ?_);refine ag ⟨Code.quiet_builtin _ (by decide +kernel),iQ F.entry_type_call ?_⟩
 rw[Around.under_plain (weight_type_call_type "set" [.ref l] []) rfl];have h1:=F.called_set.notType;have h2:=F.called_set.canCreate;have hct:=F.typeCall_set_1 (.ref l)
 repeat (any_goals (first | assumption | wp_step))
 refine lT (qE (.ref l) (E:=E) (Q₁:=λobj s₁=>obj=.ref s.heap.objs.size/\s₁={s with heap:=s.heap.push {cls:=.type "set",dict:=none,data:=.set #[] 0 (.fresh 0 0 (!BT w))}}) ⟨rfl,rfl⟩) λr s₁ hr=>?_
 cases r with
 | error e=>exact hr
 | ok fl =>
  cases fl with
  | ret obj =>
   obtain⟨rfl,rfl⟩:=hr;obtain⟨led,W6⟩:∃led,led = !BT w:=⟨_,rfl⟩
   rw[<-W6];have hS:(s.heap.push {cls:=.type "set",dict:=none,data:=.set #[] 0 (.fresh 0 0 led)}).get? s.heap.objs.size=some {cls:=.type "set",dict:=none,data:=.set #[] 0 (.fresh 0 0 led)}:=bc _ rfl
   have hT:Shared.TypeIs {s with heap:=s.heap.push {cls:=.type "set",dict:=none,data:=.set #[] 0 (.fresh 0 0 led)}} (.ref s.heap.objs.size) "set":=⟨_,hS,rfl⟩
   have hli:=F.called_set.init.lookup;have hbi:=F.called_set.init.bind (.ref s.heap.objs.size)
   repeat (any_goals (first | assumption | wp_step))
   refine lT (codeAny_call_builtin (R:=wants (λr BZ=>r=.none/\∃h' tk,BZ={s with heap:=h',toks:=tk} /\
     CY prog w h' s.heap.objs.size (pM val items.size) /\
     (∀b o,b<s.heap.objs.size->s.heap.get? b=some o->h'.get? b=some o)) E) F.called_set.init.plain F.entry_set_init (check_set_init_1 hT ?_)) λW7 BZ Gq=>?_
   ·obtain⟨ol,m9,hcl,nl,LB⟩:=hl;obtain⟨WG,LI,SF,FZ⟩:=ol;simp only at hcl LB;subst hcl;subst LB;have W8:(s.heap.push {cls:=.type "set",dict:=none,data:=.set #[] 0 (.fresh 0 0 led)}).get? l=some {cls:=.type "list",dict:=LI,data:=.seq items nl,slots:=FZ}:=ax _ m9
    have aa3:=F.sub_list_set;have aa4:=F.sub_list_frozenset;have hne:(Value.type "list"==Value.type "dict")=false:=by decide
    have OG:(s.heap.push {cls:=.type "set",dict:=none,data:=.set #[] 0 (.fresh 0 0 led)}).IsList l items:=⟨_,W8,rfl,nl,rfl⟩
    unfold Builtin.«set.__init__» noKeywords Builtin.Frozenset.updateFrom
    generalize hPI:pyIter=PI
    wp_walk
    subst hPI;refine lK OG ?_;refine af (wpAny_runValue ?_);have Om:l<s.heap.objs.size:=az m9;refine CZ ((Walks.list (by simp[hh]) _ l (by rw[c6];exact aO (Nat.lt_succ_of_lt Om)) items).toS) s.heap.objs.size (by
     rw[c6];simp only[bh,bF,cY,c8,not_or];exact⟨aO (lP _),lU Om⟩) val hi hb (items.size-0) 0 _ (by lia) (fK _)
     ⟨⟨_,bc _ rfl,rfl,rfl⟩,(OG.push _)⟩ ?hS0 ?hR
    case hS0 =>
     exact PySem.Obj.SetObjOf.setOf (setObjOf_fresh (knd:=strKind prog w) led) (ax _ hS) (show(0:Nat)<scanBound by decide)
    case hR =>
     intro s' hm xR;obtain⟨h',g',d',F7,IX⟩:=s';have eg:g'=s.gens:=hm.gens;have ed:d'=s.drawn:=hm.drawn;have eo:IX=s.os:=hm.os;subst eg;subst ed;subst eo;show wpAny _ _ _ _ _ _;refine ag ?_;show wpAny _ _ (ret Value.none) _ _ _;refine ag ⟨rfl,h',F7,rfl,xR,λb o hb e=>?_⟩
     have Ot:b≠s.heap.objs.size:=by grind
     have UT:b≠(s.heap.push {cls:=.type "set",dict:=none,data:=.set #[] 0 (.fresh 0 0 led)}).objs.size:=by
      rw[c6];exact aO (Nat.lt_succ_of_lt hb)
     exact hm.heap b o (by grind) (ax _ (ax _ e))
   ·cases W7 with
    | error e=>exact Gq
    | ok S7 =>
     cases S7 with
     | ret r =>
      obtain⟨rfl,h',tk,rfl,xR,hk'⟩:=Gq
      repeat (any_goals (first | assumption | wp_step))
      exact h _ _ xR hk'
     | _=>exact Gq.elim
  | _=>exact hr.elim
end
end PySem
namespace L2.U
open PySem PySem.Spec PyProof.Rows
def C2(ks:List Str):List Str:=ks.foldl mq []
def Gs:PV->Option PV
 | .nd .lst ps=>if ps.length<=1000 then(aQ uG ps).map λks=>.int ((C2 ks).length:Nat)else none
 | _=>none
def OQ(fa:Gx PV):Gx PV:=bnd fa λp=>fD (Gs p)
theorem pQ(ks:List Str):∀i,i<=ks.length->pM (λi=>ks.getD i ⟨#[]⟩) i=(ks.take i).foldl mq []
 | 0,_=>by simp[pM]
 | i+1,h=>by
  rw[List.take_add_one,List.foldl_append,<-pQ ks i (by lia)]
  have:ks[i]?=some (ks[i]'(by lia)):=aR _
  rw[this];show mq _ (ks.getD i ⟨#[]⟩)=mq _ _;rw[List.getD,this];rfl
theorem k7{α β:Type}{f:α->Option β}:∀{ps:List α} {ks:List β},aQ f ps=some ks->ks.length=ps.length
 | [],_,h=>by cases h;rfl
 | p::ps,ks,h=>by
  obtain⟨k,r,h1,h2,rfl⟩:=cW h;rw[bZ,bZ,k7 h2]
theorem Br{α β:Type}{f:α->Option β}:∀{ps:List α} {ks:List β},aQ f ps=some ks->∀(i:Nat) (p:α),ps[i]?=some p->∃k,ks[i]?=some k/\f p=some k
 | [],_,h,i,p,e=>by cases e
 | q::ps,ks,h,i,p,e=>by
  obtain⟨k,r,h1,h2,rfl⟩:=cW h;cases i with
  | zero=>cases e;exact⟨k,rfl,h1⟩
  | succ i=>exact Br h2 i p e
section
variable {X:Cx} {aa:Hp} {ab:Fz} {e:Expr} {fe:Gx PV} {pos p ph zp:Pos}
def OR(hh:X.A.handled=none)(Ov:Gl X "len")(Ow:X.mg "len"=none)(hg:Gl X "set")(hm:X.mg "set"=none)(he:PE X e (tE X aa ab fe))(hs:starEach [e] X.env=[(false,eval e X.env)]) :
  PE X (.Call (.Name "len" p) [.Call (.Name "set" zp) [e] [] ph] [] pos) (tE X aa ab (OQ fe)):=by
 rintro ae s σ H Q I ⟨F,st,R,h⟩
 refine Call_ (ld_blt I Ov Ow PySem.boot_len ?_);refine DT (pj rfl ?_) rfl rfl;have hA:=he ae s σ H (λv H1=>∃n ps vs ks c F1 aI,v=.ref c/\Rep X.K aa ab F1 aI σ H1/\gE X.K F1.F c vs/\ao X.K F1 ps vs/\ps.length<=1000/\aQ uG ps=some ks/\n=(C2 ks).length/\Q (.int (n:Nat)) H1) I
  ⟨F,st,R,h.bnd λq v F1 aI H1 R1 g1 b1 h1=>by
   obtain⟨o,e,z⟩:=h1.fD;unfold Gs at e;split at e
   ·rename_i ps;obtain⟨hl,e⟩:=bE e;obtain⟨ks,e1,rfl⟩:=aL e;obtain⟨c,vs,rfl,hs,hb⟩:=cP.mp b1;exact⟨_,ps,vs,ks,c,F1,aI,rfl,R1,hs,hb,hl,e1,rfl,z _ _ _ R1 (Gr.refl _) (au.mpr rfl)⟩
   ·cases e⟩
 refine Call_ (ld_blt I hg hm (show bootBuiltins "set"=some (.type "set") by decide +kernel) (ej (pj hs (thn hA λu s1 ⟨v,H1,I1,r1,n,ps,vs,ks,c,F1,aI,ev,R1,OG,b1,hl,hk,hn,q⟩=>?_)) hs rfl))
 subst ev;cases r1;obtain⟨ak,r,pl,_⟩:=I1.list (gI R1.sub OG).sq;have dr:ak.length=ps.length:=by rw[<-r.length,b1.length]
 have Y4:=k7 hk;have hsz:ak.toArray.size=ks.length:=by rw[bU,dr,Y4]
 refine C1 (items:=ak.toArray) hh pl.isList (λi=>ks.getD i ⟨#[]⟩) (λi v hv=>?_) (by rw[hsz,Y4];exact hl) λh' tk hS kp=>?_
 ·rw[lF]at hv;have hi:i<ps.length:=by rw[<-dr];exact(b9.mp hv).1
  obtain⟨k,e1,e2⟩:=Br hk i _ (aR hi);obtain⟨x,hx,bx⟩:=b1.get (aR hi);rw[jq e2]at bx;cases bj.mp bx;obtain⟨u,hu,t,ru⟩:=r.get hx;rw[hv]at hu;cases hu;refine⟨t,?_⟩;rw[ru,List.getD,e1];rfl
 ·rw[hsz,pQ ks _ (aq _),tD]at hS;have I2:Inv X ae σ H1 {s1 with heap:=h',toks:=tk}:=I1.kept λb o e=>kp b o (az e) e
  obtain⟨o,es,ep,t,ho,Wc,hd,hel,aa8,hb,hf,QV⟩:=hS;have UM:(C2 ks).length<=1000:=by
   have:=pP (λi=>ks.getD i ⟨#[]⟩) ks.length
   rw[pQ ks _ (aq _),tD]at this;unfold C2
   lia
  refine call_len_set ho Wc hd hf (by rw[QV];unfold C2 at UM;have h63:(2:Int)^63=9223372036854775808:=(by decide);lia) ?_
  refine⟨.int es.size,H1,I2.tok _,⟨_,rfl⟩,?_⟩;rw[QV];rw[hn]at q;exact q
end
structure Gm where
 sc:List (Str×NameKind)
 N:List Str
 own:Bool
 fns:List (Str×Nat)
 call:Str->nh
 cons:List (Str×PV)
 cD:List Str
 tabs:List (Str×List (Str×Str))
 dg:List (Str×List (Str×PV))
 cls:List (Str×Nat)
 make:Str->nh
 clss:List Str
 flds:List Str
 /-- what W9 in a cell: 1 a list,2 a list of cells,10 a dict La keys U9 tuples -/
 Qr:List (Str×Nat)
 Gu:Option ((PV->Gx PV)->Nat->nh)
 Gv:Option (Nat×(PV->Gx PV))
noncomputable def slot(Γ:Gm)(x:Str):Option Nat:=Γ.N.findIdx? (· == x)
noncomputable def IH(Γ:Gm)(x:Str):Bool:=match Γ.sc.lookup x with | some .local=>true | some .cell=>true | some .free=>true | _=>false
noncomputable def Qd(Γ:Gm)(x:Str):Bool:=match Γ.sc.lookup x with | some .local=>true | some .cell=>Γ.own | _=>false
noncomputable def qH(Γ:Gm)(x:Str):Bool:=match Γ.sc.lookup x with | some .globalImplicit=>true | _=>false
noncomputable def fu(x:Str):Bool:=!(x==("__debug__":Str))&&!(x==("__classdict__":Str))&&!(x==("__name__":Str))
noncomputable def md(Γ:Gm)(x:Str):Nat:=(Γ.Qr.lookup x).getD 0
noncomputable def C3(m:Nat):Nat:=if m<10 then m-1 else 0
def S8(X:Cx)(k:Nat)(fns:List (Str×Nat))(call:Str->nh):Prop:=∀x n,fns.lookup x=some n->∃j f fd ps,j<=k/\FnOk X.prog X.w X.K X.mg X.base (ku X.prog X.w) j f fd ps (CG X.K n (call x))/\X.mg x=some (.ref f)/\W.keepIn X.K (.ref f)=true/\fM X.K fd ps []
structure LQ (Γ:Gm) (X:Cx) (rs:(PV->Gx PV)->Nat->nh):Prop where
 ex:∃(st:Stmt) (fs:Addr) (Y5:FuncData) (pr Ns:List Str) (k:Nat) (rb:(PV->Gx PV)->Nat->Gx d9),rs=(λω n=>iC (rb ω n) Ns.length)/\BM X.K "spread" "spread" st fs Y5/\X.mg "spread"=some (.ref fs)/\fM X.K Y5 pr []/\dn Ns pr (ay st)/\pr.length=2/\dZ (k+2) X.A /\
  (∀(eL:Value) (A:Around) (aB:List Env) (s:Shared) (H:Hp) (E:XK) (aa:Hp) (ab:Fz) (n:Nat) (ω:PV->Gx PV),dZ (k+1) (A.deeper (envOfC "spread" (ay st) s.heap.objs.size fs eL))->FY (fN (ku X.prog X.w) X.prog X.w X.K X.mg X.base Ns "spread" (ay st) fs eL A aB s H E) aa ab n ω ->
   PSs (fN (ku X.prog X.w) X.prog X.w X.K X.mg X.base Ns "spread" (ay st) fs eL A aB s H E) (dq st) (tS (fN (ku X.prog X.w) X.prog X.w X.K X.mg X.base Ns "spread" (ay st) fs eL A aB s H E) aa ab (rb ω n))) /\
  S8 X k Γ.fns Γ.call
 lam:SD X
structure GOk (Γ:Gm) (X:Cx) (aa:Hp) (ab:Fz):Prop where
 names:X.env.scope.names=Γ.sc
 N:X.N=Γ.N
 nd:X.N.Nodup
 kind:X.env.scope.kind=.function
 calm:X.calm=true
 hd:X.A.handled=none
 un:X.A.units+1150<cLine
 own:Γ.own=true->∀x,X.fn x=true
 fns:FW X Γ.fns Γ.call
 cons:∀x p,Γ.cons.lookup x=some p->∃u v,X.mg x=some u/\RelV v u/\∀F,aZ X.K F p v
 cD:∀x,Γ.cD.contains x=true->X.mg x=none
 tabs:∀T rows,Γ.tabs.lookup T=some rows->Bf X.K X.mg X.w.params T rows
 dg:∀T rows,Γ.dg.lookup T=some rows->pe X.K X.mg X.w.params T rows
 ns:∀x a,W.nsIn X.K mainGlobals x=some (some (.ref a))->X.mg x=some (.ref a)
 Qe:FX X.K Γ.clss Γ.flds
 cls:∀C n,Γ.cls.lookup C=some n->∃k Ca f fd ps,ClsAt X.K C (.ref Ca)/\BL X.K Ca/\Mk X.K Ca f/\FnOk X.prog X.w X.K X.mg X.base (ku X.prog X.w) k f fd ps (CG X.K n (Γ.make C))/\dZ (k+1) X.A/\X.mg C=some (.ref Ca)/\fM X.K fd ps []
 Gu:∀rs,Γ.Gu=some rs->LQ Γ X rs
 Gv:∀n ω,Γ.Gv=some (n,ω)->FY X aa ab n ω
noncomputable def aP:Expr->Bool
 | .Starred _ _=>false
 | .Set _ _ _=>false
 | _=>true
noncomputable def nM:Expr->Bool
 | .Slice _ _ _ _=>false
 | _=>true
noncomputable def Bs:Expr->Bool
 | .Tuple _ _ _=>false
 | .ListComp _ _ _ _=>false
 | .SetComp _ _ _ _=>false
 | .DictComp _ _ _ _ _=>false
 | _=>true
noncomputable def i8:Expr->Bool
 | .ListComp _ _ _ _=>false
 | .SetComp _ _ _ _=>false
 | .DictComp _ _ _ _ _=>false
 | _=>true
noncomputable def uM:Expr->Bool
 | .Name _ _=>true
 | .Subscript _ _ _=>true
 | .Attribute _ _ _=>true
 | .Call _ (_::_) _ _=>true
 | _=>false
def k8(h:uM e=true):attributeBase e f env (eval e env)=eval e env:=by
 cases e with
 | Call f as ks=>cases as with
  | nil=>cases h
  | cons=>cases f<;>rfl
 | _=>first | rfl | cases h
def uN(h:Bs e=true):i8 e=true:=by
 cases e<;>first | rfl | cases h
noncomputable def zE:Expr->Bool
 | .UnaryOp .Not _ _=>false
 | .BoolOp _ _ _=>false
 | .IfExp _ _ _ _=>false
 | .Compare _ _ _ _=>false
 | _=>true
def aJ(h:aP e=true)(es:List Expr)(env:Env):starEach (e::es) env=(false,eval e env)::starEach es env:=by
 cases e<;>first | rfl | cases h
def dR(h:aP e=true)(op:CmpOp):behindInMarks op e=false:=by
 cases e<;>first | rfl | cases h
def fS(h:aP e=true)(env:Env)(x:Value):foldedSetIterable e env x=pure x:=by
 cases e<;>first | rfl | cases h
def pU(h:nM e=true):kH e:=by
 intro o i;cases e<;>first | rfl | cases h
def Gw(h:zE e=true)(env:Env)(iu:Sem Value):isTrue e env iu=(do let v <-iu;standAt e.pos;holding [v] (truthy v)):=by
 cases e with
 | UnaryOp op a p=>cases op<;>first | rfl | cases h
 | BoolOp _ _ _=>cases h
 | IfExp _ _ _ _=>cases h
 | Compare _ _ _ _=>cases h
 | _=>rfl
def i9(h:i8 e=true)(t:Option Expr)(l:Nat)(env:Env):swapsWith e t l env=pure false:=by
 cases e<;>first | rfl | cases h
def dS(h:es.all aP=true)(env:Env)(pos:Pos):(backTo pos (starEach es env)).any (·.1)=false:=by
 induction es with
 | nil=>rfl
 | cons e es ih =>
  rw[gu,aC]at h;rw[aJ h.1];exact ih h.2
def zF(h:es.all aP=true)(env:Env)(pos:Pos):(backTo pos (starEach es env)).all (λx=>!x.1)=true:=by
 induction es with
 | nil=>rfl
 | cons e es ih =>
  rw[gu,aC]at h;rw[aJ h.1];exact ih h.2
def Bt(h:es.all aP=true)(hl:es.length<30):((backTo cp (starEach es env)).all (λx=>!x.1)&&(backToKw cp (keywordEach [] env)).all (λx=>x.1.isSome)
   && decide (es.length+([]:List Keyword).length+(if([]:List Keyword).isEmpty then 0 else 1)<30))=true:=by
 rw[zF h];simp only[lQ,aC,iO];exact⟨rfl,hl⟩
def eS(h:fu x=true):(x==("__debug__":Str))=false/\(x==("__classdict__":Str))=false/\x≠"__name__":=by
 unfold fu at h;simp only[aC,yt]at h;exact⟨h.1.1,h.1.2,by simpa using h.2⟩
noncomputable def uO:Nat->Gm->Expr->Option (Tg×List Nat)
 | 0,_,_=>none
 | n+1,Γ,e=>match e with
  | .Name x _=>if Qd Γ x=true then(slot Γ x).map λi=>(cg i,[i])else none
  | .Tuple es _ _=>(es.foldr (λe r=>(uO n Γ e).bind λg=>r.map λgs=>(dw g.1 gs.1,g.2++gs.2)) (some (m4,[]))).map λgs=>(kN es.length gs.1,gs.2)
  | _=>none
def Gy(h:slot Γ x=some i):Γ.N[i]?=some x:=by
 unfold slot at h;obtain⟨hi,hp,_⟩:=DR.mp h;rw[aR hi];exact eu some (aG hp)
section
variable {Γ:Gm} {X:Cx} {x:Str} {pos:Pos} {aa:Hp} {ab:Fz}
def GOk.Xa(G:GOk Γ X aa ab)(h:IH Γ x=true):Qz X.env.scope x:=by
 unfold IH at h;unfold Qz;rw[G.names];split at h<;>simp_all
def GOk.OS(G:GOk Γ X aa ab)(h:Qd Γ x=true):Lf X.env.scope x/\(X.fn x=true\/X.env.scope.names.lookup x=some .local):=by
 unfold Qd at h;unfold Lf;rw[G.names];split at h
 ·grind
 ·rename_i z;exact⟨.inr z,.inl (G.own h x)⟩
 ·cases h
def GOk.fE(G:GOk Γ X aa ab)(h:qH Γ x=true):Gl X x:=by
 unfold qH at h;show X.env.scope.names.lookup x=_;rw[G.names];split at h
 ·assumption
 ·cases h
def GOk.sd(G:GOk Γ X aa ab)(h:slot Γ x=some i):X.N[i]?=some x:=by
 rw[G.N];exact Gy h
theorem k9(G:GOk Γ X aa ab):∀(n:Nat) (e:Expr) (g:Tg×List Nat),uO n Γ e=some g->PG X e (tG X.K aa ab g.1)/\KG g.2 g.1/\(∀env:Env,(assignEach [e] env).map (·.2)=[assign e env])/\∀(es:List Expr) (env:Env),assignEach (e::es) env=(false,assign e env)::assignEach es env
 | 0,_,_,h=>by cases h
 | n+1,e,g,h=>by
  cases e with
  | Name x p =>
   have h:=h;obtain⟨hs,h⟩:=bE h;obtain⟨i,z,rfl⟩:=aL h;obtain⟨h1,h2⟩:=G.OS hs;exact⟨Nn i (IE G.nd (G.sd z) h1 h2),JM i,λ_=>rfl,λ_ _=>rfl⟩
  | Tuple es k p =>
   have all:∀es gs,es.foldr (λe r=>(uO n Γ e).bind λg=>r.map λgs=>(dw g.1 gs.1,g.2++gs.2)) (some (m4,[]))=some gs ->
     PGs X es (RG X.K aa ab gs.1)/\RZ gs.2 gs.1/\∀env:Env,(assignEach es env).length=es.length/\(assignEach es env).findIdx? (·.1)=none:=by
    intro es;induction es with
    | nil =>
     intro gs h;cases h;exact⟨Np,JN,λenv=>⟨rfl,rfl⟩⟩
    | cons e es ih =>
     intro gs h;rw[List.foldr_cons]at h;obtain⟨g1,e1,h⟩:=aF h;obtain⟨g2,z,rfl⟩:=aL h;obtain⟨a1,a2,a3,a4⟩:=k9 G n e g1 e1;obtain⟨b1,b2,b3⟩:=ih g2 z;refine⟨Jp a1 b1 (by grind),Fq a2 b2,λenv=>?_⟩
     rw[a4];obtain⟨c1,c2⟩:=b3 env;exact⟨by rw[bZ,bZ,c1],by grind⟩
   have h:=h;obtain⟨gs,z,rfl⟩:=aL h;obtain⟨b1,b2,b3⟩:=all es gs z;exact⟨RH G.calm b1 (b3 _).1 (b3 _).2,NR b2,λ_=>rfl,λ_ _=>rfl⟩
  | _=>cases h
def se(G:GOk Γ X aa ab)(hn:fu x=true)(hv:IH Γ x=true)(hs:slot Γ x=some i):PE X (.Name x pos) (Ms i) :=
 pe_var (G.sd hs) (G.Xa hv) (eS hn).1 (eS hn).2.1
end
def uP(x:Str):Option GC :=
 if x==("len":Str)then some gH
 else if x==("tuple":Str)then some Fc
 else if x==("int":Str)then some Fe
 else if x==("sum":Str)then some Jw
 else if x==("str":Str)then some Ck
 else if x==("any":Str)then some Kc
 else if x==("all":Str)then some wF
 else none
def Gz:bootBuiltins "sum"=some (.builtin "sum"):=by kernel_rfl
set_option maxHeartbeats 4000000 in
theorem OT(h:uP x=some g)(hh:X.A.handled=none)(hg:Gl X x)(hm:X.mg x=none)(ha:PA X (a::es) (tA X aa ab ts))
  (he:starEach (a::es) X.env=(false,eval a X.env)::starEach es X.env) (kE:(backTo pos (starEach es X.env)).any (·.1)=false):PE X (.Call (.Name x p) (a::es) [] pos) (tE X aa ab (zh g ts)):=by
 unfold uP at h;split at h
 ·rename_i e;cases h;have e:=aG e;subst e;exact(iV Cm hg hm PySem.boot_len ha (by decide) (by decide) he kE).imp λ_ _ _ h=>ib h
 ·split at h
  ·rename_i e;cases h;have e:=aG e;subst e;exact(l6 Cn hg hm (ic .tuple) ha (by decide) (by decide) he kE).imp λ_ _ _ h=>ib h
  ·split at h
   ·rename_i e;cases h;have e:=aG e;subst e;exact(l6 Co hg hm (ic .int) ha (by decide) (by decide) he kE).imp λ_ _ _ h=>ib h
   ·split at h
    ·rename_i e;cases h;have e:=aG e;subst e;exact(iV (Cq hh) hg hm Gz ha (by decide) (by decide) he kE).imp λ_ _ _ h=>ib h
    ·split at h
     ·rename_i e;cases h;have e:=aG e;subst e;exact(l6 Cp hg hm (ic .str) ha (by decide) (by decide) he kE).imp λ_ _ _ h=>ib h
     ·split at h
      ·rename_i e;cases h;have e:=aG e;subst e;exact(iV (CN hh) hg hm Gb ha (by decide) (by decide) he kE).imp λ_ _ _ h=>ib h
      ·split at h
       ·rename_i e;cases h;have e:=aG e;subst e;exact(iV (CP hh) hg hm Ga ha (by decide) (by decide) he kE).imp λ_ _ _ h=>ib h
       ·cases h
noncomputable def GA:ScopeKind->Bool
 | .function=>true
 | _=>false
noncomputable def sh(scope:Scope):List Str:=(scope.names.filter λy=>match y.2 with | .local=>true | .free=>true | _=>false).map (·.1)
def fT(Γ:Gm)(scope:Scope):List (Option Nat):=(sh scope).map λx=>match scope.names.lookup x with | some .free=>slot Γ x | _=>none
noncomputable def zG(Γ:Gm)(scope:Scope):List (Str×NameKind):=scope.names.map fun(n,k)=>if(k==NameKind.free&&Γ.sc.lookup n==some .cell)then(n,NameKind.cell)else(n,k)
def sj(Γ:Gm)(scope:Scope):Gm:={Γ with sc:=zG Γ scope,N:=sh scope,own:=false,Gu:=none,Gv:=none}
def pV(Γ:Gm)(scope:Scope)(L:List Nat):Bool :=
 GA scope.kind&&scope.names.all (λy=>match y.2 with
  | .cell=>false
  | .local=>(match scope.names.lookup y.1 with | some .local=>true | _=>false)
  | .free=>(match Γ.sc.lookup y.1 with | some .cell=>true | some .free=>true | _=>false)
  | _=>true)&&decide (sh scope).Nodup&&L.all λi=>match(fT Γ scope)[i]? with | some none=>true | _=>false
section
variable {Γ:Gm} {X:Cx} {scope:Scope} {L:List Nat} {aa:Hp} {ab:Fz}
def la(h:pV Γ scope L=true):scope.kind=.function/\(∀y∈scope.names,(match y.2 with
  | .cell=>false
  | .local=>(match scope.names.lookup y.1 with | some .local=>true | _=>false)
  | .free=>(match Γ.sc.lookup y.1 with | some .cell=>true | some .free=>true | _=>false)
  | _=>true)=true)/\(sh scope).Nodup/\∀i∈L,(fT Γ scope)[i]?=some none:=by
 unfold pV at h;simp only[aC,dY,iO]at h;obtain⟨⟨⟨h1,h2⟩,h3⟩,h4⟩:=h;refine⟨?_,h2,h3,λi hi=>?_⟩
 ·unfold GA at h1;split at h1
  ·assumption
  ·cases h1
 ·grind
def zH(G:GOk Γ X aa ab)(h:pV Γ scope L=true):gL X (sh scope) (fT Γ scope) scope:=by
 obtain⟨h1,h2,h3,h4⟩:=la h;refine⟨h1,λy hy z=>?_,λy hy z=>?_,λy hy z=>?_,by unfold fT;rw[ah],λi j x hl hx=>?_⟩
 ·grind
 ·grind
 ·have:=h2 y hy;rw[z]at this;simp only at this;show X.env.scope.names.lookup y.1=_\/X.env.scope.names.lookup y.1=_;rw[G.names];split at this
  ·grind
  ·grind
  ·cases this
 ·unfold fT at hl;rw[bg,hx]at hl;have hl:(match scope.names.lookup x with | some .free=>slot Γ x | _=>none)=some j:=by grind
  split at hl
  ·exact⟨G.sd hl,by assumption⟩
  ·cases hl
def GB(G:GOk Γ X aa ab)(h:pV Γ scope L=true)(C:Addr)(s:Shared)(H:Hp)(fp:List Addr)(Xb:Hp)(Xc:Fz):GOk (sj Γ scope) (bR X (sh scope) scope C s H fp) Xb Xc where
 names:=by
  show(relabel scope X.env).names=zG Γ scope;have e:∀n,X.env.kindOf n=Γ.sc.lookup n:=λn=>by show X.env.scope.names.lookup n=_;rw[G.names]
  unfold zG relabel;simp only[G.kind,e]
  congr 1
  funext y
  obtain⟨n,k⟩:=y;simp
 N:=rfl
 nd:=(la h).2.2.1
 kind:=by
  exact(la h).1
 calm:=G.calm
 hd:=G.hd
 un:=G.un
 own:=λz=>by cases z
 fns:=G.fns
 cons:=G.cons
 cD:=G.cD
 tabs:=G.tabs
 dg:=G.dg
 ns:=G.ns
 Qe:=G.Qe
 cls:=G.cls
 Gu:=λ_ z=>by cases z
 Gv:=λ_ _ z=>by cases z
end
noncomputable def bO{α:Type}:Gx α:=λ_=>none
section
variable {X:Cx} {aa:Hp} {ab:Fz} {e:Expr} {es:List Expr}
def sk{C:Prop}(h:tX X aa ab rl bO σ H Q):C:=by
 obtain⟨F,st,R,r,z,_⟩:=h;cases z
def aU:PE X e (tE X aa ab bO):=λ_ _ _ _ _ _ h=>sk h
def su:PT X e (tT X aa ab bO):=λ_ _ _ _ _ _ h=>sk h
def GD:PW X e (tT X aa ab bO):=λ_ _ _ _ _ _ _ h=>sk h
def LR:PA X es (tA X aa ab bO):=λ_ _ _ _ _ _ _ h=>sk h
def wN{tg:Expr}:PI X tg e (CA X aa ab bO):=λ_ _ _ _ _ _ h=>sk h
end
def ja(m n:Nat)(g:nh)(as:List PV):Gx PV:=λst=>if((m==0)&&(st.h.isEmpty || aE as))=true then j4 n g as st else FP n g as st
def Xd(G:FnOk X.prog X.w X.K X.mg X.base (ku X.prog X.w) k f fd ps (CG X.K n g))(hr:dZ k X.A)(hb:fM X.K fd ps []):JZ X f (ja m n g):=by
 rintro aa H ab F st σ ae s Q as us vs I R b r ⟨q,e1,e2⟩
 unfold ja at e1;split at e1
 ·exact N4 G hr hb aa H ab F st σ ae s Q as us vs I R b r ⟨q,e1,e2⟩
 ·exact Ww G hr hb aa H ab F st σ ae s Q as us vs I R b r ⟨q,e1,e2⟩
def S9(Γ:Gm):Expr->Nat
 | .Name x _=>C3 (md Γ x)
 | .Attribute _ f _=>C3 (md Γ f)
 | _=>0
def Xe(Γ:Gm)(g:Str)(o:Expr):Nat:=if g==("get":Str)then 0 else S9 Γ o
noncomputable def uQ(e:Expr):Option {x:Option Expr×Option Expr // ∃p,e=.Slice x.1 x.2 none p}:=match e with
 | .Slice lo hi none p=>some ⟨(lo,hi),p,rfl⟩
 | _=>none
noncomputable def zI(e:Expr):Option {x:Option Expr×Expr // ∃p,e=.Slice x.1 none (some x.2) p}:=match e with
 | .Slice lo none (some m) p=>some ⟨(lo,m),p,rfl⟩
 | _=>none
def Xf:Const->Gx PV
 | .int i=>bT (.int i)
 | .bool i=>bT (.bl i)
 | .none=>bT .aV
 | .str i=>bT (.str i)
 | _=>bO
def OU(Γ:Gm)(x:Str):Gx PV:=if fu x=true then(if IH Γ x=true then(match slot Γ x with | some i=>rd i | none=>bO)else if qH Γ x=true then(match Γ.cons.lookup x with | some p=>bT p | none=>bO)else bO)else bO
noncomputable def zJ(a:Expr):Option {x:Str×Expr×List Expr // ∃p q,a=.Call (.Name x.1 p) (x.2.1::x.2.2) [] q}:=match a with
 | .Call (.Name z p) (b::bs) [] q=>some ⟨(z,b,bs),p,q,rfl⟩
 | _=>none
noncomputable def uR(a:Expr)(es:List Expr):Option {x:Str×Expr // es=[]/\∃p q,a=.Call (.Name x.1 p) [x.2] [] q}:=match a,es with
 | .Call (.Name z p) [e] [] q,[]=>some ⟨(z,e),rfl,p,q,rfl⟩
 | _,_=>none
def dU(Γ:Gm)(x:Str):Bool:=qH Γ x&&Γ.cD.contains x
noncomputable def Xg:Expr->Expr
 | .Call _ [e] _ _=>e
 | a=>a
def OW(Γ:Gm)(x:Str)(a:Expr)(es:List Expr):Bool:=x==("len":Str)&&(match uR a es with
 | some ⟨ze,_⟩=>ze.1==("set":Str)&&dU Γ ze.1&&aP ze.2
 | none=>false)
def C4{Γ:Gm}(h:OW Γ x a es=true):x="len"/\es=[]/\∃e p q,a=.Call (.Name "set" p) [e] [] q/\qH Γ "set"=true/\Γ.cD.contains "set"=true/\aP e=true:=by
 unfold OW at h;rw[aC]at h;obtain⟨h0,h⟩:=h
 generalize uR a es=o at h
 rcases o with _ | ⟨⟨z,e⟩,h1,p,q,rfl⟩
 ·cases h
 ·simp only[dU,aC]at h;obtain⟨⟨hx,hg,hb⟩,hp⟩:=h;have hx:=aG hx;subst hx;exact⟨aG h0,h1,e,p,q,rfl,hg,hb,hp⟩
def GF(Γ:Gm)(op:CmpOp):Expr->Option (List (Str×PV)×Bool)
 | .Name T _=>if(fu T&&qH Γ T)=true then(Γ.dg.lookup T).bind λrows=>(match op with | .In=>some (rows,false) | .NotIn=>some (rows,true) | _=>none)else none
 | _=>none
def pW{Γ:Gm}(h:GF Γ op b=some y):∃T p,b=.Name T p/\fu T=true/\qH Γ T=true/\Γ.dg.lookup T=some y.1/\(op=.In/\y.2=false\/op=.NotIn/\y.2=true):=by
 cases b with
 | Name T p =>
  obtain⟨hc,h⟩:=bE h;obtain⟨rows,e1,e2⟩:=aF h;rw[aC]at hc;refine⟨T,p,rfl,hc.1,hc.2,?_⟩;cases op<;>cases e2
  ·exact⟨e1,.inl ⟨rfl,rfl⟩⟩
  ·exact⟨e1,.inr ⟨rfl,rfl⟩⟩
 | _=>cases h
noncomputable def Ta:Operator->Bool
 | .Add=>true
 | _=>false
mutual
noncomputable def aY:Nat->Gm->Nat->Expr->Gx PV
 | 0,_,_,_=>bO
 | n+1,Γ,m,e=>match e with
  | .Constant c _ _=>Xf c
  | .Name x _=>OU Γ x
  | .BinOp a op b _=>if(m != 0&&Ta op)=true then Oz m (aY n Γ 0 a) (aY n Γ 0 b)else(match Kp op with | some g=>op2 g (aY n Γ 0 a) (aY n Γ 0 b) | none=>bO)
  | .UnaryOp .Not a _=>Nd (aY n Γ 0 a)
  | .UnaryOp .USub a _=>ND (aY n Γ 0 a)
  | .BoolOp op vs _=>GG n Γ op vs
  | .Compare a ops bs _=>OX n Γ a ops bs
  | .IfExp c a b _=>iX (qI n Γ c) (aY n Γ m a) (aY n Γ m b)
  | .Tuple es _ _=>Lu .aj (iE n Γ m es)
  | .List es _=>(match m with | 0=>Lu .lst (iE n Γ 0 es) | _=>Jm (iE n Γ (C3 m) es))
  | .Dict [] [] _=>Od (m==10)
  | .Subscript a b _=>OY n Γ a b
  | .ListComp elt gens scope _=>OZ n Γ m elt gens scope
  | .Attribute o f _=>if uM o=true then Og f (aY n Γ 0 o)else bO
  | .Call f (a::es) [] cp=>if(a::es).all aP=true then O0 n Γ m f a es cp else bO
  | .Call (.Attribute o f ap) [] [] cp=>if(uM o&&(ap.endLine==cp.line))=true then(if f==("isdigit":Str)then Oh (aY n Γ 0 o)else match zx f with | some w=>HW w.1 w.2 (aY n Γ 0 o) (bT []) | none=>bO)else bO
  | _=>bO
termination_by structural n=>n
noncomputable def O0:Nat->Gm->Nat->Expr->Expr->List Expr->Pos->Gx PV
 | 0,_,_,_,_,_,_=>bO
 | n+1,Γ,m,f,a,es,cp=>match f with
  | .Name x _=>if fu x=true then(if qH Γ x=true then O1 n Γ m x a es else if IH Γ x=true then GH n Γ x a es else bO)else bO
  | .Subscript v k p=>pf Γ.fns Γ.call (aY n Γ 0 (.Subscript v k p)) (iE n Γ 0 (a::es))
  | .Attribute o g ap=>if(uM o&&(ap.endLine==cp.line)&&decide ((a::es).length<30))=true then(if g==("count":Str)then HW "list" F9 (aY n Γ 0 o) (iE n Γ 0 (a::es))else match wt g with | some w=>HW w.1 w.2 (aY n Γ 0 o) (iE n Γ (Xe Γ g o) (a::es)) | none=>bO)else bO
  | _=>bO
termination_by structural n=>n
noncomputable def GH:Nat->Gm->Str->Expr->List Expr->Gx PV
 | 0,_,_,_,_=>bO
 | n+1,Γ,x,a,es=>match slot Γ x with
  | some i=>pf Γ.fns Γ.call (rd i) (iE n Γ 0 (a::es))
  | none=>bO
termination_by structural n=>n
noncomputable def O1:Nat->Gm->Nat->Str->Expr->List Expr->Gx PV
 | 0,_,_,_,_,_=>bO
 | n+1,Γ,m,x,a,es=>if x==("spread":Str)then GI n Γ a es else match Γ.fns.lookup x with
  | some k=>bnd (iE n Γ 0 (a::es)) (ja m k (Γ.call x))
  | none=>match Γ.cls.lookup x with
   | some k=>(match m with | 0=>SA x k (Γ.make x) (iE n Γ 0 (a::es)) | _=>bO)
   | none=>if Γ.cD.contains x=true then(if x==("isinstance":Str)then GJ n Γ a es else if x==("sorted":Str)then GL n Γ a es else if x==("dict":Str)then O2 n Γ a es else if x==("list":Str)then GN n Γ m a es else if OW Γ x a es=true then OQ (aY n Γ 0 (Xg a))else match uP x with | some g=>zh g (iE n Γ 0 (a::es)) | none=>bO)else bO
termination_by structural n=>n
noncomputable def GI:Nat->Gm->Expr->List Expr->Gx PV
 | 0,_,_,_=>bO
 | n+1,Γ,a,es=>bO
termination_by structural n=>n
noncomputable def GN:Nat->Gm->Nat->Expr->List Expr->Gx PV
 | 0,_,_,_,_=>bO
 | n+1,Γ,m,a,es=>match es with
  | []=>(match zJ a with
   | some ⟨zs,_⟩=>if(zs.1==("range":Str)&&dU Γ zs.1&&(zs.2.1::zs.2.2).all aP)=true then WL m (iE n Γ 0 (zs.2.1::zs.2.2))else(match zs.2.2 with
    | [b]=>if(zs.1==("zip":Str)&&dU Γ zs.1&&aP zs.2.1&&aP b)=true then OI m (aY n Γ 0 zs.2.1) (aY n Γ 0 b)else bO
    | _=>bO)
   | none=>Ke m (aY n Γ 0 a))
  | _=>bO
termination_by structural n=>n
noncomputable def O2:Nat->Gm->Expr->List Expr->Gx PV
 | 0,_,_,_=>bO
 | n+1,Γ,a,es=>match es with
  | []=>(match a with
   | .BinOp l .Add r _=>Bk (aY n Γ 0 l) (aY n Γ 0 r)
   | a=>Kb (aY n Γ 0 a))
  | _=>bO
termination_by structural n=>n
noncomputable def GL:Nat->Gm->Expr->List Expr->Gx PV
 | 0,_,_,_=>bO
 | n+1,Γ,a,es=>bO
termination_by structural n=>n
noncomputable def GJ:Nat->Gm->Expr->List Expr->Gx PV
 | 0,_,_,_=>bO
 | n+1,Γ,a,es=>match es with
  | [.Name t _]=>if dU Γ t=true then(match A0 t with | some g=>V8 g (aY n Γ 0 a) | none=>bO)else bO
  | _=>bO
termination_by structural n=>n
noncomputable def OX:Nat->Gm->Expr->List CmpOp->List Expr->Gx PV
 | 0,_,_,_,_=>bO
 | n+1,Γ,a,ops,bs=>match ops,bs with
  | [op],[b]=>if aP b=true then(match GF Γ op b with | some y=>CJ y.1 y.2 (aY n Γ 0 a) | none=>match zj op with | some g=>op2 g (aY n Γ 0 a) (aY n Γ 0 b) | none=>bO)else bO
  | [op,vn],[b,c]=>if aP c=true then(match zj op,zj vn with | some g,some g'=>chain g g' (aY n Γ 0 a) (aY n Γ 0 b) (aY n Γ 0 c) | _,_=>bO)else bO
  | _,_=>bO
termination_by structural n=>n
noncomputable def OY:Nat->Gm->Expr->Expr->Gx PV
 | 0,_,_,_=>bO
 | n+1,Γ,a,b=>match uQ b with
  | some ⟨lh,_⟩=>cutE (aY n Γ 0 a) (C5 n Γ lh.1) (C5 n Γ lh.2)
  | none=>match zI b with
  | some ⟨lm,_⟩=>NG (aY n Γ 0 a) (C5 n Γ lm.1) (C5 n Γ (some lm.2))
  | none=>if nM b=true then(match a with
   | .Name T p=>if(fu T&&qH Γ T)=true then(match Γ.dg.lookup T with
    | some rows=>CI (λk=>rows.lookup k) (aY n Γ 0 b)
    | none=>match Γ.tabs.lookup T with
     | some rows=>CI (λk=>(rows.lookup k).map .fn) (aY n Γ 0 b)
     | none=>op2 dX (aY n Γ 0 (.Name T p)) (aY n Γ 0 b))else op2 dX (aY n Γ 0 (.Name T p)) (aY n Γ 0 b)
   | a=>op2 dX (aY n Γ 0 a) (aY n Γ 0 b))else bO
termination_by structural n=>n
noncomputable def qI:Nat->Gm->Expr->Gx Bool
 | 0,_,_=>bO
 | n+1,Γ,e=>match e with
  | .UnaryOp .Not a _=>zd (qI n Γ a)
  | .BoolOp op vs _=>GO n Γ op vs
  | .Compare a [op] [b] _=>if aP b=true then(match GF Γ op b with | some y=>toB (CJ y.1 y.2 (aY n Γ 0 a)) | none=>match zj op with | some g=>toB (op2 g (aY n Γ 0 a) (aY n Γ 0 b)) | none=>bO)else bO
  | .Compare a [op,vn] [b,c] _=>if aP c=true then(match zj op,zj vn with | some g,some g'=>toB (chain g g' (aY n Γ 0 a) (aY n Γ 0 b) (aY n Γ 0 c)) | _,_=>bO)else bO
  | e=>if zE e=true then vS (aY n Γ 0 e)else bO
termination_by structural n=>n
noncomputable def GG:Nat->Gm->BoolOp->List Expr->Gx PV
 | 0,_,_,_=>bO
 | n+1,Γ,op,[a]=>aY n Γ 0 a
 | n+1,Γ,.And,a::b::r=>Nc (aY n Γ 0 a) (GG n Γ .And (b::r))
 | n+1,Γ,.Or,a::b::r=>UJ (aY n Γ 0 a) (GG n Γ .Or (b::r))
 | _,_,_,_=>bO
termination_by structural n=>n
noncomputable def GO:Nat->Gm->BoolOp->List Expr->Gx Bool
 | 0,_,_,_=>bO
 | n+1,Γ,op,[a]=>qI n Γ a
 | n+1,Γ,.And,a::b::r=>iX (qI n Γ a) (GO n Γ .And (b::r)) (bT false)
 | n+1,Γ,.Or,a::b::r=>iX (qI n Γ a) (bT true) (GO n Γ .Or (b::r))
 | _,_,_,_=>bO
termination_by structural n=>n
noncomputable def iE:Nat->Gm->Nat->List Expr->Gx (List PV)
 | 0,_,_,_=>bO
 | n+1,Γ,m,[]=>bT []
 | n+1,Γ,m,e::es=>if aP e=true then dB (aY n Γ m e) (iE n Γ m es)else bO
termination_by structural n=>n
noncomputable def C5:Nat->Gm->Option Expr->Gx (Option Int)
 | 0,_,_=>bO
 | n+1,Γ,none=>bT none
 | n+1,Γ,some e=>Fb (aY n Γ 0 e)
termination_by structural n=>n
noncomputable def GP:Nat->Gm->Expr->Expr->Gx zw
 | 0,_,_,_=>bO
 | n+1,Γ,tg,e=>match e with
  | .Call (.Name x p) [a] [] cp=>if(x==("range":Str)&&dU Γ x&&aP a)=true then NX (Fw Cz (iE n Γ 0 [a]))
    else if(x==("enumerate":Str)&&dU Γ x&&aP a&&A7 tg)=true then NX (A8 (aY n Γ 0 a))
    else if(x==("reversed":Str)&&dU Γ x)=true then(match uR a []with | some ⟨ze,_⟩=>if(ze.1==("range":Str)&&dU Γ ze.1&&aP ze.2)=true then bO else bO | none=>bO)
    else o9 (aY n Γ 0 (.Call (.Name x p) [a] [] cp))
  | .Call (.Name x p) [a,b] [] cp=>if(x==("range":Str)&&dU Γ x&&aP a&&aP b)=true then NX (Fw JT (iE n Γ 0 [a,b]))
    else if(x==("zip":Str)&&dU Γ x&&aP a&&aP b&&A7 tg)=true then NX (OP (aY n Γ 0 a) (aY n Γ 0 b))
    else o9 (aY n Γ 0 (.Call (.Name x p) [a,b] [] cp))
  | e=>if aP e=true then o9 (aY n Γ 0 e)else bO
termination_by structural n=>n
noncomputable def OZ:Nat->Gm->Nat->Expr->List Comprehension->Scope->Gx PV
 | 0,_,_,_,_,_=>bO
 | n+1,Γ,m,elt,gens,scope=>match gens with
  | [⟨tg,iter,ifs,0⟩]=>if aP iter=true then(match uO n (sj Γ scope) tg with
   | some g=>if pV Γ scope g.2=true then(match ifs with
    | []=>fR (m != 0) (fT Γ scope) (GP n Γ tg iter) (m8 g.1 (aY n (sj Γ scope) (C3 m) elt))
    | [c]=>fR (m != 0) (fT Γ scope) (GP n Γ tg iter) (Fs g.1 (qI n (sj Γ scope) c) (aY n (sj Γ scope) (C3 m) elt))
    | _=>bO)else bO
   | none=>bO)else bO
  | _=>bO
termination_by structural n=>n
end
def CC(X:Cx)(aa:Hp)(ab:Fz)(elt:Expr)(gens:List Comprehension)(scope:Scope)(p:Pos)(f:Gx PV):Prop:=PE X (.ListComp elt gens scope p) (tE X aa ab f) /\
  ∀i x p' sp,X.N[i]?=some x->X.env.scope.names.lookup x=some .local->swapsWith (.ListComp elt gens scope p) (some (.Name x p')) sp.line X.env=pure true ->
   PS X (.Assign [.Name x p'] (.ListComp elt gens scope p) sp) (tS X aa ab (kO f (cg i)))
structure Xh (n:Nat):Prop where
 e:∀Γ X aa ab m e,GOk Γ X aa ab->PE X e (tE X aa ab (aY n Γ m e))
 f:∀Γ X aa ab m f a es cp,GOk Γ X aa ab->(a::es).all aP=true->PE X (.Call f (a::es) [] cp) (tE X aa ab (O0 n Γ m f a es cp))
 o:∀Γ X aa ab x a es p cp,GOk Γ X aa ab->(a::es).all aP=true->fu x=true->IH Γ x=true->PE X (.Call (.Name x p) (a::es) [] cp) (tE X aa ab (GH n Γ x a es))
 cn:∀Γ X aa ab m x a es p cp,GOk Γ X aa ab->(a::es).all aP=true->fu x=true->qH Γ x=true->PE X (.Call (.Name x p) (a::es) [] cp) (tE X aa ab (O1 n Γ m x a es))
 sp:∀Γ X aa ab a es p cp,GOk Γ X aa ab->(a::es).all aP=true->qH Γ "spread"=true->PE X (.Call (.Name "spread" p) (a::es) [] cp) (tE X aa ab (GI n Γ a es))
 st:∀Γ X aa ab a es p cp,GOk Γ X aa ab->(a::es).all aP=true->qH Γ "sorted"=true->Γ.cD.contains "sorted"=true->PE X (.Call (.Name "sorted" p) (a::es) [] cp) (tE X aa ab (GL n Γ a es))
 d:∀Γ X aa ab a es p cp,GOk Γ X aa ab->(a::es).all aP=true->qH Γ "dict"=true->Γ.cD.contains "dict"=true->PE X (.Call (.Name "dict" p) (a::es) [] cp) (tE X aa ab (O2 n Γ a es))
 li:∀Γ X aa ab m a es p cp,GOk Γ X aa ab->(a::es).all aP=true->qH Γ "list"=true->Γ.cD.contains "list"=true->PE X (.Call (.Name "list" p) (a::es) [] cp) (tE X aa ab (GN n Γ m a es))
 is:∀Γ X aa ab a es p cp,GOk Γ X aa ab->(a::es).all aP=true->qH Γ "isinstance"=true->Γ.cD.contains "isinstance"=true->PE X (.Call (.Name "isinstance" p) (a::es) [] cp) (tE X aa ab (GJ n Γ a es))
 k:∀Γ X aa ab a ops bs p,GOk Γ X aa ab->PE X (.Compare a ops bs p) (tE X aa ab (OX n Γ a ops bs))
 x:∀Γ X aa ab a b p,GOk Γ X aa ab->PE X (.Subscript a b p) (tE X aa ab (OY n Γ a b))
 t:∀Γ X aa ab e,GOk Γ X aa ab->PT X e (tT X aa ab (qI n Γ e))
 b:∀Γ X aa ab op vs p,GOk Γ X aa ab->PE X (.BoolOp op vs p) (tE X aa ab (GG n Γ op vs))
 w:∀Γ X aa ab op vs p,GOk Γ X aa ab->PW X (.BoolOp op vs p) (tT X aa ab (GO n Γ op vs))
 a:∀Γ X aa ab m es,GOk Γ X aa ab->PA X es (tA X aa ab (iE n Γ m es))
 l:∀Γ X aa ab e,GOk Γ X aa ab->PO X e (Jv X aa ab (C5 n Γ e))
 i:∀Γ X aa ab tg e,GOk Γ X aa ab->PI X tg e (CA X aa ab (GP n Γ tg e))
 c:∀Γ X aa ab m elt gens scope p,GOk Γ X aa ab->CC X aa ab elt gens scope p (OZ n Γ m elt gens scope)
def pI{X:Cx}{aa:Hp}{ab:Fz}{e:Expr}{c:Prop} [Decidable c] {f g:Gx PV} (h:c->PE X e (tE X aa ab f)) (h':PE X e (tE X aa ab g)):PE X e (tE X aa ab (if c then f else g)):=by
 split
 ·exact h ‹_›
 ·exact h'
def pJ{X:Cx}{aa:Hp}{ab:Fz}{e:Expr}{c:Prop} [Decidable c] {f:Gx PV} (h:c->PE X e (tE X aa ab f)):PE X e (tE X aa ab (if c then f else bO)):=pI h aU
def gj:PS X s (tS X aa ab bO):=λ_ _ _ _ _ _ ⟨F,st,R,r,z,_⟩=>by cases z
def uS:PS X s (tS X aa ab (kO bO g)):=λ_ _ _ _ _ _ ⟨F,st,R,r,z,_⟩=>by cases z
def Tb{ab:Fz}:PO X e (Jv X aa ab bO):=λ_ _ _ _ _ _ h=>sk h
def GQ:Xh 0 where
 e:=λ_ _ _ _ _ _ _=>aU
 f:=λ_ _ _ _ _ _ _ _ _ _ _=>aU
 o:=λ_ _ _ _ _ _ _ _ _ _ _ _ _=>aU
 cn:=λ_ _ _ _ _ _ _ _ _ _ _ _ _ _=>aU
 sp:=λ_ _ _ _ _ _ _ _ _ _ _=>aU
 st:=λ_ _ _ _ _ _ _ _ _ _ _ _=>aU
 d:=λ_ _ _ _ _ _ _ _ _ _ _ _=>aU
 li:=λ_ _ _ _ _ _ _ _ _ _ _ _ _=>aU
 is:=λ_ _ _ _ _ _ _ _ _ _ _ _=>aU
 k:=λ_ _ _ _ _ _ _ _ _=>aU
 x:=λ_ _ _ _ _ _ _ _=>aU
 t:=λ_ _ _ _ _ _=>su
 b:=λ_ _ _ _ _ _ _ _=>aU
 w:=λ_ _ _ _ _ _ _ _=>GD
 a:=λ_ _ _ _ _ _ _=>LR
 l:=λ_ _ _ _ _ _=>Tb
 i:=λ_ _ _ _ _ _ _=>wN
 c:=λ_ _ _ _ _ _ _ _ _ _=>⟨aU,λ_ _ _ _ _ _ _=>uS⟩
section
variable {n:Nat} (S:Xh n)
include S
def Tc(Γ:Gm)(X:Cx)(aa:Hp)(ab:Fz)(op:BoolOp)(vs:List Expr)(p:Pos)(G:GOk Γ X aa ab):PE X (.BoolOp op vs p) (tE X aa ab (GG (n+1) Γ op vs)):=by
 match op,vs with
 | .And,[]=>exact aU
 | .Or,[]=>exact aU
 | .And,[a]=>exact Ep (S.e Γ X aa ab 0 a G)
 | .Or,[a]=>exact Ep (S.e Γ X aa ab 0 a G)
 | .And,a::b::r=>exact RB (S.e Γ X aa ab 0 a G) (S.b Γ X aa ab .And (b::r) p G)
 | .Or,a::b::r=>exact V3 (S.e Γ X aa ab 0 a G) (S.b Γ X aa ab .Or (b::r) p G)
def Td(Γ:Gm)(X:Cx)(aa:Hp)(ab:Fz)(op:BoolOp)(vs:List Expr)(p:Pos)(G:GOk Γ X aa ab):PW X (.BoolOp op vs p) (tT X aa ab (GO (n+1) Γ op vs)):=by
 match op,vs with
 | .And,[]=>exact GD
 | .Or,[]=>exact GD
 | .And,[a]=>exact Iy (S.t Γ X aa ab a G)
 | .Or,[a]=>exact Mw (S.t Γ X aa ab a G)
 | .And,a::b::r=>exact Rz (S.t Γ X aa ab a G) (S.w Γ X aa ab .And (b::r) p G)
 | .Or,a::b::r=>exact V2 (S.t Γ X aa ab a G) (S.w Γ X aa ab .Or (b::r) p G)
def Tf(Γ:Gm)(X:Cx)(aa:Hp)(ab:Fz)(m:Nat)(es:List Expr)(G:GOk Γ X aa ab):PA X es (tA X aa ab (iE (n+1) Γ m es)):=by
 match es with
 | []=>exact RD
 | e::es =>
  unfold iE;split
  ·rename_i hp;exact Nf (S.e Γ X aa ab m e G) (S.a Γ X aa ab m es G) (aJ hp _ _)
  ·exact LR
def Th(Γ:Gm)(X:Cx)(aa:Hp)(ab:Fz)(e:Option Expr)(G:GOk Γ X aa ab):PO X e (Jv X aa ab (C5 (n+1) Γ e)):=by
 match e with
 | none=>exact NA
 | some e=>exact NB (S.e Γ X aa ab 0 e G)
def Ti(Γ:Gm)(X:Cx)(aa:Hp)(ab:Fz)(a:Expr)(ops:List CmpOp)(bs:List Expr)(p:Pos)(G:GOk Γ X aa ab):PE X (.Compare a ops bs p) (tE X aa ab (OX (n+1) Γ a ops bs)):=by
 rcases ops with _ | ⟨op,_ | ⟨vn,_ | _⟩⟩<;>rcases bs with _ | ⟨b,_ | ⟨c,_ | _⟩⟩<;>try exact aU
 ·show PE X _ (tE X aa ab (ite _ _ _));split
  ·rename_i hp;split
   ·rename_i y h0;obtain⟨T,q,rfl,h1,h2,h3,h4⟩:=pW h0;exact(LH (G.dg _ _ h3) (G.fE h2) (S.e Γ X aa ab 0 _ G) (eS h1).1 h4 (dR hp _)).1
   split
   ·rename_i g h1;exact Rv (jk G.un h1) (S.e Γ X aa ab 0 _ G) (S.e Γ X aa ab 0 _ G) (dR hp _)
   ·exact aU
  ·exact aU
 ·show PE X _ (tE X aa ab (ite _ _ _));split
  ·rename_i hp;split
   ·rename_i g g' h1 h2;exact Jk (jk G.un h1) (jk G.un h2) (S.e Γ X aa ab 0 _ G) (S.e Γ X aa ab 0 _ G) (S.e Γ X aa ab 0 _ G) (dR hp _)
   ·exact aU
  ·exact aU
def Tj(Γ:Gm)(X:Cx)(aa:Hp)(ab:Fz)(e:Expr)(G:GOk Γ X aa ab):PT X e (tT X aa ab (qI (n+1) Γ e)):=by
 have df:∀e,PT X e (tT X aa ab (if zE e=true then vS (aY n Γ 0 e)else bO)):=λe=>by
  split
  ·rename_i hp;exact Ry (S.e Γ X aa ab 0 _ G) λiu=>Gw hp _ iu
  ·exact su
 cases e with
 | UnaryOp op=>cases op with
  | Not=>exact RA (S.t Γ X aa ab _ G)
  | _=>exact df _
 | BoolOp=>exact(S.w Γ X aa ab _ _ _ G).pt
 | Compare a ops bs =>
  rcases ops with _ | ⟨op,_ | ⟨vn,_ | _⟩⟩<;>rcases bs with _ | ⟨b,_ | ⟨c,_ | _⟩⟩<;>try exact df _
  ·show PT X _ (tT X aa ab (ite _ _ _));split
   ·rename_i hp;split
    ·rename_i y h0;obtain⟨T,q,rfl,h1,h2,h3,h4⟩:=pW h0;exact(LH (G.dg _ _ h3) (G.fE h2) (S.e Γ X aa ab 0 _ G) (eS h1).1 h4 (dR hp _)).2
    split
    ·rename_i g h1;exact Rx (jk G.un h1) (S.e Γ X aa ab 0 _ G) (S.e Γ X aa ab 0 _ G) (dR hp _)
    ·exact su
   ·exact su
  ·show PT X _ (tT X aa ab (ite _ _ _));split
   ·rename_i hp;split
    ·rename_i g g' h1 h2;exact Jl (jk G.un h1) (jk G.un h2) (S.e Γ X aa ab 0 _ G) (S.e Γ X aa ab 0 _ G) (S.e Γ X aa ab 0 _ G) (dR hp _)
    ·exact su
   ·exact su
 | _=>exact df _
def O3(Γ:Gm)(X:Cx)(aa:Hp)(ab:Fz)(a:Expr)(es:List Expr)(p cp:Pos)(G:GOk Γ X aa ab)(hp:(a::es).all aP=true)(hg:qH Γ "sorted"=true)(hb:Γ.cD.contains "sorted"=true):PE X (.Call (.Name "sorted" p) (a::es) [] cp) (tE X aa ab (GL (n+1) Γ a es)):=by
 exact aU
def Tn(Γ:Gm)(X:Cx)(aa:Hp)(ab:Fz)(a:Expr)(es:List Expr)(p cp:Pos)(G:GOk Γ X aa ab)(hp:(a::es).all aP=true)(hg:qH Γ "dict"=true)(hb:Γ.cD.contains "dict"=true):PE X (.Call (.Name "dict" p) (a::es) [] cp) (tE X aa ab (O2 (n+1) Γ a es)):=by
 rw[gu,aC]at hp;cases es with
 | cons=>exact aU
 | nil=>cases a with
  | BinOp l op=>cases op with
   | Add=>exact Oq G.hd (G.fE hg) (G.cD _ hb) (S.e Γ X aa ab 0 _ G) (S.e Γ X aa ab 0 _ G) rfl
   | _=>exact F8 G.hd (G.fE hg) (G.cD _ hb) (S.e Γ X aa ab 0 _ G) (aJ hp.1 _ _)
  | _=>exact F8 G.hd (G.fE hg) (G.cD _ hb) (S.e Γ X aa ab 0 _ G) (aJ hp.1 _ _)
def O4(Γ:Gm)(X:Cx)(aa:Hp)(ab:Fz)(m:Nat)(a:Expr)(es:List Expr)(p cp:Pos)(G:GOk Γ X aa ab)(hp:(a::es).all aP=true)(hg:qH Γ "list"=true)(hb:Γ.cD.contains "list"=true):PE X (.Call (.Name "list" p) (a::es) [] cp) (tE X aa ab (GN (n+1) Γ m a es)):=by
 rw[gu,aC]at hp;cases es with
 | cons=>exact aU
 | nil =>
  show PE X _ (tE X aa ab (match zJ a with | some ⟨zs,_⟩=>_ | none=>Ke m (aY n Γ 0 a)))
  rcases zJ a with _ | ⟨⟨z,b,bs⟩,zp,ph,rfl⟩
  ·exact Oy (G.fE hg) (G.cD _ hb) (S.e Γ X aa ab 0 _ G) λ_=>aJ hp.1 _ _
  ·refine pI (λhc=>?_) ?_
   ·simp only[dU,aC]at hc;obtain⟨⟨hx,g1,g2⟩,DQ⟩:=hc;have hx:=aG hx;subst hx;rw[gu,aC]at DQ;exact SQ G.hd (G.fE hg) (G.cD _ hb) (G.fE g1) (G.cD _ g2) (S.a Γ X aa ab 0 _ G) (aJ DQ.1 _ _) (dS DQ.2 _ _)
   ·rcases bs with _ | ⟨c,_ | _⟩
    ·exact aU
    ·refine pJ λhc=>?_
     simp only[dU,aC]at hc;obtain⟨⟨⟨hx,g1,g2⟩,p1⟩,p2⟩:=hc;have hx:=aG hx;subst hx;exact OJ G.hd (G.fE hg) (G.cD _ hb) (G.fE g1) (G.cD _ g2) (S.e Γ X aa ab 0 _ G) (S.e Γ X aa ab 0 _ G) (aJ p1 _ _) (aJ p2 _ _)
    ·exact aU
def O5(Γ:Gm)(X:Cx)(aa:Hp)(ab:Fz)(a:Expr)(es:List Expr)(p cp:Pos)(G:GOk Γ X aa ab)(hp:(a::es).all aP=true)(hg:qH Γ "isinstance"=true)(hb:Γ.cD.contains "isinstance"=true):PE X (.Call (.Name "isinstance" p) (a::es) [] cp) (tE X aa ab (GJ (n+1) Γ a es)):=by
 cases es with
 | nil=>exact aU
 | cons e es=>cases e with
  | Name t=>cases es with
   | cons=>exact aU
   | nil =>
    refine pJ λhc=>?_
    unfold dU at hc;rw[aC]at hc;rw[gu,aC]at hp;cases h1:A0 t with
    | none=>exact aU
    | some g=>exact V9 h1 (G.fE hg) (G.cD _ hb) (G.fE hc.1) (G.cD _ hc.2) (S.e Γ X aa ab 0 a G) λes=>aJ hp.1 es _
  | _=>exact aU
def To(Γ:Gm)(X:Cx)(aa:Hp)(ab:Fz)(a b:Expr)(p:Pos)(G:GOk Γ X aa ab):PE X (.Subscript a b p) (tE X aa ab (OY (n+1) Γ a b)):=by
 show PE X _ (tE X aa ab (match uQ b with | some ⟨lh,_⟩=>_ | none=>_))
 rcases uQ b with _ | ⟨⟨lo,hi⟩,ps,rfl⟩
 ·show PE X _ (tE X aa ab (match zI b with | some ⟨lm,_⟩=>_ | none=>_))
  rcases zI b with _ | ⟨⟨lo,hi⟩,ps,rfl⟩
  rotate_left
  ·exact RR (S.e Γ X aa ab 0 _ G) (S.l Γ X aa ab _ G) (S.l Γ X aa ab _ G)
  refine pJ λhp=>?_
  have gen:=λa=>Wb (pos:=p) G.un (S.e Γ X aa ab 0 a G) (S.e Γ X aa ab 0 b G) (pU hp)
  cases a with
  | Name T =>
   refine pI (λhc=>?_) (gen _)
   rw[aC]at hc;cases h0:Γ.dg.lookup T with
   | some rows=>exact Ss (G.dg _ rows h0) (G.fE hc.2) (S.e Γ X aa ab 0 _ G) (pU hp) (eS hc.1).1
   | none =>
    cases h1:Γ.tabs.lookup T with
    | some rows=>exact Su (G.tabs _ rows h1) (G.fE hc.2) (S.e Γ X aa ab 0 _ G) (pU hp) (eS hc.1).1
    | none=>exact gen _
  | _=>exact gen _
 ·exact RM (S.e Γ X aa ab 0 _ G) (S.l Γ X aa ab _ G) (S.l Γ X aa ab _ G)
def Tp(Γ:Gm)(X:Cx)(aa:Hp)(ab:Fz)(tg e:Expr)(G:GOk Γ X aa ab):PI X tg e (CA X aa ab (GP (n+1) Γ tg e)):=by
 have df:∀e,PI X tg e (CA X aa ab (if aP e=true then o9 (aY n Γ 0 e)else bO)):=λe=>by
  split
  ·exact FG (S.e Γ X aa ab 0 _ G)
  ·exact wN
 cases e with
 | Call f as ks=>cases f with
  | Name x p =>
   rcases as with _ | ⟨a,_ | ⟨b,_ | _⟩⟩<;>rcases ks with _ | _<;>try exact df _
   ·show PI X _ _ (CA X aa ab (ite _ _ _));split
    ·rename_i hc;simp only[dU,aC]at hc;obtain⟨⟨hx,hg,hb⟩,hp⟩:=hc;have hx:=aG hx;subst hx;exact JW <| Fx (G.fE hg) (G.cD _ hb) (S.a Γ X aa ab 0 _ G) (aJ hp _ _)
    ·split
     ·rename_i hc;simp only[dU,aC]at hc;obtain⟨⟨⟨hx,hg,hb⟩,hp⟩,ht⟩:=hc;have hx:=aG hx;subst hx;exact JW <| Wo ht (G.fE hg) (G.cD _ hb) (S.e Γ X aa ab 0 _ G) (aJ hp _ _)
     ·split
      ·rename_i hc;simp only[dU,aC]at hc;obtain⟨hx,hg,hb⟩:=hc;have hx:=aG hx;subst hx;rcases uR a []with _ | ⟨⟨z,e⟩,_,zp,ph,rfl⟩
       ·exact wN
       ·show PI X _ _ (CA X aa ab (ite _ _ _));split
        ·rename_i hc;simp only[dU,aC]at hc;obtain⟨⟨hx,g1,g2⟩,DQ⟩:=hc;have hx:=aG hx;subst hx;exact wN
        ·exact wN
      ·exact FG (S.e Γ X aa ab 0 _ G)
   ·show PI X _ _ (CA X aa ab (ite _ _ _));split
    ·rename_i hc;simp only[dU,aC]at hc;obtain⟨⟨⟨hx,hg,hb⟩,hp⟩,DQ⟩:=hc;have hx:=aG hx;subst hx;exact JW <| Fy (G.fE hg) (G.cD _ hb) (S.a Γ X aa ab 0 _ G) (by rw[aJ hp,aJ DQ];rfl) (aJ DQ _ _)
    ·split
     ·rename_i hc;simp only[dU,aC]at hc;obtain⟨⟨⟨⟨hx,hg,hb⟩,hp⟩,DQ⟩,ht⟩:=hc;have hx:=aG hx;subst hx;exact JW <| S6 ht (G.fE hg) (G.cD _ hb) (S.e Γ X aa ab 0 _ G) (S.e Γ X aa ab 0 _ G) (aJ hp _ _) (aJ DQ _ _)
     ·exact FG (S.e Γ X aa ab 0 _ G)
  | _=>exact df _
 | _=>exact df _
def Kq:CC X aa ab elt gens scope p bO:=⟨aU,λ_ _ _ _ _ _ _=>uS⟩
def cI{c:Prop} [Decidable c] (h:c->CC X aa ab elt gens scope p f):CC X aa ab elt gens scope p (if c then f else bO):=by
 split
 ·exact h ‹_›
 ·exact Kq
def Tq(Γ:Gm)(X:Cx)(aa:Hp)(ab:Fz)(m:Nat)(elt:Expr)(gens:List Comprehension)(scope:Scope)(p:Pos)(G:GOk Γ X aa ab):CC X aa ab elt gens scope p (OZ (n+1) Γ m elt gens scope):=by
 rcases gens with _ | ⟨⟨tg,iter,ifs,(_ | _) | _⟩,_ | _⟩<;>try exact Kq
 refine cI λhp=>?_
 cases h2:uO n (sj Γ scope) tg with
 | none=>exact Kq
 | some g =>
  refine cI λhc=>?_
  have SC:=zH G hc;have hL:=(la hc).2.2.2;have GK:=GB G hc;have hi:=S.i Γ X aa ab tg iter G;have hg:=λC s H fp=>(k9 (GK C s H fp aa ab) n tg g h2).1
  have kg:=(k9 (GK 0 X.s₀ X.aa [] aa ab) n tg g h2).2.1;have he:=λC s H fp=>S.e _ _ _ _ (C3 m) elt (GK C s H fp aa ab)
  rcases ifs with _ | ⟨c,_ | _⟩
  ·exact⟨(A5 G.calm SC hi (YH hg he) (fS hp _)).imp λσ H Q h=>FH kg hL h,λi x p' sp hx hl hw=>(A6 G.calm G.nd hx hl SC hi (YH hg he) hw (fS hp _)).imp λD σ H h=>FH kg hL (nJ h)⟩
  ·have ht:=λC s H fp=>S.t _ _ _ _ c (GK C s H fp aa ab)
   exact⟨(A5 G.calm SC hi (YI hg he ht) (fS hp _)).imp λσ H Q h=>FI kg hL h,λi x p' sp hx hl hw=>(A6 G.calm G.nd hx hl SC hi (YI hg he ht) hw (fS hp _)).imp λD σ H h=>FI kg hL (nJ h)⟩
  ·exact Kq
def Ts(Γ:Gm)(X:Cx)(aa:Hp)(ab:Fz)(x:Str)(a:Expr)(es:List Expr)(p cp:Pos)(G:GOk Γ X aa ab)(hp:(a::es).all aP=true)(hn:fu x=true)(hv:IH Γ x=true):PE X (.Call (.Name x p) (a::es) [] cp) (tE X aa ab (GH (n+1) Γ x a es)):=by
 have xQ:=nY.mp (gu▸hp);cases h1:slot Γ x with
 | none=>show PE X _ (tE X aa ab (match slot Γ x with | some i=>_ | none=>bO));rw[h1];exact aU
 | some i =>
  show PE X _ (tE X aa ab (match slot Γ x with | some i=>pf Γ.fns Γ.call (rd i) (iE n Γ 0 (a::es)) | none=>bO))
  rw[h1];exact J5 G.fns G.ns (Ls i (se G hn hv h1)) (S.a Γ X aa ab 0 _ G) (aJ xQ.1 _ _) (dS xQ.2 _ _)
def O6(Γ:Gm)(X:Cx)(aa:Hp)(ab:Fz)(a:Expr)(es:List Expr)(p cp:Pos)(G:GOk Γ X aa ab)(hp:(a::es).all aP=true)(hg:qH Γ "spread"=true):PE X (.Call (.Name "spread" p) (a::es) [] cp) (tE X aa ab (GI (n+1) Γ a es)):=by
 exact aU
def Tt(Γ:Gm)(X:Cx)(aa:Hp)(ab:Fz)(m:Nat)(x:Str)(a:Expr)(es:List Expr)(p cp:Pos)(G:GOk Γ X aa ab)(hp:(a::es).all aP=true)(hn:fu x=true)(hg:qH Γ x=true):PE X (.Call (.Name x p) (a::es) [] cp) (tE X aa ab (O1 (n+1) Γ m x a es)):=by
 have xQ:=hp;rw[gu,aC]at xQ;obtain⟨n1,n2,n3⟩:=eS hn;have ha:=S.a Γ X aa ab 0 (a::es) G;have h1:=aJ xQ.1 es X.env;have h2:=dS xQ.2 X.env cp;refine pI (λhx=>?_) ?_
 ·cases aG hx;exact S.sp Γ X aa ab a es p cp G hp hg
 cases hk:Γ.fns.lookup x with
 | some k =>
  obtain⟨j,f,fd,ps,F,hr,q1,q2,q3⟩:=G.fns _ k hk;exact N5 (Xd F hr q3) (G.fE hg) q1 q2 ha n1 h1 h2
 | none=>cases hk:Γ.cls.lookup x with
  | some k=>cases m with
   | zero =>
    obtain⟨j,Ca,f,fd,ps,hC,c,M,F,hr,q1,q2⟩:=G.cls _ k hk;exact(IY (p:=p) M F hr (G.fE hg) q1 q2 .nil EY ha n1 h1 h2).imp λσ H Q h=>J6 hC c h
   | succ=>exact aU
  | none =>
   refine pJ λhb=>pI (λhx=>?_) (pI (λhx=>?_) (pI (λhx=>?_) (pI (λhx=>?_) (pI (λhx=>?_) ?_))))
   ·cases aG hx;exact S.is Γ X aa ab a es p cp G hp hg hb
   ·cases aG hx;exact S.st Γ X aa ab a es p cp G hp hg hb
   ·cases aG hx;exact S.d Γ X aa ab a es p cp G hp hg hb
   ·cases aG hx;exact S.li Γ X aa ab m a es p cp G hp hg hb
   ·obtain⟨rfl,rfl,e,zp,zq,rfl,g1,g2,g3⟩:=C4 hx;exact OR G.hd (G.fE hg) (G.cD _ hb) (G.fE g1) (G.cD _ g2) (S.e Γ X aa ab 0 _ G) (aJ g3 _ _)
   cases hg':uP x with
   | some g=>exact OT hg' G.hd (G.fE hg) (G.cD _ hb) ha h1 h2
   | none=>exact aU
def Tu(Γ:Gm)(X:Cx)(aa:Hp)(ab:Fz)(m:Nat)(f a:Expr)(es:List Expr)(cp:Pos)(G:GOk Γ X aa ab)(hp:(a::es).all aP=true):PE X (.Call f (a::es) [] cp) (tE X aa ab (O0 (n+1) Γ m f a es cp)):=by
 have xQ:=hp;rw[gu,aC]at xQ;cases f with
 | Name=>exact pJ λhn=>pI (λhg=>S.cn Γ X aa ab m _ a es _ cp G hp hn hg) (pJ λhv=>S.o Γ X aa ab _ a es _ cp G hp hn hv)
 | Subscript=>exact J4 G.fns G.ns (S.e Γ X aa ab 0 _ G) (S.a Γ X aa ab 0 _ G) (aJ xQ.1 _ _) (dS xQ.2 _ _)
 | Attribute o g ap =>
  refine pJ λhc=>?_
  simp only[aC,iO]at hc;refine pI (λhx=>?_) ?_
  ·have hx:=aG hx;subst hx;exact SV G.un (S.e Γ X aa ab 0 _ G) (S.a Γ X aa ab _ _ G) (k8 hc.1.1) (Bt hp hc.2) hc.1.2 (aJ xQ.1 _ _) (dS xQ.2 _ _)
  show PE X _ (tE X aa ab (match wt g with | some w=>_ | none=>bO))
  cases hw:wt g with
  | none=>exact aU
  | some w=>exact Wx G.un hw (S.e Γ X aa ab 0 _ G) (S.a Γ X aa ab _ _ G) (k8 hc.1.1) (Bt hp hc.2) hc.1.2 (aJ xQ.1 _ _) (dS xQ.2 _ _)
 | _=>exact aU
def Tv(Γ:Gm)(X:Cx)(aa:Hp)(ab:Fz)(m:Nat)(e:Expr)(G:GOk Γ X aa ab):PE X e (tE X aa ab (aY (n+1) Γ m e)):=by
 cases e with
 | Constant c=>cases c<;>first | exact aU | exact Rt | exact V0 | exact Rq | exact Ru
 | Name x =>
  show PE X _ (tE X aa ab (OU Γ x));unfold OU;split
  ·rename_i hn;split
   ·rename_i hv;split
    ·rename_i i hi;exact Ls i (se G hn hv hi)
    ·exact aU
   ·split
    ·rename_i hg;split
     ·rename_i q hq;obtain⟨u,v,g1,g2,g3⟩:=G.cons _ q hq;exact vQ (kC (G.fE hg) g1 g2 (eS hn).1) g3
     ·exact aU
    ·exact aU
  ·exact aU
 | BinOp a op b =>
  refine pI (λhc=>?_) ?_
  ·rw[aC]at hc;obtain rfl:op=.Add:=by
    cases op<;>first | rfl | cases hc.2
   exact OA (S.e Γ X aa ab 0 _ G) (S.e Γ X aa ab 0 _ G)
  show PE X _ (tE X aa ab (match Kp op with | some g=>op2 g (aY n Γ 0 a) (aY n Γ 0 b) | none=>bO))
  cases h1:Kp op with
  | none=>exact aU
  | some=>exact V1 (Gj h1) (S.e Γ X aa ab 0 _ G) (S.e Γ X aa ab 0 _ G)
 | UnaryOp op=>cases op with
  | Not=>exact RC (S.e Γ X aa ab 0 _ G)
  | USub=>exact RP (S.e Γ X aa ab 0 _ G)
  | _=>exact aU
 | BoolOp=>exact S.b Γ X aa ab _ _ _ G
 | Compare=>exact S.k Γ X aa ab _ _ _ _ G
 | IfExp=>exact V4 (S.t Γ X aa ab _ G) (S.e Γ X aa ab m _ G) (S.e Γ X aa ab m _ G)
 | Tuple=>exact RE (S.a Γ X aa ab m _ G)
 | List=>cases m with
  | zero=>exact RF (S.a Γ X aa ab 0 _ G)
  | succ=>exact Ng (S.a Γ X aa ab _ _ G)
 | Dict ks vs=>rcases ks with _ | _<;>rcases vs with _ | _<;>first | exact Sr _ | exact aU
 | Subscript=>exact S.x Γ X aa ab _ _ _ G
 | ListComp=>exact(S.c Γ X aa ab m _ _ _ _ G).1
 | Attribute =>
  show PE X _ (tE X aa ab (ite _ _ _));split
  ·rename_i hb;exact Sw (S.e Γ X aa ab 0 _ G) (k8 hb)
  ·exact aU
 | Call f as ks=>cases as with
  | cons=>cases ks with
   | cons=>exact aU
   | nil =>
    show PE X _ (tE X aa ab (ite _ _ _));split
    ·rename_i hp;exact S.f Γ X aa ab m _ _ _ _ G hp
    ·exact aU
  | nil=>cases ks with
   | cons=>cases f<;>exact aU
   | nil=>cases f with
    | Attribute =>
     show PE X _ (tE X aa ab (ite _ _ _));split
     ·rename_i hc;rw[aC]at hc;split
      ·rename_i hx;have hx:=aG hx;subst hx;exact SE (S.e Γ X aa ab 0 _ G) (k8 hc.1) hc.2
      split
      ·rename_i w hw;exact Sm hw (S.e Γ X aa ab 0 _ G) (k8 hc.1) hc.2
      ·exact aU
     ·exact aU
    | _=>exact aU
 | _=>exact aU
end
theorem snd:∀n:Nat,Xh n
 | 0=>GQ
 | n+1 =>
  have S:=snd n
  ⟨Tv S,Tu S,Ts S,Tt S,O6,O3,Tn S,O4 S,O5 S,Ti S,To S,Tj S,Tc S,Td S,Tf S,Th S,Tp S,Tq S⟩
structure Xi (Γ:Gm) (X:Cx) (aa:Hp) (ab:Fz):Prop extends GOk Γ X aa ab where
 never:PassesOwn (model X.prog X.w) X.A X.env X.xe
noncomputable def GR:Expr->Bool
 | .ListComp _ _ _ _=>true
 | _=>false
def qJ:G2:=m5 (λ_ _=>true) λi j=>.int (i+j)
def O7:Operator->Option G2
 | .Add=>some qJ
 | _=>none
def sI{c:Prop} [Decidable c] (h:c->PS X e (tS X aa ab f)):PS X e (tS X aa ab (if c then f else bO)):=by
 split
 ·exact h ‹_›
 ·exact gj
section
variable {Γ:Gm} {X:Cx} {x:Str} {p sp:Pos} {e:Expr} {op:Operator} {i:Nat} {aa:Hp} {ab:Fz} {fe:Gx PV} {g:G2}
def Kr(h:O7 op=some g):qr X (inplaceOp op) g:=by
 cases op<;>cases h
 exact eM (rK IM) (λ_ _ _=>trivial) λ_ _ _=>au.mpr rfl
def Ks{st:bX}(h:rd i st=some r):∃p,st.ρ[i]?=some (some p)/\r=(.ok p,st):=by
 obtain⟨p,e1,e2⟩:=aL h;cases z:st.ρ[i]? with
 | none=>rw[z]at e1;cases e1
 | some o =>
  rw[z]at e1;cases o with
  | none=>cases e1
  | some p'=>cases e1;exact⟨p,rfl,e2.symm⟩
def Tw(ho:qr X (inplaceOp op) g)(he:PE X e (tE X aa ab fe))(hN:X.N.Nodup)(hi:X.N[i]?=some x)(hx:Lf X.env.scope x)(hf:X.fn x=true\/X.env.scope.names.lookup x=some .local):PS X (.AugAssign (.Name x p) op e sp) (tS X aa ab (kO (op2 g (rd i) fe) (cg i))):=by
 refine(MF hN hi hx he (λae s σ H x y v u Q I r1 r2 t=>ho ae s σ H x y v u Q I r1 r2 t) hf).imp λD σ H h=>?_
 obtain⟨F,st,R,h⟩:=nJ h;obtain⟨r,e1,e2⟩:=At.bnd h;obtain⟨q,e3,rfl⟩:=Ks e1;obtain⟨v,h3,h4⟩:=R.l.av i q e3;refine⟨v,h3,F,st,R,Tx.bnd (e2) λy w F1 aI H1 R1 g1 b1 h1=>?_⟩
 obtain⟨z,hz,k⟩:=h1.hp;exact⟨aa,ab,F1,aI,σ,q,y,z,hz,R1,h4.mono g1,b1,k⟩
def wO(G:GOk Γ X aa ab)(hs:slot Γ x=some i)(hx:Qd Γ x=true)(he:PE X e (tE X aa ab fe))(hsw:swapsWith e (some (.Name x p)) sp.line X.env=pure false):PS X (.Assign [.Name x p] e sp) (tS X aa ab (kO fe (cg i))):=by
 obtain⟨h1,h2⟩:=G.OS hx;exact(ME G.nd (G.sd hs) h1 he hsw h2).imp λD σ H h=>nJ h
def zK :
  (swapsWith (.ListComp elt gens scope cp) (some (.Name x p)) sp.line X.env=pure true/\X.env.scope.names.lookup x=some .local)\/swapsWith (.ListComp elt gens scope cp) (some (.Name x p)) sp.line X.env=pure false:=by
 have e:swapsWith (.ListComp elt gens scope cp) (some (.Name x p)) sp.line X.env=pure (X.env.blockKind==.function&&X.env.kindOf x==some .local&&p.line==(Expr.ListComp elt gens scope cp).pos.line&&!(scope.names.any fun(n,k)=>n==x&&(k==.local || k==.cell))):=rfl
 rw[e];cases hb:(X.env.blockKind==.function&&X.env.kindOf x==some .local&&p.line==(Expr.ListComp elt gens scope cp).pos.line&&!(scope.names.any fun(n,k)=>n==x&&(k==.local || k==.cell)))with
 | true =>
  refine .inl ⟨rfl,?_⟩;simp only[aC]at hb;exact aG hb.1.1.2
 | false=>exact .inr rfl
def C6(h:(i8 e || GR e)=true)(l:Nat)(env:Env):swapsWith e (some (.Attribute a x p)) l env=pure false:=by
 cases e<;>first | rfl | cases h
def C7{a x:Expr}(h:(i8 e || GR e)=true)(l:Nat)(env:Env):swapsWith e (some (.Subscript a x p)) l env=pure false:=by
 cases e<;>first | rfl | cases h
def zL(h:nM k=true)(env:Env)(v:Value):assign (.Subscript o k p) env v=(do
   let ov <-holding [v] (eval o env)
   let iv <-holding [v,ov] (eval k env)
   standAt p
   holding [v,ov,iv] (setItem ov iv v)
   release [v,ov,iv] []):=by
 cases k<;>first | rfl | cases h
def zM(env:Env):swappedStores [.Subscript o k p] e env=pure none:=by
 cases e<;>rfl
end
noncomputable def Y6:Nat:=8000000
def isD(Γ:Gm):Expr->Bool
 | .Name x _=>md Γ x==10
 | _=>false
noncomputable def Y7:Str:="[return]"
def asName(n:Nat)(Γ:Gm)(x:Str)(e:Expr):Gx d9:=if(Qd Γ x&&(i8 e || GR e))=true then(match slot Γ x with | some i=>kO (aY n Γ (md Γ x) e) (cg i) | none=>bO)else bO
noncomputable def LU(n:Nat)(Γ:Gm)(tg e:Expr):Gx d9:=match tg with
 | .Name x _=>asName n Γ x e
 | .Tuple ts k p=>if Bs e=true then(match uO n Γ (.Tuple ts k p)with | some g=>kO (aY n Γ 0 e) g.1 | none=>bO)else bO
 | .Subscript o k _=>if(nM k&&(i8 e || GR e))=true then Oc (aY n Γ (S9 Γ o) e) (aY n Γ 0 o) (aY n Γ 0 k)else bO
 | .Attribute o f _=>if(i8 e || GR e)=true then zy Γ.clss Γ.flds f (aY n Γ (md Γ f) e) (aY n Γ 0 o)else bO
 | _=>bO
noncomputable def LV(n:Nat)(Γ:Gm)(tg:Expr)(op:Operator)(e:Expr):Gx d9:=match tg with
 | .Name x _=>if Qd Γ x=true then(match slot Γ x,O7 op with | some i,some g=>kO (op2 g (rd i) (aY n Γ 0 e)) (cg i) | _,_=>bO)else bO
 | _=>bO
mutual
noncomputable def O8:Nat->Gm->Stmt->Gx d9
 | 0,_,_=>bO
 | n+1,Γ,st=>match st with
  | .Pass _=>bT .nx
  | .Break _=>bT .bk
  | .Continue _=>bT .ct
  | .Return none _=>bT (.rt .aV)
  | .Return (some e) _=>if md Γ Y7==7 then zf (N0 (aY n Γ 1 e))else zf (aY n Γ (md Γ Y7) e)
  | .If c a b _=>iX (qI n Γ c) (lb n Γ a) (lb n Γ b)
  | .While c b [] _=>l9 (qI n Γ c) (lb n Γ b) Y6
  | .For tg iter body [] _=>if aP iter=true then(match uO n Γ tg with | some g=>if isD Γ iter=true then bO else JV (GP n Γ tg iter) g.1 (lb n Γ body) | none=>bO)else bO
  | .Expr e _=>if i8 e=true then AS (aY n Γ 0 e)else bO
  | .Assign [tg] e _=>LU n Γ tg e
  | .AugAssign tg op e _=>LV n Γ tg op e
  | _=>bO
termination_by structural n=>n
noncomputable def lb:Nat->Gm->List Stmt->Gx d9
 | 0,_,_=>bO
 | n+1,Γ,[]=>bT .nx
 | n+1,Γ,[st]=>O8 n Γ st
 | n+1,Γ,st::Qf=>l8 (O8 n Γ st) (lb n Γ Qf)
termination_by structural n=>n
end
structure Xj (n:Nat):Prop where
 s:∀Γ X aa ab st,Xi Γ X aa ab->PS X st (tS X aa ab (O8 n Γ st))
 ss:∀Γ X aa ab Qf,Xi Γ X aa ab->PSs X Qf (tS X aa ab (lb n Γ Qf))
def O9:PSs X s (tS X aa ab bO):=λ_ _ _ _ _ _ ⟨F,st,R,r,z,_⟩=>by cases z
def Pa(G:GOk Γ X aa ab):PS X (.Assign [tg] e sp) (tS X aa ab (LU n Γ tg e)):=by
 have S:=snd n;cases tg with
 | Name x p =>
  refine sI λhc=>?_
  rw[aC]at hc;cases hi:slot Γ x with
  | none=>exact gj
  | some i =>
   rcases Bool.or_eq_true _ _▸hc.2 with hn | hl
   ·exact wO G hi hc.1 (S.e Γ X aa ab _ _ G) (i9 hn _ _ _)
   ·cases e<;>try (exact absurd hl dJ)
    rcases zK with⟨z,hl⟩ | z
    ·cases n with
     | zero=>exact uS
     | succ n=>exact((snd n).c Γ X aa ab _ _ _ _ _ G).2 i x p sp (G.sd hi) hl z
    ·exact wO G hi hc.1 (S.e Γ X aa ab _ _ G) z
 | Tuple ts k tp =>
  refine sI λhc=>?_
  cases h1:uO n Γ (.Tuple ts k tp)with
  | none=>exact gj
  | some g =>
   obtain⟨g1,g2,g3,g4⟩:=k9 G n _ g h1;refine RI (S.e Γ X aa ab _ _ G) g1 (i9 (uN hc) (some (Expr.Tuple ts k tp)) sp.line X.env) ?_ (g3 _);cases e<;>first | rfl | cases hc
 | Subscript o k tp =>
  refine sI λhc=>?_
  rw[aC]at hc;exact Sq G.un (S.e Γ X aa ab _ _ G) (S.e Γ X aa ab _ _ G) (S.e Γ X aa ab _ _ G) (zL hc.1 _) (C7 (a:=o) (x:=k) (p:=tp) hc.2 sp.line X.env) (zM _)
 | Attribute=>exact sI λhc=>Sy G.Qe (S.e Γ X aa ab _ _ G) (S.e Γ X aa ab _ _ G) (C6 hc _ _)
 | _=>exact gj
def Pb(G:GOk Γ X aa ab):PS X (.AugAssign tg op e sp) (tS X aa ab (LV n Γ tg op e)):=by
 cases tg with
 | Name x p =>
  refine sI λhc=>?_
  cases h1:slot Γ x with
  | none=>exact gj
  | some i=>cases h2:O7 op with
   | none=>exact gj
   | some g =>
    obtain⟨l1,l2⟩:=G.OS hc;exact Tw (Kr h2) ((snd n).e Γ X aa ab _ _ G) G.nd (G.sd h1) l1 l2
 | _=>exact gj
theorem Xk:∀n:Nat,Xj n
 | 0=>⟨λ_ _ _ _ _ _=>gj,λ_ _ _ _ _ _=>O9⟩
 | n+1=>by
  have T:=Xk n;have S:=snd n;refine⟨λΓ X aa ab st G=>?_,λΓ X aa ab Qf G=>?_⟩
  ·cases st with
   | Pass=>exact Nj
   | Break=>exact Jo
   | Continue=>exact Nk
   | Return e=>cases e with
    | none=>exact Nl
    | some e =>
     show PS X _ (tS X aa ab (ite _ _ _));split
     ·exact Lv (Sg (S.e Γ X aa ab _ _ G.toGOk))
     ·exact Lv (S.e Γ X aa ab _ _ G.toGOk)
   | If=>exact V5 (S.t Γ X aa ab _ G.toGOk) (T.ss Γ X aa ab _ G) (T.ss Γ X aa ab _ G)
   | While c b o=>cases o with
    | nil=>exact Jr Y6 G.never (S.t Γ X aa ab _ G.toGOk) (T.ss Γ X aa ab _ G)
    | cons=>exact gj
   | For tg iter body o=>cases o with
    | cons=>exact gj
    | nil =>
     refine sI λhp=>?_
     cases h1:uO n Γ tg with
     | none=>exact gj
     | some g =>
      show PS X _ (tS X aa ab (ite _ _ _));split
      ·exact gj
      ·exact NZ G.never G.calm (S.i Γ X aa ab _ _ G.toGOk) (k9 G.toGOk n _ g h1).1 (T.ss Γ X aa ab _ G) (fS hp _)
   | Expr=>exact sI λhc=>Nm (S.e Γ X aa ab _ _ G.toGOk) (i9 hc _ _ _)
   | Assign ts=>rcases ts with _ | ⟨_,_ | _⟩<;>first | exact Pa G.toGOk | exact gj
   | AugAssign=>exact Pb G.toGOk
   | _=>exact gj
  ·rcases Qf with _ | ⟨st,_ | _⟩
   ·exact Nh
   ·exact Ni (T.s Γ X aa ab st G)
   ·exact Jn (T.s Γ X aa ab st G) (T.ss Γ X aa ab _ G)
def GS:Nat:=120
abbrev CT:=Str->nh
noncomputable def noFn:CT:=λ_ _ _=>none
def Pc(P:Pg):List (Str×Nat):=P.cls.map λd=>(d.1,(params d.2).length)
def Tz(P:Pg)(x:Str)(st:Stmt)(cls:List (Str×Nat))(make:CT)(Gu:Option ((PV->Gx PV)->Nat->nh))(Gv:Option (Nat×(PV->Gx PV)))(c:CT):Gm where
 sc:=(ay st).names
 N:=bV st
 own:=true
 fns:=P.defs.map λd=>(d.1,(params d.2).length)
 call:=c
 cons:=P.cons
 cD:=P.cD
 tabs:=P.tabs
 dg:=P.dg
 cls:=cls
 make:=make
 clss:=P.cls.map (·.1)
 flds:=P.flds
 Qr:=(P.Qr.lookup x).getD []
 Gu:=Gu
 Gv:=Gv
def Y8(P:Pg)(C:Str)(st:Stmt)(c:CT):Gx d9:=lb GS (Tz P C st [] noFn none none c) (dq st)
def HX(P:Pg)(c:CT):CT:=λC=>match P.cls.lookup C with | some st=>iC (Y8 P C st c) (bV st).length | none=>λ_ _=>none
noncomputable def TC(P:Pg)(x:Str)(c:CT):Option ((PV->Gx PV)->Nat->nh):=none
def TF(P:Pg)(x:Str)(st:Stmt)(c:CT):Gx d9:=lb GS (Tz P x st (Pc P) (HX P c) (TC P x c) none c) (dq st)
def run(P:Pg):Nat->CT
 | 0=>noFn
 | k+1=>λx=>match P.defs.lookup x with | some st=>iC (TF P x st (run P k)) (bV st).length | none=>λ_ _=>none
def Pd{P:Pg}{k:Nat}{x:Str}{st:Stmt}(h:P.defs.lookup x=some st):run P (k+1) x=iC (TF P x st (run P k)) (bV st).length:=by
 show(match P.defs.lookup x with | some st=>iC (TF P x st (run P k)) (bV st).length | none=>λ_ _=>none)=_
 rw[h]
theorem jb{α β:Type}(g:α->β)(x:Str):∀l:List (Str×α),(l.map λd=>(d.1,g d.2)).lookup x=(l.lookup x).map g
 | []=>rfl
 | (n,a)::r=>by
  rw[aA,gm,gm];cases x==n with
  | true=>rfl
  | false=>exact jb g x r
section
variable {prog:Program} {w:World} {K:W.Frag} {mg:Str->Option Value} {base:Heap}
structure Pe (P:Pg) (w:World) (K:W.Frag) (mg:Str->Option Value):Prop where
 fns:∀x st,P.defs.lookup x=some st->∃f fd,BM K x x st f fd/\fM K fd (params st) []/\mg x=some (.ref f)/\dn (bV st) (params st) (ay st)
 cons:∀x p,P.cons.lookup x=some p->∃u v,mg x=some u/\RelV v u/\∀F,aZ K F p v
 cD:∀x,P.cD.contains x=true->mg x=none
 tabs:∀T rows,P.tabs.lookup T=some rows->Bf K mg w.params T rows
 dg:∀T rows,P.dg.lookup T=some rows->pe K mg w.params T rows
 ns:∀x a,W.nsIn K mainGlobals x=some (some (.ref a))->mg x=some (.ref a)
 Qe:FX K (P.cls.map (·.1)) P.flds
 cls:∀C st,P.cls.lookup C=some st->∃Ca f fd,ClsAt K C (.ref Ca)/\BL K Ca/\Mk K Ca f/\mg C=some (.ref Ca)/\BM K "__init__" (C++".__init__") st f fd/\fM K fd (params st) []/\dn (bV st) (params st) (ay st)
def FR(P:Pg)(prog:Program)(w:World)(K:W.Frag)(mg:Str->Option Value)(base:Heap)(k:Nat):Prop:=∀(x:Str) (st:Stmt) (f:Addr) (fd:FuncData),P.defs.lookup x=some st->mg x=some (.ref f)->BM K x x st f fd->dn (bV st) (params st) (ay st) ->
 FnOk prog w K mg base (ku prog w) (3*k) f fd (params st) (CG K (params st).length (run P k x))
section
variable {P:Pg} (O:Pe P w K mg) {k:Nat} (ih:FR P prog w K mg base k)
include O ih
def TJ{X:Cx}(h1:X.prog=prog)(h2:X.w=w)(h3:X.K=K)(h4:X.mg=mg)(h5:X.base=base):S8 X (3*k) (P.defs.map λd=>(d.1,(params d.2).length)) (run P k):=λy n hy=>by
 subst h1 h2 h3 h4 h5;rw[jb (λst=>(params st).length)]at hy
 obtain⟨bK,h1,h2⟩:=aL hy;subst h2;obtain⟨f',Qg,F1,B1,m1,S1⟩:=O.fns y bK h1;exact⟨3*k,f',Qg,params bK,aq _,ih y bK f' Qg h1 m1 F1 S1,m1,F1.kp,B1⟩
def LW{st:Stmt}{x q:Str}{f:Addr}{eL:Value}{A:Around}{aB:List Env}{s:Shared}{H aa:Hp}{ab:Fz}{E:XK}{cls:List (Str×Nat)}{make:CT}{Gu:Option ((PV->Gx PV)->Nat->nh)}{Gv:Option (Nat×(PV->Gx PV))}{j:Nat}(S:dn (bV st) (params st) (ay st))
  (hr:dZ j (A.deeper (envOfC q (ay st) s.heap.objs.size f eL))) (hj:3*k<=j) (hcl:∀C n,cls.lookup C=some n->∃k' Ca f' fd ps,ClsAt K C (.ref Ca)/\BL K Ca/\Mk K Ca f'/\FnOk prog w K mg base (ku prog w) k' f' fd ps (CG K n (make C))/\dZ (k'+1) (A.deeper (envOfC q (ay st) s.heap.objs.size f eL))/\mg C=some (.ref Ca)/\fM K fd ps [])
  (Xl:∀rs,Gu=some rs->LQ (Tz P x st cls make Gu Gv (run P k)) (fN (ku prog w) prog w K mg base (bV st) q (ay st) f eL A aB s H E) rs)
  (Xm:∀n ω,Gv=some (n,ω)->FY (fN (ku prog w) prog w K mg base (bV st) q (ay st) f eL A aB s H E) aa ab n ω) :
  Xi (Tz P x st cls make Gu Gv (run P k)) (fN (ku prog w) prog w K mg base (bV st) q (ay st) f eL A aB s H E) aa ab:=by
 refine⟨⟨rfl,rfl,S.nd,S.kind,rfl,hr.hd,?_,λ_ _=>rfl,λy n hy=>?_,O.cons,O.cD,O.tabs,O.dg,O.ns,O.Qe,hcl,Xl,Xm⟩,PassesOwn.leaving⟩
 ·have:=hr.un;show(A.deeper _).units+1150<cLine
  lia
 ·obtain⟨i,f',Qg,ps,h1,h2,h3,h4,h5⟩:=TJ (X:=fN (ku prog w) prog w K mg base (bV st) q (ay st) f eL A aB s H E) O ih rfl rfl rfl rfl rfl y n hy;exact⟨i,f',Qg,ps,h2,hr.mono (aM h1 hj),h3,h4,h5⟩
def TK{C:Str}{st:Stmt}{f:Addr}{fd:FuncData}(h:P.cls.lookup C=some st)(F:BM K "__init__" (C++".__init__") st f fd)(S:dn (bV st) (params st) (ay st)):FnOk prog w K mg base (ku prog w) (3*k+1) f fd (params st) (CG K (params st).length (HX P (run P k) C)):=by
 have e:HX P (run P k) C=iC (Y8 P C st (run P k)) (bV st).length:=by
  unfold HX;rw[h]
 rw[e];exact FO F S λeL A aB s H E _ hr aa ab=>(Xk GS).ss _ _ aa ab _ (LW O ih S hr (aq _) (λ_ _ z=>by cases z) (λ_ z=>by cases z) λ_ _ z=>by cases z)
end
theorem GU{P:Pg}(O:Pe P w K mg)(hB:P.qx≠[]->EX mg base):∀(k:Nat),FR P prog w K mg base k
 | 0=>λx st f fd h DO F S=>by
  have no:∀vs H Q E,¬CG K (params st).length (run P 0 x) vs H Q E:=λvs H Q E ⟨_,_,_,_,_,_,_,_,_,_,z,_⟩=>by cases z
  exact⟨λvs H Q E h=>absurd h (no vs H Q E),λA aB s H args us vs Q E _ _ _ _ h=>absurd h (no vs H Q E)⟩
 | k+1=>λx st f fd h DO F S=>by
  have ih:=GU (P:=P) O hB k;rw[Pd h];refine FO (k:=3*k+2) F S λeL A aB s H E YO hr aa ab=>(Xk GS).ss _ _ aa ab _ (LW O ih S hr (yC _ _) (λC n hy=>?_) (λrs e=>by cases e) λ_ _ z=>by cases z)
  unfold Pc at hy;rw[jb (λst=>(params st).length)]at hy
  obtain⟨bK,h1,h2⟩:=aL hy;subst h2;obtain⟨Ca,f',Qg,a,c,M,m1,F1,B1,S1⟩:=O.cls C bK h1;exact⟨3*k+1,Ca,f',Qg,params bK,a,c,M,TK O ih h1 F1 S1,hr,m1,B1⟩
def Bu(ns:List Int):PV:=.lst (ns.map .int)
theorem wQ{F:Fz}:∀ns:List Int,ao K F (ns.map .int) (ns.map V.int)
 | []=>.nil
 | n::r=>.cons (au.mpr rfl) (wQ r)
end
theorem eF{α β:Type} [BEq α] [LawfulBEq α] {k:α} {v:β}:∀{l:List (α×β)},l.lookup k=some v->(k,v)∈l
 | [],h=>by cases h
 | (a,b)::l,h=>by
  rw[gm]at h;cases z:k==a with
  | true =>
   rw[z]at h;cases h;rw[aG z];exact cy
  | false =>
   rw[z]at h;exact bY _ (eF h)
def BN.at{K:W.Frag}{h:Heap}{mg:Str->Option Value}{P:Params}{T:Str}{rows:List (Str×Str)}(x:BN K P T rows)(X:K.In h)(G:h.Ns mainGlobals mg):Bf K mg P T rows:=by
 obtain⟨a,es,n,h1,h2,h3,h4⟩:=x;refine⟨a,es,n,W.mg_of X G h1,h2,h3,λk fn e=>?_⟩
 obtain⟨f,h5,h6⟩:=h4 (k,fn) (eF e);exact⟨f,h5,W.mg_of X G h6,h6⟩
def vv.at{K:W.Frag}{h:Heap}{mg:Str->Option Value}{P:Params}{T:Str}{rows:List (Str×PV)}(x:vv K P T rows)(X:K.In h)(G:h.Ns mainGlobals mg):pe K mg P T rows:=by
 obtain⟨a,es,n,h0,h1,h2,h3,h4⟩:=x;exact⟨a,es,n,h0,W.mg_of X G h1,h2,h3,λk p e=>h4 (k,p) (eF e)⟩
def D4.at{K:W.Frag}{h base:Heap}{mg:Str->Option Value}(b:D4 K)(X:K.In h)(G:h.Ns mainGlobals mg)(Y:K.In base):EX mg base :=
 let ⟨bm,o,h1,h2,h3,h4,h5⟩:=b;⟨bm,o,W.mg_of X G h1,h2,h3,Y _ _ h4,h5⟩
def wR(K:W.Frag):List (Addr×Str):=de.filterMap λx=>(W.tabIn K x).map λcT=>(cT.2,Iu x)
theorem sv{α β:Type} [BEq α] [LawfulBEq α] {b:α} {q:β}:∀{l:List (α×β)},(l.map (·.1)).Nodup->(b,q)∈l->l.lookup b=some q
 | [],_,h=>nomatch h
 | (a,v)::l,hn,h=>by
  rw[aA,gq]at hn;rw[gm];rcases bh.mp h with e | h'
  ·grind
  ·have:(b==a)=false:=by
    grind
   rw[this];exact sv hn.2 h'
def C8(K:W.Frag):(wR K).map (·.1)=de.filterMap λx=>(W.tabIn K x).map (·.2):=by
 unfold wR;rw[List.map_filterMap]
 congr 1
 funext x
 cases W.tabIn K x<;>rfl
def kz.tabs{K:W.Frag}{h:Heap}(t:kz K h)(X:K.In h):(∀b q,(wR K).lookup b=some q->h.get? b=some {cls:=.none,data:=.fields #[]}/\isCodeTable h b/\K.lookup b=none)/\∀H:Hp,(∀b q,(wR K).lookup b=some q->H b=some (.eO q))->oF K H:=by
 refine⟨λb q e=>?_,λH hH x hx c T e=>?_⟩
 ·have hm:=eF e;unfold wR at hm;obtain⟨x,hx,e2⟩:=n8.mp hm;obtain⟨cT,e3,e4⟩:=gk.mp e2;cases e4;obtain⟨h1,h2,h3⟩:=t.at_ x hx cT.1 cT.2 e3;obtain⟨o,vs,_,_,_,_,_,_,_,g1,g2,g3,g4,_⟩:=W.codeHd_of_K X h1;exact⟨h2,⟨_,o,vs,g1,g2,g3,g4⟩,h3⟩
 ·refine hH T (Iu x) (sv (by rw[C8];exact t.nd) ?_)
  exact n8.mpr ⟨x,hx,by rw[e];rfl⟩
def TL(P:Pg):Bool:=P.qx.isEmpty || (match P.defs.lookup ("spread":Str)with | some st=>(params st).length==2 | none=>true)
def Xn{P:Pg}{K:W.Frag}{h:Heap}{mg:Str->Option Value}(X:K.In h)(G:h.Ns mainGlobals mg)(hd:∀d∈P.defs,D3 K d.1 d.2)
  (hc:∀d∈P.cons,∃u v,W.nsIn K mainGlobals d.1=some (some u)/\RelV v u/\∀F,aZ K F d.2 v) (hb:∀x∈P.cD,W.nsIn K mainGlobals x=some none) {w:World} (ht:∀d∈P.tabs,BN K w.params d.1 d.2) (hcl:∀d∈P.cls,Mb K d.1 d.2 P.flds) (hct:∀d∈P.dg,vv K w.params d.1 d.2) (LS:TL P=true) (Yd:∀x∈P.qx,Mc K x):Pe P w K mg where
 fns:=λx st e=>by
  obtain⟨⟨f,fd,a,F,b⟩,s⟩:=hd (x,st) (er e);exact⟨f,fd,F,.all b,W.mg_of X G a,s⟩
 cons:=λx p e=>by
  obtain⟨u,v,a,r,b⟩:=hc (x,p) (er e);exact⟨u,v,W.mg_of X G a,r,b⟩
 cD:=λx e=>W.mg_none_of X G (hb x (by simpa using e))
 tabs:=λT rows e=>(ht (T,rows) (eF e)).at X G
 dg:=λT rows e=>(hct (T,rows) (eF e)).at X G
 ns:=λx a e=>W.mg_of X G e
 Qe:=λC e=>by
  have e:C∈P.cls.map (·.1):=by simpa using e
  obtain⟨d,hd,rfl⟩:=cJ.mp e;obtain⟨Ca,f,fd,a,M,c,na,F,b,s⟩:=hcl d hd;exact⟨Ca,a,c,λg hg=>na g (by simpa using hg)⟩
 cls:=λC st e=>by
  obtain⟨Ca,f,fd,a,M,c,na,F,b,s⟩:=hcl (C,st) (er e);exact⟨Ca,f,fd,a,c,M,W.mg_of X G a,F,.all b,s⟩
def UY(o:Option (Rs PV×List ai)):Prop:=∃h,o=some (.ok (.bl true),h)
def Pf{K:W.Frag}{P:Pg}{k:Nat}{H:Hp}{a:Addr}{ns:List Int}(hr:UY (run P k "law" [Bu ns] []))(hS:gE K H a (ns.map V.int)):CG K 1 (run P k "law") [.ref a] H (λv _=>v=.bl true) λ_ _ _=>False :=
 let ⟨h,e⟩:=hr
 ⟨H,⟨H,[]⟩,[],[Bu ns],_,h,⟨b8.refl H,b8.refl H,Gr.refl _,λ_ _ e=>.inl e,λn a e=>by simp at e,rfl,tW,λn c a e=>by simp at e⟩,λ_ _ e=>.inl e,.cons (cP.mpr ⟨a,_,rfl,hS,wQ ns⟩) .nil,rfl,e,λv F' H' _ b=>aS.mp b⟩
def GV{P:Pg}{N:Nat}{x:Str}{st:Stmt}{l:W.OpenLaw}{q:Program}{loose:List Str}{XP:(Str->Option Value)->Heap->Prop}{YP:World->Heap->Prop}{d:DefRec}(kr:P.defs.lookup ("law":Str)=some st)(hx:params st=[x])
  (hn:l.most=some 63) (SJ:d.name="law") (VX:d.params.defaults=[]) (hr:dZ (3*N) callerA) (LS:TL P=true) (hY:∀(w:World) (h:Heap),YP w h->∃K:W.Frag,K.In h/\D5 P w K/\kz K h)
  (Xo:∀ns:List Int,ns.length<=63->UY (run P N "law" [Bu ns] [])):W.WalkO q loose XP YP l.row.toRowW d [] (λf vs=>PySem.call f vs):=by
 refine Yn.vP hn VX λw s₀ s₁ mg mb fa o pm cd doc a vs ns G Y ho hd DM DO ET EU dr hg=>?_
 obtain⟨K,KX,T,TH⟩:=hY w _ Y;obtain⟨t1,t2⟩:=TH.tabs KX;have O:=Xn KX G.T.g T.hd T.hc T.hb T.ht T.hcl T.hct LS T.Yd;obtain⟨⟨f,fd,e0,F,b⟩,s⟩:=T.hd ("law",st) (er kr);rw[SJ]at DO;have e:=DO.symm.trans (W.mg_of KX G.T.g e0);cases e;rw[hx]at b;refine Cf (CX:=ku l.prog w) KX G.T.g G.T.b G.T.builtins G.T.nolimit hg t1 t2 ET EU (aM dr (by decide)) hr (λbase kb _=>?_) (λs u=>.of_eq (b [u] rfl)) (λH hS=>Pf (Xo ns dr) hS) (by rintro _ _ _ ⟨_,_,_,_,_,_,_,_,_,_,_,h,_⟩;exact h)
 have k:=GU (prog:=l.prog) O (λz=>(T.hbm z).at KX G.T.g kb) N "law" st _ fd kr (W.mg_of KX G.T.g e0) F s
 rw[hx]at k;exact k
abbrev Ev{α:Type}(f:Gx α)(s:bX)(a:α)(s':bX):Prop:=f s=some (.ok a,s')
abbrev Ek {α : Type} (f : Gx α) (s : bX) (a : α) : Prop := Ev f s a s
section
variable {α β:Type} {s s1 s2 s3:bX}
def eB(h:Ev f s a s1)(h2:k a s1=r):bnd f k s=r:=by
 show(f s).bind (Nb k)=r;rw[h];exact h2
variable {fa fb fe:Gx PV} {ts:Gx (List PV)} {p q x y z:PV} {ps as:List PV}
variable {f g:Gx d9} {r:Option (Rs d9×bX)}
def Xp(e:f ⟨ie n as,h⟩=some (.ok (.rt p),⟨ρ',h'⟩)):iC f n as h=some (.ok p,h'):=by
 unfold iC;rw[e];rfl
def Xq(e:f ⟨ie n as,h⟩=some (.ok .nx,⟨ρ',h'⟩)):iC f n as h=some (.ok .aV,h'):=by
 unfold iC;rw[e];rfl
variable {t:Tg} {body:Gx d9}
def fC(ht:t p s=some s1)(hb:Ev body s1 .nx s2)(h:dO t body ps s2=r):dO t body (p::ps) s=r:=eB (show Ev (stp (t p)) s .nx s1 by show(t p s).map _=_;rw[ht];rfl) (eB hb h)
def e1(ht:t p ⟨ρ,h⟩=some ⟨Wj,h1⟩)(he:Ev fe ⟨Wj,h1⟩ q ⟨TM,h2⟩):m8 t fe ρ p h=some (some q,h2):=by
 unfold m8;rw[ht,oh,he];rfl
end
end L2.U
namespace L2.U
open PySem L2
def aN(hp:noRef p=true):bH h p=some p:=by
 unfold bH;split
 ·rfl
 ·unfold lC;rw[if_pos hp]
end L2.U
noncomputable section
namespace bS
open PySem L2 L2.U
abbrev TN:Stmt:=top 129
abbrev kI (n : Int) : Gx PV := bT (.int n)
abbrev kS (s : Str) : Gx PV := bT (.str s)
abbrev Q0 := kN 2 (dw (cg 4) (dw (cg 5) m4))
abbrev Q1 := kN 2 (dw (cg 10) (dw (cg 11) m4))
abbrev Q2 := kN 2 (dw (cg 2) (dw (cg 3) m4))
abbrev Q3 := zf (bT (.bl false))
abbrev Q4 := dB (rd 1) (bT [])
abbrev Q5 := dw (cg 5) (dw (cg 6) m4)
def Kt:List (Str×Nat):=aD.defs.map λd=>(d.1,(params d.2).length)
noncomputable def Ku:List Str:=["Scene"]
abbrev Rn(x:Str)(F:CT->Gx d9)(n:Nat):Prop:=∀k,run aD (k+1) x=iC (F (run aD k)) n
open Lean Meta in
dsimproc_decl Y9 (Str.mk _):=λe=>do
 let .app _ (.app _ l):=e | return .continue
 let some l <-getListLit? l | return .continue
 return .done (mkApp (mkConst ``Str.ofString) (toExpr (String.ofList (l.toList.map λx=>Char.ofNat (x.nat?.getD 0)))))
open Lean in
dsimproc_decl Za (Int.ofNat _):=λe=>do
 let .app _ n:=e | return .continue
 let some n:=n.nat? | return .continue
 return .done (toExpr (n:Int))
def cE(x:Str)(i n k:Nat){f:CT->Gx d9}(h:∀k,run aD (k+1) x=iC (TF aD x (top i) (run aD k)) n:=by intro _;kernel_rfl)(e:∀c,TF aD x (top i) c=f c:=by intro c;conv=>(lhs;reduce;simp only[Y9,Za])):run aD (k+1) x=iC (f (run aD k)) n:=by rw[h,e]
noncomputable def Zb(s:List Stmt):List Nat->List Stmt
 | []=>s
 | i::r=>Zb (match s[i]? with | some (.For _ _ b _ _) | some (.If _ b _ _)=>b | _=>[]) r
def xS(x:Str)(i:Nat)(p:List Nat)(c:CT):Gx d9:=lb GS (Tz aD x (top i) (Pc aD) (HX aD c) (TC aD x c) none c) (Zb (dq (top i)) p)
noncomputable abbrev jz(a:Gx d9){f:Gx d9}(_:a=f:=by conv=>(lhs;reduce;simp only[Y9,Za])):Gx d9:=f
section
seal wc l8 zy op2 dX rd bnd dB bT ja fR o9 m8 Fs cg AS HW uC iX toB xP zf Lu kO Jm JV zh Fc bO zd chain Ys Yr gH qJ Jw cutE Fb qu qt jt kN dw m4 vS Od ND l9 Oc o6 iB zk pf CI UJ NX A8 JJ WL Nc Oh V8 UL Ck SA HX Og Fw Cz RJ Yt Cj Nr Fe AU E6 JF JH Nd Bk iC JA Oz CJ NG OQ Kb OP Oa JT OI Ke Yx F9 Kc wF N0 jy
def Bv(c:CT):Gx d9 :=
 (l8 (zy Ku aD.flds "kinds" (Bk (op2 dX (rd 2) (kI 1)) (op2 dX (rd 2) (kI 3))) (rd 0))
  (l8 (zy Ku aD.flds "result" (op2 dX (rd 2) (kI 2)) (rd 0))
  (l8 (zy Ku aD.flds "size" (zh gH (dB (op2 dX (rd 2) (kI 4)) (bT []))) (rd 0))
  (zy Ku aD.flds "heads" (Kb (fR false [none,none] (o9 (rd 1)) (m8 (cg 1) (Lu .aj (dB (op2 dX (rd 1) (kI 0)) Q4))))) (rd 0)))))
theorem GW(c:CT):HX aD c "Scene"=iC (Bv c) 3:=by kernel_rfl
noncomputable def mI(c:CT):=jz (xS "kind_of" 28 [0] c)
def wU(k:Nat):=cE "kind_of" 28 4 k
noncomputable def pX(c:CT):Gx d9 :=
 (l8 (iX (zd (vS (bnd (dB (rd 0) (dB (kI 1) (dB (kI 6) (bT [])))) (ja 0 3 (c "is_tuple_from")))))
  Q3
  (bT .nx))
  (l8 (iX (zd (vS (zh wF (dB (fR false [none,none] (o9 (rd 0)) (m8 (cg 1) (bnd Q4 (ja 0 1 (c "is_head"))))) (bT [])))))
  Q3
  (bT .nx))
  (l8 (iX (iX (zd (vS (bnd (dB (fR false [none,none] (o9 (rd 0)) (m8 (cg 1) (op2 dX (rd 1) (kI 0)))) (bT [])) (ja 0 1 (c "are_apart"))))) (bT true) (zd (vS (bnd (dB (op2 dX (rd 0) (kI 0)) (bT [])) (ja 0 1 (c "may_be_run"))))))
  Q3
  (bT .nx))
  (zf (zh wF (dB (fR false [none,none,some 0] (o9 (rd 0)) (m8 (cg 1) (bnd (dB (SA "Scene" 3 (HX aD c "Scene") (dB (rd 2) Q4)) (dB (op2 dX (rd 1) (kI 4)) (bT []))) (ja 0 2 (c "are_rows"))))) (bT [])))))))
theorem uT:Rn "is_right" pX 1:=λ_=>by kernel_rfl
def lg(k:Nat):=cE "is_tuple_from" 31 3 k
def ny(k:Nat):=cE "is_tuple_of" 32 2 k
def wV(k:Nat):=cE "is_name" 33 1 k
def qK(k:Nat):=cE "are_apart" 34 1 k
def j9(k:Nat):=cE "is_holder_kind" 35 1 k
def wW(k:Nat):=cE "is_kind" 36 1 k
def uU(k:Nat):=cE "shape_of" 38 1 k
def uV(k:Nat):=cE "has_kind" 39 3 k
def wX(k:Nat):=cE "is_head" 40 1 k
def qL(k:Nat):=cE "are_named" 41 2 k
def qM(k:Nat):=cE "is_result" 42 2 k
def nz(k:Nat):=cE "are_sources" 43 3 k
def pY(k:Nat):=cE "may_be_run" 44 1 k
def wY(k:Nat):=cE "is_spot" 45 3 k
def pZ(k:Nat):=cE "spot_shape" 47 2 k
def sx(k:Nat):=cE "is_at" 48 3 k
def kc(k:Nat):=cE "is_number_spot" 49 2 k
def mr(k:Nat):=cE "is_part_spot" 50 2 k
def lj(k:Nat):=cE "is_owned_part" 51 2 k
def jA(k:Nat):=cE "is_written_part" 52 2 k
def kd(k:Nat):=cE "may_be_written" 53 2 k
def p0(k:Nat):=cE "is_operand" 54 2 k
def uW(k:Nat):=cE "are_rows" 55 2 k
def zN(k:Nat):=cE "is_row" 56 2 k
def zO(k:Nat):=cE "is_put" 57 2 k
def qN(k:Nat):=cE "is_target" 58 2 k
def zP(k:Nat):=cE "is_set" 59 2 k
def wZ(k:Nat):=cE "is_fill" 60 2 k
def w5(k:Nat):=cE "is_copy" 61 2 k
def qO(k:Nat):=cE "are_alike" 62 3 k
def w6(k:Nat):=cE "is_move" 63 2 k
def w9(k:Nat):=cE "is_drop" 64 2 k
def xa(k:Nat):=cE "is_lend" 65 2 k
def xb(k:Nat):=cE "is_sole" 66 2 k
def xc(k:Nat):=cE "is_call" 67 3 k
def p6(k:Nat):=cE "takes_back" 68 3 k
def C9(k:Nat):=cE "is_if" 69 2 k
def xf(k:Nat):=cE "is_jump" 70 2 k
def Dc(k:Nat):=cE "is_go" 71 2 k
def zQ(k:Nat):=cE "is_say" 72 2 k
def xg(k:Nat):=cE "is_give" 73 2 k
noncomputable def jc(c:CT):Gx d9 :=
 (l8 (kO (pf Kt c (CI (λk=>(List.lookup k fL).map .fn) (op2 dX (rd 5) (kI 0))) (dB (rd 2) (dB (rd 5) (bT [])))) (cg 6))
  (AS (HW "list" uC (rd 3) (dB (fR false [none,none,some 4] (o9 (UJ (rd 6) (Lu .lst (dB (bT (.aj [(.str "rest"),(.str ""),(.bl false),(.int 0),(.int 0),(.str "")])) (bT []))))) (m8 (cg 1) (op2 jt (Lu .aj (dB (rd 2) (bT []))) (rd 1)))) (bT [])))))
noncomputable def GX(c:CT):Gx d9 :=
 (l8 (kO (op2 dX (rd 0) (rd 1)) (cg 2))
  (l8 (kO (Jm (bT [])) (cg 3))
  (l8 (JV (NX (A8 (op2 dX (rd 2) (kI 4)))) Q0 (jc c))
  (zf (rd 3)))))
theorem GY:Rn "acts" GX 7:=λ_=>by kernel_rfl
def Dd(k:Nat):=cE "touch" 80 6 k
def nA(k:Nat):=cE "touch_whole" 81 4 k
def xh(k:Nat):=cE "at_acts" 82 2 k
def mv(k:Nat):=cE "operand_acts" 83 2 k
def nB(k:Nat):=cE "target_acts" 84 2 k
def lp(k:Nat):=cE "put_acts" 85 2 k
def uX(k:Nat):=cE "set_acts" 86 2 k
def qP(k:Nat):=cE "copy_acts" 87 2 k
def qQ(k:Nat):=cE "move_acts" 88 2 k
def qR(k:Nat):=cE "drop_acts" 89 2 k
def qS(k:Nat):=cE "lend_acts" 90 2 k
def qT(k:Nat):=cE "call_acts" 91 3 k
def xi(k:Nat):=cE "arg_act" 92 4 k
def qU(k:Nat):=cE "owner_act" 93 2 k
def xj(k:Nat):=cE "if_acts" 94 2 k
def xk(k:Nat):=cE "go_acts" 95 2 k
def uY(k:Nat):=cE "say_acts" 96 2 k
def gz(k:Nat):=cE "give_acts" 97 2 k
def uZ(k:Nat):=cE "_law_cell_at" 100 2 k
def zR(k:Nat):=cE "_law_mixed" 101 1 k
noncomputable def p7(c:CT):=jz (xS "_law_names" 102 [4,1] c)
noncomputable def kf(c:CT):=jz (xS "_law_names" 102 [4] c)
def zS(k:Nat):=cE "_law_names" 102 9 k
noncomputable def kh(c:CT):=jz (xS "_law_spots" 106 [1,1] c)
noncomputable def p8(c:CT):=jz (xS "_law_spots" 106 [1] c)
def zU(k:Nat):=cE "_law_spots" 106 8 k
def De(k:Nat):=cE "_law_menu" 107 8 k
noncomputable def mJ(c:CT):=jz (xS "_law_picked" 108 [1] c)
def xm(k:Nat):=cE "_law_picked" 108 5 k
noncomputable def fF(c:CT):=jz (xS "_law_numbers" 109 [2] c)
def u0(k:Nat):=cE "_law_numbers" 109 8 k
def u3(k:Nat):=cE "_law_operand" 110 3 k
noncomputable def mK(c:CT):=jz (xS "_law_result" 111 [4] c)
def xn(k:Nat):=cE "_law_result" 111 7 k
def Df(k:Nat):=cE "_law_head" 113 9 k
def zV(k:Nat):=cE "_law_heads" 114 4 k
noncomputable def jr(c:CT):=jz (xS "_law_call" 115 [4] c)
def Dg(k:Nat):=cE "_law_call" 115 13 k
noncomputable def ig(c:CT):=jz (xS "_law_lends" 116 [1,0] c)
noncomputable def p9(c:CT):=jz (xS "_law_lends" 116 [1] c)
def zW(k:Nat):=cE "_law_lends" 116 9 k
def xo(k:Nat):=cE "_law_things" 118 8 k
def qa(k:Nat):=cE "_law_plain_row" 119 8 k
def GZ(k:Nat):=cE "_law_row" 120 9 k
def Dh(k:Nat):=cE "_law_give" 121 3 k
noncomputable def dC(c:CT):=jz (xS "_law_function" 122 [3] c)
def qV(k:Nat):=cE "_law_function" 122 7 k
noncomputable def lq(c:CT):=jz (xS "_law_stretch" 123 [2] c)
def u4(k:Nat):=cE "_law_stretch" 123 6 k
def ij(k:Nat):=cE "_law_lending" 124 7 k
def cS(k:Nat):=cE "_law_touch" 125 5 k
def fU(k:Nat):=cE "_law_untouched" 126 2 k
def xp(k:Nat):=cE "_law_called" 127 5 k
noncomputable def jE(c:CT):=jz (xS "_law_acts_fit" 128 [2] c)
noncomputable def gA(c:CT):=jz (xS "_law_acts_fit" 128 [3] c)
def qW(k:Nat):=cE "_law_acts_fit" 128 8 k
noncomputable def Bw(c:CT):=jz (xS "law" 129 [3] c)
def Kv(k:Nat):=cE "law" 129 4 k
end
end bS
namespace L2.U
section
open PySem
theorem Ze{α:Type}{o:Option α}{v:α}{st:bX}(h:o=some v):fD o st=some (.ok v,st):=by show o.map _=_;rw[h];rfl
theorem abh{α:Type}{g:List ai->Option α}{v:α}{st:bX}(h:g st.h=some v):hp g st=some (.ok v,st):=by show(g st.h).map _=_;rw[h];rfl
theorem Zf{g:bX->Option bX}{st bK:bX}(h:g st=some bK):stp g st=some (.ok .nx,bK):=by show(g st).map _=_;rw[h];rfl
theorem Zg{α β:Type}{f:Gx α}{k:α->Gx β}{st s1:bX}{a:α}{r:Option (Rs β×bX)}(h:f st=some (.ok a,s1))(h2:k a s1=r):bnd f k st=r:=eB h h2
theorem abi{α:Type}{b:Bool}{f g:Gx α}{st:bX}{r:Option (Rs α×bX)}(h:b=true)(h2:f st=r):(if b=true then f else g) st=r:=by rw[if_pos h];exact h2
theorem abj{α:Type}{b:Bool}{f g:Gx α}{st:bX}{r:Option (Rs α×bX)}(h:b=false)(h2:g st=r):(if b=true then f else g) st=r:=by rw[if_neg (by rw[h];exact dJ)];exact h2
theorem Xr{α:Type}{gc:Gx Bool}{f g:Gx α}{st s1:bX}{r:Option (Rs α×bX)}(h:gc st=some (.ok true,s1))(h2:f s1=r):iX gc f g st=r:=eB h h2
theorem Xs{α:Type}{gc:Gx Bool}{f g:Gx α}{st s1:bX}{r:Option (Rs α×bX)}(h:gc st=some (.ok false,s1))(h2:g s1=r):iX gc f g st=r:=eB h h2
theorem Xu{f:Gx d9}{n:Nat}{as:List PV}{h:List ai}{p:PV}{bK:bX}(e:f ⟨ie n as,h⟩=some (.ok (.rt p),bK)):iC f n as h=some (.ok p,bK.h):=Xp e
theorem Xv{f:Gx d9}{n:Nat}{as:List PV}{h:List ai}{bK:bX}(e:f ⟨ie n as,h⟩=some (.ok .nx,bK)):iC f n as h=some (.ok .aV,bK.h):=Xq e
theorem Kw{n:Nat}{g:nh}{as:List PV}{st:bX}{p q:PV}{h':List ai}(hn:(st.h.isEmpty || aE as)=true)(hl:as.length=n)(hc:g as []=some (.ok p,h'))(hf:bH h' p=some q):j4 n g as st=some (.ok q,st):=by
 unfold j4;rw[if_pos ⟨hl,hn⟩,hc];show(bH h' p).map _=_;rw[hf];rfl
theorem Xw{n:Nat}{g:nh}{as:List PV}{st:bX}{p q:PV}{h':List ai}(hn:(st.h.isEmpty || aE as)=true)(hl:as.length=n)(hc:g as []=some (.ok p,h'))(hf:bH h' p=some q):ja 0 n g as st=some (.ok q,st):=by
 unfold ja;rw[hn,if_pos (show((0==0)&&true)=true from rfl)]
 exact Kw hn hl hc hf
theorem Di{α:Type}{f:α->PV}{q:α->PV}{h:List ai}{bd:PV->List ai->Option (Option PV×List ai)}:∀{L:List α},(∀x∈L,bd (f x) h=some (some (q x),h))->gM bd (L.map f) h=some (L.map q,h)
 | [],_=>rfl
 | x::L,H=>by
  show(bd (f x) h).bind _=_;rw[H x cy];show(gM bd (L.map f) h).map _=_;rw[Di λy hy=>H y (bY _ hy)]
  rfl
theorem Dj{α:Type}{f:α->PV}{q:α->PV}{b:α->Bool}{h:List ai}{bd:PV->List ai->Option (Option PV×List ai)}:∀{L:List α},(∀x∈L,bd (f x) h=some (if b x=true then some (q x)else none,h))->gM bd (L.map f) h=some ((L.filter b).map q,h)
 | [],_=>rfl
 | x::L,H=>by
  show(bd (f x) h).bind _=_;rw[H x cy];show(gM bd (L.map f) h).map _=_;rw[Dj λy hy=>H y (bY _ hy)]
  cases e:b x with
  | true=>rw[yc e];rfl
  | false=>rw[ye (by rw[e];exact dJ)];rfl
theorem Xx{link:List (Option Nat)}{fi:Gx zw}{bd:Bd}{st s1:bX}{ps qs:List PV}{h':List ai}(hi:fi st=some (.ok (.sq ps),s1))(hl:ps.length<=4000000)(hc:gM (bd (cR link s1.ρ)) ps s1.h=some (qs,h')):fR false link fi bd st=some (.ok (.lst qs),⟨s1.ρ,h'⟩):=eB hi (by
 show(if ps.length<=gV then gM _ ps s1.h else none).bind _=_
 rw[if_pos (show ps.length<=gV from hl),hc]
 rfl)
theorem Xy{t:Tg}{fe:Gx PV}{ρ:List (Option PV)}{p q:PV}{h:List ai}{aI:bX}{TM:List (Option PV)}{h2:List ai}(ht:t p ⟨ρ,h⟩=some aI)(he:fe aI=some (.ok q,⟨TM,h2⟩)):m8 t fe ρ p h=some (some q,h2):=by
 unfold m8;rw[ht,oh,he];rfl
theorem Xz{t:Tg}{ft:Gx Bool}{fe:Gx PV}{ρ:List (Option PV)}{p q:PV}{b:Bool}{h:List ai}{aI:bX}{TM ρ3:List (Option PV)}(ht:t p ⟨ρ,h⟩=some aI)(hw:ft aI=some (.ok b,⟨TM,h⟩))(he:b=true->fe ⟨TM,h⟩=some (.ok q,⟨ρ3,h⟩)):Fs t ft fe ρ p h=some (if b=true then some q else none,h):=by
 unfold Fs;rw[ht,oh,hw];cases b with
 | false=>rfl
 | true =>
  show(fe _).bind _=_;rw[he rfl];rfl
theorem Zh{gc f:Gx Bool}{st s1:bX}{b b2:Bool}(h:gc st=some (.ok b,s1))(h2:b=true->f s1=some (.ok b2,s1)):iX gc f (bT false) st=some (.ok (b&&b2),s1):=eB h (by
 cases b with
 | false=>rfl
 | true=>exact h2 rfl)
theorem Qh{bd:PV->List ai->Option (Option PV×List ai)}{h:List ai}:gM bd [] h=some ([],h):=rfl
theorem Ph{bd:PV->List ai->Option (Option PV×List ai)}{p:PV}{ps qs:List PV}{o:Option PV}{h h1 h2:List ai}(e1:bd p h=some (o,h1))(e2:gM bd ps h1=some (qs,h2)):gM bd (p::ps) h=some (o.toList++qs,h2):=by
 show(bd p h).bind _=_;rw[e1];show(gM bd ps h1).map _=_;rw[e2];rfl
theorem abl{C:Str}{n:Nat}{g:nh}{ts:Gx (List PV)}{st s1:bX}{as:List PV}{h':List ai}{q:PV}(XA:ts st=some (.ok as,s1))(hl:as.length+1=n)(hn:(s1.h.isEmpty || aE as)=true)(hg:g (.ref 0::as) [⟨.ins C [],[]⟩]=some (.ok .aV,h'))(hd:lC h' 4 (.ref 0)=some q):SA C n g ts st=some (.ok q,s1):=eB XA (by
 show(if as.length+1=n/\(s1.h.isEmpty || aE as)=true then(g (.ref 0::as) [⟨.ins C [],[]⟩]).bind (Sz s1)else none)=_
 rw[if_pos ⟨hl,hn⟩,hg];show(lC h' 4 (.ref 0)).map _=_;rw[hd];rfl)
noncomputable def gx{α:Type}(f:Gx α)(st:bX):Option (Rs α×bX):=f st
theorem Zi{α:Type}{f:Gx α}{st:bX}{r:Option (Rs α×bX)}(h:f st=r):gx f st=r:=h
theorem c9{α:Type}{f:Gx α}{st:bX}{r:Option (Rs α×bX)}(h:gx f st=r):f st=r:=h
end
end L2.U
namespace bS
open PySem L2 L2.U
inductive Sx where
 | nu | ow | st (n:Fin 8) | tw | no | sn (n:Fin 8) | tn | dp (n:Fin 8) | di | fo
 deriving DecidableEq
abbrev pN:PV:=.aj [.str "num"]
abbrev pO:PV:=.aj [.str "own"]
abbrev pT:PV:=.aj [.str "rec",.aj [pN,pN]]
abbrev pD:PV:=.aj [.str "rec",.aj [pT,pO]]
def pS(n:Fin 8):PV:=.aj [.str "strip",.int (1+(n.val:Int))]
def d8:Sx->PV
 | .nu=>pN
 | .ow=>pO
 | .st n=>pS n
 | .tw=>pT
 | .no=>.aj [.str "rec",.aj [pN,pO]]
 | .sn n=>.aj [.str "rec",.aj [pS n,pN]]
 | .tn=>.aj [.str "rec",.aj [pT,pN]]
 | .dp n=>.aj [.str "rec",.aj [pD,pS n]]
 | .di=>pD
 | .fo=>.aj [.str "rec",.aj [pT,pT,pT,pT]]
def prt:Sx->List Sx
 | .tw=>[.nu,.nu]
 | .no=>[.nu,.ow]
 | .sn n=>[.st n,.nu]
 | .tn=>[.tw,.nu]
 | .dp n=>[.di,.st n]
 | .di=>[.tw,.ow]
 | .fo=>[.tw,.tw,.tw,.tw]
 | _=>[]
inductive Kn where
 | ow (s:Sx) | ho (w:Bool) (s:Sx)
 deriving DecidableEq
noncomputable def sy(w:Bool):Str:=if w then "sole" else "lent"
def br:Kn->PV
 | .ow s=>d8 s
 | .ho w s=>.aj [.str (sy w),d8 s]
noncomputable def jd:Kn->Sx
 | .ow s=>s
 | .ho _ s=>s
noncomputable def eU:Kn->Bool
 | .ow _=>false
 | .ho _ _=>true
abbrev Ky:=Str×Kn
noncomputable def cX(q:Ky):PV:=.aj [.str q.1,br q.2]
theorem cw(k:Nat)(d:Kn):run aD (k+1) "is_holder" [br d] []=some (.ok (.bl (eU d)),[]):=by
 cases d with
 | ow s=>cases s<;>kernel_rfl
 | ho w s=>cases w<;>cases s<;>kernel_rfl
end bS
namespace L2.U
section
open Lean Meta
abbrev zq9wh (e : Lean.Expr) : MetaM Lean.Expr := withDefault (whnf e)
abbrev zq9sm (e : Lean.Expr) : SimpM Simp.Result := withReducible (Simp.simp e)
def zq9rflT (e d : Lean.Expr) : MetaM Lean.Expr := do mkExpectedTypeHint (← mkEqRefl d) (← mkEq e d)

def zq9nList (w : Bool) : Nat → Lean.Expr → MetaM Lean.Expr
 | 0, e => return e
 | n + 1, e => do
  let d ← zq9wh e
  if d.isAppOfArity ``List.cons 3 then
   let a := d.appFn!.appArg!.headBeta
   let a ← if w then (do let b ← zq9wh a; return if b.isAppOf ``Option.some || b.isAppOf ``Option.none then b else a) else pure a
   return mkApp2 d.appFn!.appFn! a (← zq9nList w n d.appArg!)
  else if d.isAppOf ``List.nil then return d
  else return e
def zq9natOf : Nat → Lean.Expr → MetaM (Option Nat)
 | 0, _ => return none
 | n + 1, e => do
  let d ← zq9wh e
  match d with
  | .lit (.natVal k) => return some k
  | _ => if d.isAppOfArity ``Nat.succ 1 then return (← zq9natOf n d.appArg!).map (· + 1) else if d.isConstOf ``Nat.zero then return some 0 else return none
def zq9isLit (e : Lean.Expr) : Nat → Bool
 | 0 => false
 | n + 1 => e.isAppOf ``List.nil || (e.isAppOfArity ``List.cons 3 && zq9isLit e.appArg! n)
def zq9nVal (v : Lean.Expr) : MetaM Lean.Expr := do
 let v ← withReducible (whnf v.headBeta)
 if v.isAppOfArity ``PV.ref 1 then
  if v.appArg!.isLit then return v
  match ← zq9natOf 60 v.appArg! with
  | some k => return mkApp (mkConst ``PV.ref) (mkNatLit k)
  | none => return v
 if v.isAppOfArity ``PV.nd 2 && !(v.appArg!.isAppOf ``List.map || zq9isLit v.appArg! 200) then
  let ps ← zq9nList false 200 v.appArg!
  return if zq9isLit ps 200 then mkApp v.appFn! ps else v
 if (← isConstructorApp? v).isSome || v.isFVar then return v
 if v.isProj || (← isMatcherApp v) || v.getAppFn.isProj then zq9wh v else match v.getAppFn with
 | .const c _ => if (← isProjectionFn c) || c == ``Option.get || c == ``ite || c == ``Option.getD then zq9wh v else return v
 | _ => return v
def zq9nCell (c : Lean.Expr) : MetaM Lean.Expr := do
 let d ← zq9wh c
 unless d.isAppOfArity ``ai.mk 2 do return c
 let k ← zq9wh d.appFn!.appArg!
 let k ← if k.isAppOfArity ``Kd.ins 2 then pure (mkApp k.appFn! (← zq9nList false 200 k.appArg!)) else pure k
 let ps ← zq9nList false 200 d.appArg!
 return mkApp2 d.appFn!.appFn! k ps
def zq9nHeap : Nat → Lean.Expr → MetaM Lean.Expr
 | 0, e => return e
 | n + 1, e => do
  let d ← zq9wh e
  if d.isAppOfArity ``List.cons 3 then return mkApp2 d.appFn!.appFn! (← zq9nCell d.appFn!.appArg!.headBeta) (← zq9nHeap n d.appArg!)
  else if d.isAppOf ``List.nil then return d
  else return e
def zq9nSta (e : Lean.Expr) : MetaM Lean.Expr := do
 let d ← zq9wh e
 if d.isAppOfArity ``bX.mk 2 then return mkApp2 d.appFn!.appFn! (← zq9nList true 200 d.appFn!.appArg!) (← zq9nHeap 200 d.appArg!) else return e
def zq9someArg? (e : Lean.Expr) : Option Lean.Expr := if e.isAppOfArity ``Option.some 2 then some e.appArg! else none
def zq9evB (b : Lean.Expr) : SimpM (Lean.Expr × Lean.Expr) := do
 let b := b.headBeta
 let d ← zq9wh b
 if d.isConstOf ``Bool.true || d.isConstOf ``Bool.false then return (d, ← mkExpectedTypeHint (← mkEqRefl d) (← mkEq b d))
 let r ← zq9sm b
 let r' ← if r.expr.isConstOf ``Bool.true || r.expr.isConstOf ``Bool.false then pure r.expr else do
  let d ← zq9wh r.expr
  pure (if d.isConstOf ``Bool.true || d.isConstOf ``Bool.false then d else r.expr)
 return (r', ← mkExpectedTypeHint (← r.getProof) (← mkEq b r'))
def zq9atRoot (o : Lean.Expr) : SimpM (Option Simp.Result) := withReducible do
 match ← Simp.rewritePost false o with
 | .visit r => return some r
 | .done r => return some r
 | .continue (some r) => return some r
 | .continue none => return none
def zq9evO (o : Lean.Expr) : SimpM (Option (Lean.Expr × Lean.Expr)) := do
 let o := o.headBeta
 if let some r ← zq9atRoot o then
  if let some v := zq9someArg? r.expr then
   let v' ← if (← inferType v).isConstOf ``PV then zq9nVal v else pure v
   let b? := if v'.isAppOfArity ``PV.bl 1 then some v'.appArg! else none
   match b? with
   | none => return some (v', ← mkExpectedTypeHint (← r.getProof) (← mkEq o (mkApp r.expr.appFn! v')))
   | some b =>
    let (b', p) ← zq9evB b
    let f := mkLambda `x .default (mkConst ``Bool) (mkApp r.expr.appFn! (mkApp (mkConst ``PV.bl) (Lean.Expr.bvar 0)))
    return some (mkApp (mkConst ``PV.bl) b', ← mkEqTrans (← r.getProof) (← mkExpectedTypeHint (← mkCongrArg f p) (← mkEq r.expr (mkApp r.expr.appFn! (mkApp (mkConst ``PV.bl) b')))))
 let d ← zq9wh o
 let bySimp : SimpM (Option (Lean.Expr × Lean.Expr)) := do
  let r ← zq9sm o
  let d ← if (zq9someArg? r.expr).isSome then pure r.expr else zq9wh r.expr
  match zq9someArg? d with
  | some v => return some (v, ← mkExpectedTypeHint (← r.getProof) (← mkEq o d))
  | none => return none
 match zq9someArg? d with
 | some v =>
  let ty ← inferType v
  if ty.isConstOf ``bX then
   let v ← zq9nSta v
   let d := mkApp d.appFn! v
   return some (v, ← zq9rflT o d)
  let v := v.headBeta
  let v ← if ty.isConstOf ``PV then zq9nVal v else pure v
  let b? := if v.isAppOfArity ``PV.bl 1 then some v.appArg! else if ty.isConstOf ``Bool then some v else none
  match b? with
  | none => let d' := mkApp d.appFn! v; return some (v, ← zq9rflT o d')
  | some b =>
   let b' ← zq9wh b
   let f := if ty.isConstOf ``Bool then id else mkApp (mkConst ``PV.bl)
   if b'.isConstOf ``Bool.true || b'.isConstOf ``Bool.false then let d' := mkApp d.appFn! (f b'); return some (f b', ← zq9rflT o d')
   let fallback : SimpM (Option (Lean.Expr × Lean.Expr)) := do
    let (b', p) ← zq9evB b
    return some (f b', ← mkExpectedTypeHint (← mkCongrArg (mkLambda `x .default (mkConst ``Bool) (mkApp d.appFn! (f (Lean.Expr.bvar 0)))) p) (← mkEq o (mkApp d.appFn! (f b'))))
   match ← bySimp with
   | some (v', p) =>
    let c := if v'.isAppOfArity ``PV.bl 1 then v'.appArg! else v'
    if c.isConstOf ``Bool.true || c.isConstOf ``Bool.false || (zq9someArg? (← zq9sm o).expr).isSome then return some (v', p)
    fallback
   | none => fallback
 | none => bySimp
def zq9okE (α a st : Lean.Expr) : Lean.Expr :=
 let rs := mkApp (mkConst ``Rs) α
 let pr := mkApp2 (mkConst ``Prod [0, 0]) rs (mkConst ``bX)
 mkApp2 (mkConst ``Option.some [0]) pr (mkApp4 (mkConst ``Prod.mk [0, 0]) rs (mkConst ``bX) (mkApp2 (mkConst ``Rs.ok) α a) st)
def zq9okH (a h : Lean.Expr) : Lean.Expr :=
 let rs := mkApp (mkConst ``Rs) (mkConst ``PV)
 let lc := mkApp (mkConst ``List [0]) (mkConst ``ai)
 let pr := mkApp2 (mkConst ``Prod [0, 0]) rs lc
 mkApp2 (mkConst ``Option.some [0]) pr (mkApp4 (mkConst ``Prod.mk [0, 0]) rs lc (mkApp2 (mkConst ``Rs.ok) (mkConst ``PV) a) h)
def zq9okArgs? (r : Lean.Expr) : Option (Lean.Expr × Lean.Expr) := do
 let x ← zq9someArg? r
 guard (x.isAppOfArity ``Prod.mk 4)
 let y := x.appFn!.appArg!
 guard (y.isAppOfArity ``Rs.ok 2)
 return (y.appArg!, x.appArg!)
def zq9nRes (e : Lean.Expr) : MetaM (Option Lean.Expr) := do
 let d ← zq9wh e
 let some x := zq9someArg? d | return none
 let x ← zq9wh x
 unless x.isAppOfArity ``Prod.mk 4 do return none
 let y ← zq9wh (x.appFn!.appArg!)
 let st ← zq9nSta x.appArg!
 let y ← if y.isAppOfArity ``Rs.ok 2 then (do let v ← (do let v := y.appArg!.headBeta; if (← inferType v).isConstOf ``PV then zq9nVal v else zq9wh v); pure (mkApp y.appFn! v)) else pure y
 return some (mkApp d.appFn! (mkApp2 x.appFn!.appFn! y st))
def zq9evUnfold : List Lean.Name := [``op2, ``dB, ``Lu, ``zh, ``toB, ``vS, ``zd, ``iX, ``l8, ``onK, ``vV, ``kO, ``zf, ``AS, ``chain, ``Nc, ``UJ, ``Nd, ``ND, ``Fb, ``cutE, ``NG, ``CI, ``CJ, ``V8, ``Og, ``OQ, ``HW, ``tyG, ``o9, ``NX, ``Fw, ``A8, ``OP, ``OI, ``JV, ``Ws, ``zy, ``pf, ``FQ, ``WL, ``Jm, ``Oa, ``Bk, ``Kb]
def zq9mkLe (a b : Lean.Expr) : MetaM (Option Lean.Expr) := do
 let p ← mkAppM ``LE.le #[a, b]
 let d ← mkAppM ``Decidable.decide #[p]
 let r ← zq9wh d
 if r.isConstOf ``Bool.true then return some (← mkAppM ``of_decide_eq_true #[← mkExpectedTypeHint (← mkEqRefl (mkConst ``Bool.true)) (← mkEq d (mkConst ``Bool.true))]) else return none
def zq9byS (p : Lean.Expr) : SimpM (Option Lean.Expr) := do
 let r ← zq9sm p
 if r.expr.isTrue then return some (← mkOfEqTrue (← r.getProof)) else return none
def zq9evE (go : Lean.Expr → SimpM (Lean.Expr × Lean.Expr)) (bd p h : Lean.Expr) : SimpM (Lean.Expr × Lean.Expr) := do
 let as := bd.getAppArgs
 let ρ := as.back!
 let st := mkApp2 (mkConst ``bX.mk) ρ h
 let some (st1, pt) ← zq9evO (mkApp2 as[0]! p st) | throwError "zq9ev: target {p}"
 if bd.isAppOf ``m8 then
  let (r1, p1) ← go (mkApp as[1]! st1)
  let some (v, s2) := zq9okArgs? r1 | throwError "zq9ev: elt1 {r1}"
  let q := mkAppN (mkConst ``Xy) #[as[0]!, as[1]!, ρ, p, v, h, st1, s2.appFn!.appArg!, s2.appArg!, pt, p1]
  let some (_, _, r) := (← inferType q).eq? | throwError "zq9ev: elt1"
  return (r, q)
 else
  let (r1, p1) ← go (mkApp as[1]! st1)
  let some (b, st2) := zq9okArgs? r1 | throwError "zq9ev: elt2 {r1}"
  if b.isConstOf ``Bool.false then
   let q ← mkAppM `e2F #[pt, p1]
   let some (_, _, r) := (← inferType q).eq? | throwError "zq9ev: elt2"
   return (r, q)
  else if b.isConstOf ``Bool.true then
   let (_, p2) ← go (mkApp as[2]! st2)
   let q ← mkAppM `e2T #[pt, p1, p2]
   let some (_, _, r) := (← inferType q).eq? | throwError "zq9ev: elt2"
   return (r, q)
  else
   withLocalDeclD `hb (← mkEq b (mkConst ``Bool.true)) fun hb => do
    let thms ← (← Simp.getContext).simpTheorems.addTheorem (.fvar hb.fvarId!) hb
    Simp.withSimpTheorems thms do
     let (r2, p2) ← go (mkApp as[2]! st2)
     let some (v, s3) := zq9okArgs? r2 | throwError "zq9ev: elt2 {r2}"
     let q := mkAppN (mkConst ``Xz) #[as[0]!, as[1]!, as[2]!, ρ, p, v, b, h, st1, st2.appFn!.appArg!, s3.appFn!.appArg!, pt, p1, ← mkLambdaFVars #[hb] p2]
     let some (_, _, r) := (← inferType q).eq? | throwError "zq9ev: elt2"
     return (r, q)
def zq9evL (go : Lean.Expr → SimpM (Lean.Expr × Lean.Expr)) (bd h : Lean.Expr) : Nat → Lean.Expr → SimpM Lean.Expr
 | 0, _ => throwError "zq9ev: long list"
 | m + 1, ps => do
  let d ← zq9wh ps
  if d.isAppOf ``List.nil then mkAppOptM ``Qh #[some bd, some h]
  else if d.isAppOfArity ``List.cons 3 then
   let (_, p) ← zq9evE go bd d.appFn!.appArg!.headBeta h
   let p2 ← zq9evL go bd h m d.appArg!
   mkAppM ``Ph #[p, p2]
  else throwError "zq9ev: list {ps}"
def zq9evC (go : Lean.Expr → SimpM (Lean.Expr × Lean.Expr)) (bd ps h : Lean.Expr) : SimpM Lean.Expr := do
 let d ← zq9wh ps
 if d.isAppOf ``List.nil || d.isAppOf ``List.cons then zq9evL go bd h 300 d
 else
  let d := if ps.isAppOfArity ``List.map 4 then ps else d
  unless d.isAppOfArity ``List.map 4 do throwError "zq9ev: list {ps}"
  let fn := d.getAppArgs[2]!
  let L := d.appArg!
  let α := d.getAppArgs[0]!
  withLocalDeclD `x α fun x => do
   let mem ← mkAppM ``Membership.mem #[L, x]
   withLocalDeclD `hx mem fun hx => do
    let thms ← (← Simp.getContext).simpTheorems.addTheorem (.fvar hx.fvarId!) hx
    Simp.withSimpTheorems thms do
     let (r, p) ← zq9evE go bd (mkApp fn x).headBeta h
     let some v := zq9someArg? r | throwError "zq9ev: item {r}"
     let o := v.appFn!.appArg!
     match zq9someArg? o with
     | some q =>
      let q ← mkLambdaFVars #[x] q
      mkAppOptM ``Di #[some α, some fn, some q, some h, some bd, some L, some (← mkLambdaFVars #[x, hx] p)]
     | none =>
      unless o.isAppOfArity ``ite 5 do throwError "zq9ev: item {o}"
      let some (_, b, _) := o.getAppArgs[1]!.eq? | throwError "zq9ev: item {o}"
      let some q := zq9someArg? o.getAppArgs[3]! | throwError "zq9ev: item {o}"
      mkAppOptM ``Dj #[some α, some fn, some (← mkLambdaFVars #[x] q), some (← mkLambdaFVars #[x] b), some h, some bd, some L, some (← mkLambdaFVars #[x, hx] p)]
def zq9ev : Nat → Lean.Expr → SimpM (Lean.Expr × Lean.Expr)
 | 0, e => throwError "zq9ev: no fuel {e}"
 | n + 1, e => do
  let e := e.headBeta
  let f := e.getAppFn
  let as := e.getAppArgs
  let leaf : SimpM (Lean.Expr × Lean.Expr) := do
   let r ← zq9sm e
   let some x ← zq9nRes r.expr | throwError "zq9ev: stuck at{indentExpr e}\n which is{indentExpr r.expr}"
   return (x, ← mkExpectedTypeHint (← r.getProof) (← mkEq e x))
  let red : SimpM (Lean.Expr × Lean.Expr) := do
   match ← zq9nRes e with
   | some x => return (x, ← mkExpectedTypeHint (← mkEqRefl x) (← mkEq e x))
   | none => leaf
  match f with
  | .const c _ =>
   if c == ``bnd && as.size == 5 then
    let (r, p) ← zq9ev n (mkApp as[2]! as[4]!)
    let some (a, st) := zq9okArgs? r | throwError "zq9ev: no answer {r} of{indentExpr as[2]!}"
    let (r2, p2) ← zq9ev n (mkApp2 as[3]! a st).headBeta
    return (r2, mkAppN (mkConst ``Zg) #[as[0]!, as[1]!, as[2]!, as[3]!, as[4]!, st, a, r2, p, p2])
   else if c == ``bT && as.size == 3 then
    if as[0]!.isConstOf ``Bool && !(as[1]!.isConstOf ``Bool.true || as[1]!.isConstOf ``Bool.false) then
     let (b, p) ← zq9evB as[1]!
     let f := mkLambda `x .default (mkConst ``Bool) (zq9okE as[0]! (Lean.Expr.bvar 0) as[2]!)
     return (zq9okE as[0]! b as[2]!, ← mkExpectedTypeHint (← mkCongrArg f p) (← mkEq e (zq9okE as[0]! b as[2]!)))
    let x := zq9okE as[0]! as[1]! as[2]!
    return (x, ← zq9rflT e x)
   else if c == ``fD && as.size == 3 then
    let some (v, p) ← zq9evO as[1]! | throwError "zq9ev: stuck at lif{indentExpr as[1]!}"
    return (zq9okE as[0]! v as[2]!, mkAppN (mkConst ``Ze) #[as[0]!, as[1]!, v, as[2]!, p])
   else if c == ``hp && as.size == 3 then
    let st ← zq9wh as[2]!
    let h := if st.isAppOfArity ``bX.mk 2 then st.appArg! else mkApp (mkConst ``bX.h) as[2]!
    let some (v, p) ← zq9evO (mkApp as[1]! h).headBeta | throwError "zq9ev: stuck at hp{indentExpr (mkApp as[1]! h).headBeta}"
    return (zq9okE as[0]! v as[2]!, mkAppN (mkConst ``abh) #[as[0]!, as[1]!, v, as[2]!, p])
   else if c == ``stp && as.size == 2 then
    let some (v, p) ← zq9evO (mkApp as[0]! as[1]!).headBeta | throwError "zq9ev: stuck at stp{indentExpr (mkApp as[0]! as[1]!).headBeta}"
    return (zq9okE (mkConst ``d9) (mkConst ``d9.nx) v, mkAppN (mkConst ``Zf) #[as[0]!, as[1]!, v, p])
   else if c == ``ite && as.size == 6 then
    let some (_, b, _) := as[1]!.eq? | throwError "zq9ev: ite {as[1]!}"
    let (b', p) ← zq9evB b
    if b'.isConstOf ``Bool.true then
     let (r, p2) ← zq9ev n (mkApp as[3]! as[5]!)
     let α := (← zq9wh as[0]!).bindingBody!.appArg!.appFn!.appArg!.appArg!
     return (r, mkAppN (mkConst ``abi) #[α, b, as[3]!, as[4]!, as[5]!, r, p, p2])
    else if b'.isConstOf ``Bool.false then
     let (r, p2) ← zq9ev n (mkApp as[4]! as[5]!)
     let α := (← zq9wh as[0]!).bindingBody!.appArg!.appFn!.appArg!.appArg!
     return (r, mkAppN (mkConst ``abj) #[α, b, as[3]!, as[4]!, as[5]!, r, p, p2])
    else throwError "zq9ev: open test{indentExpr b'}"
   else if c == ``iC && as.size == 4 then
    let st := mkApp2 (mkConst ``bX.mk) (← zq9nList true 200 (mkApp2 (mkConst ``ie) as[1]! as[2]!)) as[3]!
    let (r, p) ← zq9ev n (mkApp as[0]! st)
    let some (a, s1) := zq9okArgs? r | throwError "zq9ev: run's end {r}"
    let h1 := if s1.isAppOfArity ``bX.mk 2 then s1.appArg! else mkApp (mkConst ``bX.h) s1
    if a.isAppOf ``d9.rt then return (zq9okH a.appArg! h1, mkAppN (mkConst ``Xu) #[as[0]!, as[1]!, as[2]!, as[3]!, a.appArg!, s1, p])
    else if a.isConstOf ``d9.nx then return (zq9okH (mkConst ``PV.aV) h1, mkAppN (mkConst ``Xv) #[as[0]!, as[1]!, as[2]!, as[3]!, s1, p])
    else throwError "zq9ev: run's end {r}"
   else if (c == ``ja && as.size == 5) || (c == ``j4 && as.size == 4) then
    let k := if c == ``ja then 1 else 0
    let st ← zq9wh as[3 + k]!
    let h := if st.isAppOfArity ``bX.mk 2 then st.appArg! else mkApp (mkConst ``bX.h) st
    let as' ← zq9nList false 50 as[2 + k]!
    let q ← mkAppM ``Bool.or #[← mkAppM ``List.isEmpty #[h], ← mkAppM ``aE #[as']]
    let q ← if k == 1 then mkAppM ``and #[← mkAppM ``BEq.beq #[as[0]!, mkNatLit 0], q] else pure q
    let (b, pb) ← zq9evB q
    let hl ← mkExpectedTypeHint (← mkEqRefl as[k]!) (← mkEq (← mkAppM ``List.length #[as']) as[k]!)
    if b.isConstOf ``Bool.true then
     let q0 ← mkAppM ``Bool.or #[← mkAppM ``List.isEmpty #[h], ← mkAppM ``aE #[as']]
     let (_, pb0) ← zq9evB q0
     let cl := mkApp2 as[1 + k]! as' (← mkAppOptM ``List.nil #[some (mkConst ``ai)])
     let (r, p) ← zq9ev n cl
     let some (v, h') := zq9okArgs? r | throwError "zq9ev: call's end{indentExpr cl}\n is {r}"
     let fz := mkApp2 (mkConst ``bH) h' v
     let some (qv, pf) ← zq9evO fz | throwError "zq9ev: stuck at {fz}"
     return (zq9okE (mkConst ``PV) qv as[3 + k]!, mkAppN (mkConst (if k == 1 then ``Xw else ``Kw)) #[as[k]!, as[1 + k]!, as', as[3 + k]!, v, qv, h', pb0, hl, p, pf])
    else if b.isConstOf ``Bool.false && k == 1 then
     let (r, p) ← zq9ev n (mkApp2 as[2]! as' h)
     let some (v, h') := zq9okArgs? r | throwError "zq9ev: call's end {r}"
     let ρ := if st.isAppOfArity ``bX.mk 2 then st.appFn!.appArg! else mkApp (mkConst ``bX.ρ) st
     return (zq9okE (mkConst ``PV) v (mkApp2 (mkConst ``bX.mk) ρ h'), mkAppN (mkConst `evCallM) #[as[0]!, as[1]!, as[2]!, as', as[4]!, v, h', pb, hl, p])
    else throwError "zq9ev: call with refs? {b} of{indentExpr e}"
   else if c == ``dO && as.size == 4 then
    unless zq9isLit as[2]! 300 || as[2]!.isAppOf ``List.cons do
     let r ← zq9sm e
     if (zq9someArg? r.expr).isSome then
      let some x ← zq9nRes r.expr | throwError "zq9ev: loop{indentExpr r.expr}"
      return (x, ← mkExpectedTypeHint (← r.getProof) (← mkEq e x))
    let ps ← zq9wh as[2]!
    if ps.isAppOf ``List.cons || ps.isAppOf ``List.nil then
     let some d ← withDefault (unfoldDefinition? (mkAppN f #[as[0]!, as[1]!, ps, as[3]!])) | throwError "zq9ev: forF"
     let (r, p) ← zq9ev n (← whnfCore d)
     return (r, ← mkExpectedTypeHint p (← mkEq e r))
    else leaf
   else if c == ``fR && as.size == 5 && as[0]!.isConstOf ``Bool.false then
    let (r, p) ← zq9ev n (mkApp as[2]! as[4]!)
    let some (src, st) := zq9okArgs? r | throwError "zq9ev: source {r}"
    unless src.isAppOf ``zw.sq do throwError "zq9ev: source {src}"
    let ps0 := src.appArg!
    let (ps, p) ← if ps0.isAppOf ``List.map || zq9isLit ps0 300 then pure (ps0, p) else (do
     let r ← zq9sm ps0
     let lt := mkApp (mkConst ``List [0]) (mkConst ``PV)
     let lam := mkLambda `l .default lt (zq9okE (mkConst ``zw) (mkApp (mkConst ``zw.sq) (Lean.Expr.bvar 0)) st)
     return (r.expr, ← mkEqTrans p (← mkCongrArg lam (← r.getProof))))
    let ρ ← zq9nList true 100 (mkApp2 (mkConst ``cR) as[1]! st.appFn!.appArg!)
    let bd := mkApp as[3]! ρ
    let h := st.appArg!
    let le ← mkAppM ``LE.le #[← mkAppM ``List.length #[ps], mkNatLit 4000000]
    let hl ← match ← zq9mkLe (← mkAppM ``List.length #[ps]) (mkNatLit 4000000) with
     | some p => pure p
     | none => match ← zq9byS le with | some p => pure p | none => throwError "zq9ev: length of {ps}"
    let hc ← zq9evC (zq9ev n) bd ps h
    let some (_, _, rc) := (← inferType hc).eq? | throwError "zq9ev: comp"
    let x := rc.appArg!
    let qs := x.appFn!.appArg!
    return (zq9okE (mkConst ``PV) (mkApp (mkConst ``PV.lst) qs) (mkApp2 (mkConst ``bX.mk) st.appFn!.appArg! x.appArg!), mkAppN (mkConst ``Xx) #[as[1]!, as[2]!, as[3]!, as[4]!, st, ps, qs, x.appArg!, p, hl, hc])
   else if c == ``run || c == ``HX then leaf
   else if c == ``iX && as.size == 5 && as[0]!.isConstOf ``Bool && (as[2]!.isAppOf ``bT || as[3]!.isAppOf ``bT) then
    let (r, p) ← zq9ev n (mkApp as[1]! as[4]!)
    let some (b, s1) := zq9okArgs? r | throwError "zq9ev: test {r}"
    if b.isConstOf ``Bool.true || b.isConstOf ``Bool.false then
     let t := b.isConstOf ``Bool.true
     let (r2, p2) ← zq9ev n (mkApp (if t then as[2]! else as[3]!) s1)
     return (r2, mkAppN (mkConst (if t then ``Xr else ``Xs)) #[as[0]!, as[1]!, as[2]!, as[3]!, as[4]!, s1, r2, p, p2])
    else
     let isA := as[3]!.isAppOf ``bT && as[3]!.appArg!.isConstOf ``Bool.false
     let f := if isA then as[2]! else as[3]!
     withLocalDeclD `hb (← mkEq b (mkConst (if isA then ``Bool.true else ``Bool.false))) fun hb => do
      let thms ← (← Simp.getContext).simpTheorems.addTheorem (.fvar hb.fvarId!) hb
      Simp.withSimpTheorems thms do
       let (r2, p2) ← zq9ev n (mkApp f s1)
       let some (b2, _) := zq9okArgs? r2 | throwError "zq9ev: test {r2}"
       let lam ← mkLambdaFVars #[hb] p2
       return (zq9okE (mkConst ``Bool) (mkApp2 (mkConst (if isA then ``Bool.and else ``Bool.or)) b b2) s1, mkAppN (mkConst (if isA then ``Zh else `evOr)) #[as[1]!, f, as[4]!, s1, b, b2, p, lam])
   else if c == ``SA && as.size == 5 then
    let (r, p) ← zq9ev n (mkApp as[3]! as[4]!)
    let some (l, st) := zq9okArgs? r | throwError "zq9ev: made {r}"
    let l ← zq9nList false 50 l
    let h := st.appArg!
    let q ← mkAppM ``Bool.or #[← mkAppM ``List.isEmpty #[h], ← mkAppM ``aE #[l]]
    let (b, pb) ← zq9evB q
    unless b.isConstOf ``Bool.true do throwError "zq9ev: made with refs {b}"
    let lc := mkApp (mkConst ``List [0]) (mkConst ``ai)
    let nn := mkApp (mkConst ``List.nil [0]) (mkConst ``PV)
    let nS := mkApp (mkConst ``List.nil [0]) (mkConst ``PySem.Str)
    let cell := mkApp2 (mkConst ``ai.mk) (mkApp2 (mkConst ``Kd.ins) as[0]! nS) nn
    let cells := mkApp3 (mkConst ``List.cons [0]) (mkConst ``ai) cell (mkApp (mkConst ``List.nil [0]) (mkConst ``ai))
    let ar := mkApp3 (mkConst ``List.cons [0]) (mkConst ``PV) (mkApp (mkConst ``PV.ref) (mkNatLit 0)) l
    let (r2, p2) ← zq9ev n (mkApp2 as[2]! ar cells)
    let some (_, h') := zq9okArgs? r2 | throwError "zq9ev: made, end {r2}"
    let dr := mkApp3 (mkConst ``lC) h' (mkNatLit 4) (mkApp (mkConst ``PV.ref) (mkNatLit 0))
    let some (qv, pd) ← zq9evO dr | throwError "zq9ev: stuck at {dr}"
    let hl ← mkExpectedTypeHint (← mkEqRefl as[1]!) (← mkEq (← mkAppM ``HAdd.hAdd #[← mkAppM ``List.length #[l], mkNatLit 1]) as[1]!)
    return (zq9okE (mkConst ``PV) qv st, mkAppN (mkConst ``abl) #[as[0]!, as[1]!, as[2]!, as[3]!, as[4]!, st, l, h', qv, p, hl, pb, p2, pd])
   else if zq9evUnfold.contains c then
    let some d ← withDefault (unfoldDefinition? e) | red
    zq9ev n (← whnfCore d)
   else
    let some d ← withDefault (unfoldDefinition? e) | red
    let d ← withReducible (whnf d)
    match d.getAppFn with
    | .const c' _ =>
     if c' == ``bnd || c' == ``bT || zq9evUnfold.contains c' then
      let (r, p) ← zq9ev n d
      return (r, ← mkExpectedTypeHint p (← mkEq e r))
     else red
    | _ => red
  | .fvar _ => leaf
  | _ => red
simproc_decl jF (gx _ _) := fun e => do
 let as := e.getAppArgs
 let (r, p) ← zq9ev 400 (mkApp as[1]! as[2]!)
 return .done { expr := r, proof? := mkAppN (mkConst ``Zi) #[as[0]!, as[1]!, as[2]!, r, p] }
simproc_decl aX (iC _ _ _ _) := fun e => do
 let (r, p) ← zq9ev 400 e
 return .done { expr := r, proof? := p }
end
end L2.U
namespace bS
open PySem L2 L2.U
theorem ki(k:Nat)(d:Kn):run aD (k+2) "shape_of" [br d] []=some (.ok (d8 (jd d)),[]):=by
 rw[uU];have h:=cw k d;cases d<;>simp only[↓aX,h,eU]<;>rfl
inductive sE where
 | aV | own (s:Sx) | m9 (w:Bool) (s:Sx) (src:List Str)
def ik:sE->PV
 | .aV=>.aV
 | .own s=>d8 s
 | .m9 w s l=>.aj [.str (sy w),d8 s,.aj (l.map .str)]
structure Sc where
 K:List Ky
 res:sE
 size:Nat
 hk:List (List cL)
 hv:List PV
noncomputable def zX(K:List Ky):List (List cL):=K.map λq=>[.inr q.1]
def Dk(K:List Ky):List PV:=K.map λq=>br q.2
abbrev TQ(K:List Ky):PV:=.nd (.eW false (zX K)) (Dk K)
def gW(S:Sc):PV:=.nd (.ins "Scene" ["kinds","result","size","heads"]) [TQ S.K,ik S.res,.int S.size,.nd (.eW false S.hk) S.hv]
noncomputable def aK:List Ky->Str->Option Kn
 | [],_=>none
 | r::l,x=>if r.1=x then some r.2 else aK l x
theorem zY:∀{K:List Ky} {x:Str},dj [.inr x] (zX K) (Dk K)=(aK K x).map br
 | [],_=>rfl
 | r::l,x=>by
  show(if [(Sum.inr r.1:cL)]=[Sum.inr x]then some (br r.2)else dj [.inr x] (zX l) (Dk l))=_
  unfold aK;by_cases h:r.1=x
  ·rw[if_pos h,if_pos (by rw[h])];rfl
  ·rw[if_neg h,if_neg (by simpa using h),zY]
theorem G0:∀{K:List Ky} {x:Str},gw [.inr x] (zX K)=(aK K x).isSome
 | [],_=>rfl
 | r::l,x=>by
  show(decide ([(Sum.inr r.1:cL)]=[Sum.inr x]) || gw [.inr x] (zX l))=_;unfold aK;rw[G0];by_cases h:r.1=x
  ·rw[if_pos h,bf (by rw[h])];rfl
  ·rw[if_neg h,bz (by simpa using h)];rfl
theorem Pj{K:List Ky}{x:Str}{d:Kn}{h:List ai}(hd:aK K x=some d):dX h (TQ K) (.str x)=some (br d):=by
 show dj [.inr x] (zX K) (Dk K)=_;rw[zY,hd];rfl
theorem XB{K:List Ky}{x:Str}{d:Kn}{h:List ai}(hd:aK K x=some d):qu true h (.str x) (TQ K)=some (.bl false):=by
 show some (PV.bl (!gw [.inr x] (zX K)))=_;rw[G0,hd];rfl
theorem TR{K:List Ky}{x:Str}{d:Kn}{h:List ai}(hd:aK K x=some d):N9 h (TQ K) [.str x]=some (br d):=by
 show(if gw [.inr x] (zX K)=true then dj [.inr x] (zX K) (Dk K)else some .aV)=_
 rw[G0,zY,hd];rfl
noncomputable def iz:Kn->Bool
 | .ho false _=>false
 | _=>true
theorem mw(k:Nat)(S:Sc)(x:Str)(p a:PV){d:Kn}(hd:aK S.K x=some d):run aD (k+1) "may_be_written" [gW S,.aj [.str x,.bl (eU d),p,a]] []=some (.ok (.bl (iz d)),[]):=by
 rw[kd];rcases d with s | ⟨_ | _,s⟩<;>simp only[↓aX,Pj hd]<;>rfl
theorem Pk{P:Fin 8->Prop}(h0:P 0)(h1:P 1)(h2:P 2)(h3:P 3)(h4:P 4)(h5:P 5)(h6:P 6)(h7:P 7):∀n,P n
 | 0=>h0 | 1=>h1 | 2=>h2 | 3=>h3 | 4=>h4 | 5=>h5 | 6=>h6 | 7=>h7
noncomputable def tS(n:Fin 8):Tr:=.aj [.str "strip",.int (1+(n.val:Int))]
noncomputable def vp:Tr:=.aj [.str "num"]
noncomputable def Pl:Tr:=.aj [.str "own"]
def Pm:Tr:=.aj [.str "rec",.aj [vp,vp]]
def UZ:Tr:=.aj [.str "rec",.aj [Pm,Pl]]
def xq:Sx->Tr
 | .nu=>vp
 | .ow=>Pl
 | .st n=>tS n
 | .tw=>Pm
 | .no=>.aj [.str "rec",.aj [vp,Pl]]
 | .sn n=>.aj [.str "rec",.aj [tS n,vp]]
 | .tn=>.aj [.str "rec",.aj [Pm,vp]]
 | .dp n=>.aj [.str "rec",.aj [UZ,tS n]]
 | .di=>UZ
 | .fo=>.aj [.str "rec",.aj [Pm,Pm,Pm,Pm]]
def TU:Kn->Tr
 | .ow s=>xq s
 | .ho w s=>.aj [.str (sy w),xq s]
theorem toT_S(h:List ai)(s:Sx):toT h dP (d8 s)=some (xq s):=by cases s<;>kernel_rfl
theorem toT_K(h:List ai)(d:Kn):toT h dP (br d)=some (TU d):=by
 cases d with
 | ow s=>exact toT_S h s
 | ho w s=>cases s<;>kernel_rfl
theorem XC(n m:Fin 8):((1+(n.val:Int))==(1+(m.val:Int)))=decide (n=m):=by
 rw[jQ,lW,decide_eq_true_iff,Fin.ext_iff]
 lia
theorem zZ(n m:Fin 8):eqT (tS n) (tS m)=decide (n=m):=by
 show((Str.ofString "strip"==Str.ofString "strip")&&(((1+(n.val:Int))==(1+(m.val:Int)))&&true))=_;rw[XC,Bool.and_true,iP,lQ]
theorem sF(a b:Sx):eqT (xq a) (xq b)=decide (a=b):=by
 cases a<;>cases b
 case st.st n m=>rw[show decide (Sx.st n=Sx.st m)=decide (n=m) by simp];exact zZ n m
 case sn.sn n m=>simp[xq,eqT,f9,zZ,show eqT vp vp=true by kernel_rfl]
 case dp.dp n m=>simp[xq,eqT,f9,zZ,show eqT UZ UZ=true by kernel_rfl]
 all_goals kernel_rfl
theorem TV(a b:Kn):eqT (TU a) (TU b)=decide (a=b):=by
 rcases a with a | ⟨v,a⟩<;>rcases b with b | ⟨w,b⟩
 ·rw[show decide (Kn.ow a=Kn.ow b)=decide (a=b) by simp];exact sF a b
 ·cases w<;>cases a<;>kernel_rfl
 ·cases v<;>cases b<;>kernel_rfl
 ·show(_==_&&(eqT (xq a) (xq b)&&true))=_;rw[sF];cases v<;>cases w
  ·simp
  ·kernel_rfl
  ·kernel_rfl
  ·simp
theorem Pn{h:List ai}{a b:Sx}:qt h (d8 a) (d8 b)=some (.bl (decide (a=b))):=by
 show((toT h dP (d8 a)).bind λx=>(toT h dP (d8 b)).map λy=>eqT x y).map _=_
 rw[toT_S,toT_S];show some (PV.bl (eqT (xq a) (xq b)))=_;rw[sF]
theorem qX{h:List ai}{a b:Kn}:qt h (br a) (br b)=some (.bl (decide (a=b))):=by
 show((toT h dP (br a)).bind λx=>(toT h dP (br b)).map λy=>eqT x y).map _=_
 rw[toT_K,toT_K];show some (PV.bl (eqT (TU a) (TU b)))=_;rw[TV]
theorem kj(k:Nat)(s:Sx):run aD (k+9) "is_shape" [d8 s] []=some (.ok (.bl true),[]):=by
 cases s
 case st n=>revert n;refine Pk ?_ ?_ ?_ ?_ ?_ ?_ ?_ ?_<;>kernel_rfl
 case sn n=>revert n;refine Pk ?_ ?_ ?_ ?_ ?_ ?_ ?_ ?_<;>kernel_rfl
 case dp n=>revert n;refine Pk ?_ ?_ ?_ ?_ ?_ ?_ ?_ ?_<;>kernel_rfl
 all_goals kernel_rfl
abbrev Te:=List Nat×Nat×Sx
noncomputable def eO:Sx->List Te
 | .nu=>[([],0,.nu)]
 | .ow=>[([],0,.ow)]
 | .st n=>[([],0,.st n)]
 | .tw=>[([],0,.tw),([0],0,.nu),([1],1,.nu)]
 | .no=>[([],0,.no),([0],0,.nu),([1],1,.ow)]
 | .sn n=>[([],0,.sn n),([0],0,.st n),([1],1,.nu)]
 | .tn=>[([],0,.tn),([0],0,.tw),([0,0],0,.nu),([0,1],1,.nu),([1],2,.nu)]
 | .di=>[([],0,.di),([0],0,.tw),([0,0],0,.nu),([0,1],1,.nu),([1],2,.ow)]
 | .dp n=>[([],0,.dp n),([0],0,.di),([0,0],0,.tw),([0,0,0],0,.nu),([0,0,1],1,.nu),([0,1],2,.ow),([1],3,.st n)]
 | .fo=>[([],0,.fo),([0],0,.tw),([0,0],0,.nu),([0,1],1,.nu),([1],2,.tw),([1,0],2,.nu),([1,1],3,.nu),([2],4,.tw),([2,0],4,.nu),([2,1],5,.nu),([3],6,.tw),([3,0],6,.nu),([3,1],7,.nu)]
def xT(p:List Nat):PV:=.aj (p.map fun(i:Nat)=>.int (i:Int))
def All{α:Type}(P:α->Prop):List α->Prop
 | []=>True
 | a::l=>P a/\All P l
theorem All.mem{α:Type}{P:α->Prop}:∀{l:List α},All P l->∀e∈l,P e
 | a::l,h,e,he=>by
  rcases bh.mp he with rfl | he
  ·exact h.1
  ·exact All.mem h.2 e he
theorem lr{P:Sx->Te->Prop}(h:∀s,All (P s) (eO s))(s:Sx)(e:Te)(he:e∈eO s):P s e:=(h s).mem e he
theorem Dl(k:Nat)(s:Sx)(e:Te)(he:e∈eO s):run aD (k+9) "is_path" [d8 s,xT e.1] []=some (.ok (.bl true),[]):=by
 revert s e
 refine lr λs=>?_
 cases s<;>(repeat' apply And.intro)<;>first | exact True.intro | kernel_rfl
theorem G1(k:Nat)(s:Sx)(e:Te)(he:e∈eO s):run aD (k+9) "part" [d8 s,xT e.1] []=some (.ok (d8 e.2.2),[]):=by
 revert s e
 refine lr λs=>?_
 cases s<;>(repeat' apply And.intro)<;>first | exact True.intro | kernel_rfl
inductive At where
 | aV | num (i:Int) | Kx (x:Str)
structure Sp where
 x:Str
 t:Bool
 p:List Nat
 a:At
noncomputable def Kz:At->PV
 | .aV=>.aV
 | .num i=>.int i
 | .Kx x=>.str x
def eG(s:Sp):PV:=.aj [.str s.x,.bl s.t,xT s.p,Kz s.a]
def KA(S:Sc)(i:Sx):At->Prop
 | .aV=>True
 | .num j=>∃n,i=.st n/\0<=j/\j<1+(n.val:Int)
 | .Kx y=>∃n,i=.st n/\aK S.K y=some (.ow .nu)
structure ee (S:Sc) (s:Sp) (d:Kn) (i:Sx):Prop where
 k:aK S.K s.x=some d
 t:s.t=eU d
 p:∃f,(s.p,f,i)∈eO (jd d)
 a:KA S i s.a
theorem km(k:Nat)(i:Int):run aD (k+1) "is_whole" [.int i] []=some (.ok (.bl true),[]):=by kernel_rfl
theorem u5(k:Nat)(x:List PV):run aD (k+1) "is_whole" [.aj x] []=some (.ok (.bl false),[]):=by kernel_rfl
theorem ip(k:Nat)(S:Sc)(x:Str){d e:Kn}(hd:aK S.K x=some d):run aD (k+1) "has_kind" [gW S,.str x,br e] []=some (.ok (.bl (decide (d=e))),[]):=by
 rw[uV];simp only[↓aX,TR hd,qX]
theorem Dn(k:Nat)(S:Sc)(x:Str)(hd:aK S.K x=some (.ow .nu)):run aD (k+1) "has_kind" [gW S,.str x,pN] []=some (.ok (.bl true),[]):=ip k S x (e:=.ow .nu) hd
theorem u6(k:Nat)(S:Sc)(i:Int)(p:PV):run aD (k+1) "has_kind" [gW S,.int i,p] []=some (.ok (.bl false),[]):=by kernel_rfl
theorem cx(k:Nat){S:Sc}{s:Sp}{d:Kn}{i:Sx}(h:ee S s d i):run aD (k+10) "spot_shape" [gW S,eG s] []=some (.ok (d8 i),[]):=by
 rw[pZ];obtain⟨hd,_,⟨f,hp⟩,_⟩:=h;have h:=λk=>G1 k _ _ hp
 simp only at h;simp only[↓aX,Pj hd,ki,h]
theorem KC(k:Nat){S:Sc}{i:Sx}{a:At}(h:KA S i a):run aD (k+2) "is_at" [gW S,d8 i,Kz a] []=some (.ok (.bl true),[]):=by
 cases a with
 | aV=>kernel_rfl
 | num j =>
  obtain⟨n,rfl,h1,h2⟩:=h;rw[sx];simp only[↓aX,u6,km,bf h1,bf h2]
 | Kx y =>
  obtain⟨n,rfl,h1⟩:=h;have e:=λk=>Dn k S y h1
  show run aD (k+2) "is_at" [gW S,d8 (.st n),.str y] []=_;rw[sx];simp only[↓aX,e]
theorem sG(k:Nat){S:Sc}{s:Sp}{d:Kn}{i:Sx}(h:ee S s d i):run aD (k+11) "is_spot" [gW S,eG s] []=some (.ok (.bl true),[]):=by
 have e1:=λk=>cx k h
 obtain⟨hk,ht,⟨f,hp⟩,ha⟩:=h;have e2:=λk=>KC k ha
 have e3:=λk=>Dl k _ _ hp
 simp only at e3;rw[wY];have e4:xP [] (.bl s.t) (.bl (eU d))=some (.bl false):=by rw[ht];cases d<;>kernel_rfl
 simp only[↓aX,Pj hk,XB hk,cw,ki,e1,e2,e3,e4]
noncomputable def lu:Sp->Sx->Bool
 | ⟨_,_,_,.aV⟩,.nu=>true
 | ⟨_,_,_,.aV⟩,.ow=>true
 | ⟨_,_,_,.aV⟩,_=>false
 | _,_=>true
theorem gQ(k:Nat){S:Sc}{s:Sp}{d:Kn}{i:Sx}(h:ee S s d i):run aD (k+12) "is_number_spot" [gW S,eG s] []=some (.ok (.bl (lu s i)),[]):=by
 have e1:=λk=>cx k h
 have e2:=λk=>sG k h
 rw[kc];obtain⟨x,t,p,a⟩:=s;cases a
 case aV=>cases i<;>simp only[↓aX,e1,e2,lu]
 all_goals simp only[↓aX,e1,e2,lu]
theorem d6(k:Nat){S:Sc}{s:Sp}{d:Kn}{i:Sx}(h:ee S s d i)(hn:s.a=.aV):run aD (k+12) "is_part_spot" [gW S,eG s] []=some (.ok (.bl true),[]):=by
 have e2:=λk=>sG k h
 rw[mr];obtain⟨x,t,p,a⟩:=s;cases hn;simp only[↓aX,e2]
theorem iA(k:Nat){S:Sc}{s:Sp}{d:Kn}{i:Sx}(h:ee S s d i)(hn:s.a=.aV)(hh:eU d=false):run aD (k+13) "is_owned_part" [gW S,eG s] []=some (.ok (.bl true),[]):=by
 have e2:=λk=>d6 k h hn
 rw[lj];simp only[↓aX,e2,h.t,hh,Bool.not_false]
theorem LX(k:Nat){S:Sc}{s:Sp}{d:Kn}{i:Sx}(h:ee S s d i):run aD (k+1) "may_be_written" [gW S,eG s] []=some (.ok (.bl (iz d)),[]):=by
 have:=mw k S s.x (xT s.p) (Kz s.a) h.k;rw[<-h.t]at this;exact this
theorem da(k:Nat){S:Sc}{s:Sp}{d:Kn}{i:Sx}(h:ee S s d i)(hn:s.a=.aV)(hh:iz d=true):run aD (k+13) "is_written_part" [gW S,eG s] []=some (.ok (.bl true),[]):=by
 have e2:=λk=>d6 k h hn
 have e3:=λk=>LX k h
 rw[jA];simp only[↓aX,e2,e3,hh]
theorem mL(k:Nat){S:Sc}{s:Sp}{d:Kn}{i:Sx}(h:ee S s d i)(hn:lu s i=true)(hh:iz d=true):run aD (k+13) "is_target" [gW S,eG s] []=some (.ok (.bl true),[]):=by
 have e2:=λk=>gQ k h
 have e3:=λk=>LX k h
 rw[qN];simp only[↓aX,e2,e3,hh,hn]
inductive Op where
 | n (i:Int) | s (s:Sp)
def nN:Op->PV
 | .n i=>.int i
 | .s s=>eG s
def mx(S:Sc):Op->Prop
 | .n i=>0<=i/\i<10^30
 | .s s=>∃d i,ee S s d i/\lu s i=true
theorem cU(k:Nat){S:Sc}{o:Op}(h:mx S o):run aD (k+13) "is_operand" [gW S,nN o] []=some (.ok (.bl true),[]):=by
 rw[p0];cases o with
 | n i =>
  obtain⟨h1,h2⟩:=h;have h3:E6 [] (.int 10) (.int 30)=some (.int (10^30)):=by kernel_rfl
  simp only[↓aX,nN,km,h3,bf h1,bf h2]
 | s s =>
  obtain⟨d,i,h,hn⟩:=h;have e2:=λk=>gQ k h
  have e3:∀k,run aD (k+1) "is_whole" [eG s] []=some (.ok (.bl false),[]):=λk=>u5 k _
  simp only[↓aX,nN,e2,e3,hn]
inductive Rw where
 | put (s:Sp) (o:Op)
 | set (s:Sp) (g:Str) (a b:Op)
 | fill (s:Sp) (o:Op)
 | my (t s:Sp)
 | nC (t s:Sp)
 | drop (s:Sp)
 | fV (w:Bool) (x:Str) (s:Sp)
 | call (x f:Str) (as:List Str)
 | Bx (a b:Op) (to:Int)
 | go (to:Int)
 | Dp (o:Op)
 | fG (x:Str)
noncomputable def qY(w:Bool):Str:=if w then "sole" else "lend"
def bM:Rw->PV
 | .put s o=>.aj [.str "put",eG s,nN o]
 | .set s g a b=>.aj [.str "set",eG s,.str g,nN a,nN b]
 | .fill s o=>.aj [.str "fill",eG s,nN o]
 | .my t s=>.aj [.str "copy",eG t,eG s]
 | .nC t s=>.aj [.str "move",eG t,eG s]
 | .drop s=>.aj [.str "drop",eG s]
 | .fV w x s=>.aj [.str (qY w),.str x,eG s]
 | .call x f as=>.aj [.str "call",.str x,.str f,.aj (as.map .str)]
 | .Bx a b to=>.aj [.str "if",nN a,nN b,.int to]
 | .go to=>.aj [.str "go",.int to]
 | .Dp o=>.aj [.str "say",nN o]
 | .fG x=>.aj [.str "give",.str x]
def qb(S:Sc)(x:Str):sE->Prop
 | .aV=>x=""
 | .own s=>aK S.K x=some (.ow s)
 | .m9 w s _=>aK S.K x=some (.ho w s)
noncomputable def xU:Sx->Bool
 | .ow=>false
 | .no=>false
 | .dp _=>false
 | .di=>false
 | _=>true
def TX(S:Sc)(to:Int):Prop:=0<=to/\to<(S.size:Int)
def cF(S:Sc):Rw->Prop
 | .put s o=>(∃d i,ee S s d i/\lu s i=true/\iz d=true)/\mx S o
 | .set s g a b=>(∃d i,ee S s d i/\lu s i=true/\iz d=true)/\(g="+"\/g="-"\/g="*")/\mx S a/\mx S b
 | .fill s o=>(∃d n,ee S s d (.st n)/\s.a=.aV/\iz d=true)/\mx S o
 | .my t s=>∃d e i,ee S t d i/\t.a=.aV/\iz d=true/\ee S s e i/\s.a=.aV/\xU i=true
 | .nC t s=>∃d e i,ee S t d i/\t.a=.aV/\iz d=true/\ee S s e i/\s.a=.aV/\eU e=false
 | .drop s=>∃d i,ee S s d i/\s.a=.aV/\eU d=false
 | .fV w x s=>∃d i,ee S s d i/\s.a=.aV/\(w=true->iz d=true)/\aK S.K x=some (.ho w i)
 | .call x f as=>∃(ps:List Ky) (res:sE) (q l r:PV),gw [.inr f] S.hk=true/\dj [.inr f] S.hk S.hv=some (.aj [q,.aj (ps.map cX),ik res,l,r])/\as.length=ps.length/\ps.length<=1000/\(∀z∈as.zip ps,aK S.K z.1=some z.2.2)/\qb S x res
 | .Bx a b to=>mx S a/\mx S b/\TX S to
 | .go to=>TX S to
 | .Dp o=>mx S o
 | .fG x=>qb S x S.res
theorem G3(k:Nat){S:Sc}{s:Sp}{o:Op}(h:cF S (.put s o)):run aD (k+14) "is_put" [gW S,bM (.put s o)] []=some (.ok (.bl true),[]):=by
 obtain⟨⟨d,i,h1,h2,h3⟩,h4⟩:=h;have e1:=λk=>mL k h1 h2 h3
 have e2:=λk=>cU k h4
 rw[zO];simp only[↓aX,e1,e2]
theorem G4(k:Nat){S:Sc}{s:Sp}{g:Str}{a b:Op}(h:cF S (.set s g a b)):run aD (k+14) "is_set" [gW S,bM (.set s g a b)] []=some (.ok (.bl true),[]):=by
 obtain⟨⟨d,i,h1,h2,h3⟩,h4,h5,h6⟩:=h;have e1:=λk=>mL k h1 h2 h3
 have e2:=λk=>cU k h5
 have e3:=λk=>cU k h6
 rw[zP];rcases h4 with rfl | rfl | rfl<;>simp only[↓aX,e1,e2,e3]
theorem Dq(k:Nat){S:Sc}{s:Sp}{o:Op}(h:cF S (.fill s o)):run aD (k+14) "is_fill" [gW S,bM (.fill s o)] []=some (.ok (.bl true),[]):=by
 obtain⟨⟨d,n,h1,h2,h3⟩,h4⟩:=h;have e1:=λk=>da k h1 h2 h3
 have e2:=λk=>cU k h4
 have e3:=λk=>cx k h1
 rw[wZ];simp only[↓aX,e1,e2,e3]
theorem mM(k:Nat){S:Sc}{t s:Sp}{d e:Kn}{i:Sx}(h1:ee S t d i)(h2:ee S s e i):run aD (k+11) "are_alike" [gW S,eG t,eG s] []=some (.ok (.bl true),[]):=by
 have e1:=λk=>cx k h1
 have e2:=λk=>cx k h2
 rw[qO];simp only[↓aX,e1,e2,Pn,decide_true]
theorem je(k:Nat)(i:Sx):run aD (k+9) "is_copied" [d8 i] []=some (.ok (.bl (xU i)),[]):=by cases i<;>kernel_rfl
theorem Dr(k:Nat){S:Sc}{t s:Sp}(h:cF S (.my t s)):run aD (k+14) "is_copy" [gW S,bM (.my t s)] []=some (.ok (.bl true),[]):=by
 obtain⟨d,e,i,h1,h2,h3,h4,h5,h6⟩:=h;have e1:=λk=>da k h1 h2 h3
 have e2:=λk=>d6 k h4 h5
 have e3:=λk=>mM k h1 h4
 have e4:=λk=>cx k h4
 rw[w5];simp only[↓aX,e1,e2,e3,e4,je,h6]
theorem Ds(k:Nat){S:Sc}{t s:Sp}(h:cF S (.nC t s)):run aD (k+14) "is_move" [gW S,bM (.nC t s)] []=some (.ok (.bl true),[]):=by
 obtain⟨d,e,i,h1,h2,h3,h4,h5,h6⟩:=h;have e1:=λk=>da k h1 h2 h3
 have e2:=λk=>iA k h4 h5 h6
 have e3:=λk=>mM k h1 h4
 rw[w6];simp only[↓aX,e1,e2,e3]
theorem Dt(k:Nat){S:Sc}{s:Sp}(h:cF S (.drop s)):run aD (k+14) "is_drop" [gW S,bM (.drop s)] []=some (.ok (.bl true),[]):=by
 obtain⟨d,i,h1,h2,h3⟩:=h;have e1:=λk=>iA k h1 h2 h3
 rw[w9];simp only[↓aX,e1]
theorem qc(k:Nat){S:Sc}{x:Str}{w:Bool}{s:Sx}(hd:aK S.K x=some (.ho w s)):run aD (k+1) "has_kind" [gW S,.str x,.aj [.str (sy w),d8 s]] []=some (.ok (.bl true),[]):=by
 have:=ip k S x (e:=.ho w s) hd;rw[bf rfl]at this;exact this
theorem sH(k:Nat){S:Sc}{x:Str}{s:Sp}(h:cF S (.fV false x s)):run aD (k+14) "is_lend" [gW S,bM (.fV false x s)] []=some (.ok (.bl true),[]):=by
 obtain⟨d,i,h1,h2,h3,h4⟩:=h;have e1:=λk=>d6 k h1 h2
 have e2:=λk=>cx k h1
 have e3:=λk=>qc k h4
 rw[show sy false="lent" from rfl]at e3
 rw[xa];simp only[↓aX,e1,e2,e3]
theorem sJ(k:Nat){S:Sc}{x:Str}{s:Sp}(h:cF S (.fV true x s)):run aD (k+14) "is_sole" [gW S,bM (.fV true x s)] []=some (.ok (.bl true),[]):=by
 obtain⟨d,i,h1,h2,h3,h4⟩:=h;have e1:=λk=>da k h1 h2 (h3 rfl)
 have e2:=λk=>cx k h1
 have e3:=λk=>qc k h4
 rw[show sy true="sole" from rfl]at e3
 rw[xb];simp only[↓aX,e1,e2,e3]
noncomputable def Po:sE->Bool
 | .m9 _ _ _=>true
 | _=>false
theorem qZ(k:Nat)(r:sE)(h:r≠.aV):run aD (k+1) "is_holder" [ik r] []=some (.ok (.bl (Po r)),[]):=by
 cases r with
 | aV=>exact absurd rfl h
 | own s=>cases s<;>kernel_rfl
 | m9 w s l=>cases w<;>kernel_rfl
theorem lx(k:Nat){S:Sc}{x:Str}{r:sE}(h:qb S x r):run aD (k+2) "takes_back" [gW S,.str x,ik r] []=some (.ok (.bl true),[]):=by
 have e1:=λk=>qZ k r
 rw[p6];cases r with
 | aV =>
  subst h;simp only[↓aX]
 | own s =>
  have e2:∀k,run aD (k+1) "has_kind" [gW S,.str x,ik (.own s)] []=some (.ok (.bl true),[]):=λk=>by
   have:=ip k S x (e:=.ow s) h;rw[bf rfl]at this;exact this
  have e1:=λk=>e1 k (by simp)
  simp only[↓aX,e1,Po,e2,show jD (ik (.own s))=false by cases s<;>rfl]
 | m9 w s l =>
  have e2:=λk=>qc k h
  have e1:=λk=>e1 k (by simp)
  simp only[↓aX,e1,Po,e2]
theorem Du(k:Nat){S:Sc}{x:Str}(h:cF S (.fG x)):run aD (k+14) "is_give" [gW S,bM (.fG x)] []=some (.ok (.bl true),[]):=by
 have e1:=λk=>lx k h
 rw[xg];simp only[↓aX,e1]
theorem sL(k:Nat){S:Sc}{to:Int}(h:TX S to):run aD (k+2) "is_jump" [gW S,.int to] []=some (.ok (.bl true),[]):=by
 rw[xf];simp only[↓aX,km,bf h.1,bf h.2]
theorem KD(k:Nat){S:Sc}{a b:Op}{to:Int}(h:cF S (.Bx a b to)):run aD (k+14) "is_if" [gW S,bM (.Bx a b to)] []=some (.ok (.bl true),[]):=by
 obtain⟨h1,h2,h3⟩:=h;have e1:=λk=>cU k h1
 have e2:=λk=>cU k h2
 have e3:=λk=>sL k h3
 rw[C9];simp only[↓aX,e1,e2,e3]
theorem KH(k:Nat){S:Sc}{to:Int}(h:cF S (.go to)):run aD (k+14) "is_go" [gW S,bM (.go to)] []=some (.ok (.bl true),[]):=by
 have e3:=λk=>sL k h
 rw[Dc];simp only[↓aX,e3]
theorem G5(k:Nat){S:Sc}{o:Op}(h:cF S (.Dp o)):run aD (k+14) "is_say" [gW S,bM (.Dp o)] []=some (.ok (.bl true),[]):=by
 have e3:=λk=>cU k h
 rw[zQ];simp only[↓aX,e3]
theorem u7{α β:Type}(f:α->PV)(g:β->PV):∀(as:List α) (bs:List β),List.zipWith ef (as.map f) (bs.map g)=(as.zip bs).map λz=>.aj [f z.1,g z.2]
 | [],_=>by simp
 | _::_,[]=>by simp
 | a::as,b::bs=>by
  have:=u7 f g as bs;simp only[aA,List.zipWith_cons_cons,List.zip_cons_cons,this];rfl
theorem sM{α:Type}(g:α->Bool):∀L:List α,j6 (L.map λx=>.bl (g x))=some (L.map g)
 | []=>rfl
 | x::L=>by
  have:=sM g L;unfold j6 at this ⊢;simp_all [aQ,vR]
theorem all_map{α:Type}{g:α->Bool}{L:List α}{h:List ai}:wF h [.lst (L.map λx=>.bl (g x))]=some (.bl (L.all g)):=by
 show(j6 (L.map λx=>.bl (g x))).map _=_
 rw[sM];simp[List.all_map,fI]
theorem jf{α:Type}{L:List α}{h:List ai}:wF h [.lst (L.map λ_=>.bl true)]=some (.bl true):=by
 rw[all_map];simp
theorem XD{hk:List (List cL)}{hv:List PV}{f:Str}{v:PV}{h:List ai}(e:dj [.inr f] hk hv=some v):dX h (.nd (.eW false hk) hv) (.str f)=some v:=e
theorem XE{hk:List (List cL)}{hv:List PV}{f:Str}{h:List ai}(e:gw [.inr f] hk=true):qu true h (.str f) (.nd (.eW false hk) hv)=some (.bl false):=by
 show some (PV.bl (!gw [.inr f] hk))=_;rw[e];rfl
theorem dH(k:Nat)(ps:List PV)(a b:Int)(ha:a<=ps.length)(hb:(ps.length:Int)<=b):run aD (k+1) "is_tuple_from" [.aj ps,.int a,.int b] []=some (.ok (.bl true),[]):=by
 rw[lg];simp only[↓aX,bf ha,bf hb]
theorem dD(k:Nat)(ps:List PV)(a:Int)(ha:(ps.length:Int)=a):run aD (k+2) "is_tuple_of" [.aj ps,.int a] []=some (.ok (.bl true),[]):=by
 have e:=λk=>dH k ps a a (by lia) (by lia)
 rw[ny];simp only[↓aX,e]
theorem Dv(k:Nat){S:Sc}{x f:Str}{as:List Str}(h:cF S (.call x f as)):run aD (k+14) "is_call" [gW S,bM (.call x f as)] []=some (.ok (.bl true),[]):=by
 obtain⟨ps,res,q,l,r,h1,h2,h3,h4,h5,h6⟩:=h;have e1:=λk=>lx k h6
 have e2:=λk=>dD k (as.map .str) (ps.map cX).length (by rw[ah,ah,h3])
 have e3:∀k,∀z∈as.zip ps,run aD (k+1) "has_kind" [gW S,.str z.1,br z.2.2] []=some (.ok (.bl true),[]):=λk z hz=>by
  have:=ip k S z.1 (e:=z.2.2) (h5 z hz);rw[bf rfl]at this;exact this
 have e4:((as.zip ps).map λz=>PV.aj [PV.str z.1,cX z.2]).length<=4000000:=by
  rw[ah,oq]
  lia
 rw[xc];simp only[↓aX,XD h2,XE h1,e1,e2,e3,e4,u7,jf]
noncomputable def Zj:Rw->Str
 | .put _ _=>"is_put"
 | .set _ _ _ _=>"is_set"
 | .fill _ _=>"is_fill"
 | .my _ _=>"is_copy"
 | .nC _ _=>"is_move"
 | .drop _=>"is_drop"
 | .fV w _ _=>if w then "is_sole" else "is_lend"
 | .call _ _ _=>"is_call"
 | .Bx _ _ _=>"is_if"
 | .go _=>"is_go"
 | .Dp _=>"is_say"
 | .fG _=>"is_give"
theorem TY(k:Nat){S:Sc}{r:Rw}(h:cF S r):run aD (k+14) (Zj r) [gW S,bM r] []=some (.ok (.bl true),[]):=by
 cases r with
 | put s o=>exact G3 k h
 | set s g a b=>exact G4 k h
 | fill s o=>exact Dq k h
 | my t s=>exact Dr k h
 | nC t s=>exact Ds k h
 | drop s=>exact Dt k h
 | fV w x s=>cases w;exact sH k h;exact sJ k h
 | call x f as=>exact Dv k h
 | Bx a b to=>exact KD k h
 | go to=>exact KH k h
 | Dp o=>exact G5 k h
 | fG x=>exact Du k h
theorem G6(k:Nat){S:Sc}{r:Rw}(h:cF S r):run aD (k+15) "is_row" [gW S,bM r] []=some (.ok (.bl true),[]):=by
 have e:=λk=>TY k h
 rw[zN];cases r
 case fV w x s =>
  cases w
  ·have e:=λk=>sH k h
   simp only[↓aX,e]
  ·have e:=λk=>sJ k h
   simp only[↓aX,e]
 all_goals (simp only[Zj]at e;simp only[↓aX,e])
noncomputable def u9:Rw->Bool
 | .go _=>true
 | .fG _=>true
 | _=>false
theorem qd{α:Type}{xs:List α}{v:α}(h:xs.getLast?=some v):L2.mY xs (-1)=some v:=by
 have hp:0<xs.length:=by cases xs with | nil=>cases h | cons=>simp
 unfold L2.mY L2.HS;rw[if_neg (by lia),if_pos (by lia),oh,show((-1:Int)+xs.length).toNat=xs.length-1 by lia,<-List.getLast?_eq_getElem?]
 exact h
structure qe (x:Str):Prop where
 l:1<=x.length
 m:x.length<=8
 c:∀c∈x.cps.toList,97<=c/\c<=122
theorem len_str{h:List ai}{x:Str}(hx:x.length<=1000):gH h [.str x]=some (.int x.length):=by
 show(if x.length<=gV then _ else none)=_
 rw[if_pos (show x.length<=gV from aM hx (by decide))]
theorem KI{h:List ai}{x:Str}(hx:∀c∈x.cps.toList,c<=122):NY h (.str x)=some (.sq (x.cps.toList.map λc=>.str ⟨#[c]⟩)):=by
 show(if x.cps.all (· < 128)=true then some (zw.sq (FC x))else none)=_
 rw[if_pos]
 ·rfl
 ·rw[Array.all_eq_true'];intro c hc;have:=hx c (by simpa using hc)
  simp
  lia
theorem XF{h:List ai}{c:Nat}(hc:97<=c):wc h (.str "a") (.str ⟨#[c]⟩)=some (.bl true):=by
 show some (PV.bl (!(decide ([c]<[97]))))=_;rw[bz]
 ·rfl
 ·intro h;cases h with
  | rel h=>lia
  | cons h=>cases h
theorem XG{h:List ai}{c:Nat}(hc:c<=122):wc h (.str ⟨#[c]⟩) (.str "z")=some (.bl true):=by
 show some (PV.bl (!(decide ([122]<[c]))))=_;rw[bz]
 ·rfl
 ·intro h;cases h with
  | rel h=>lia
  | cons h=>cases h
theorem Dw(k:Nat){x:Str}(h:qe x):run aD (k+1) "is_name" [.str x] []=some (.ok (.bl true),[]):=by
 have h1:(1:Int)<=x.length:=by have:=h.l;lia
 have h2:(x.length:Int)<=8:=by have:=h.m;lia
 have e1:=λh'=>KI (h:=h') λc hc=>(h.c c hc).2
 have e2:∀h',∀c∈x.cps.toList,wc h' (.str "a") (.str ⟨#[c]⟩)=some (.bl true):=λh' c hc=>XF (h.c c hc).1
 have e3:∀h',∀c∈x.cps.toList,wc h' (.str ⟨#[c]⟩) (.str "z")=some (.bl true):=λh' c hc=>XG (h.c c hc).2
 have e4:=λh'=>len_str (h:=h') (aM h.m (by decide))
 have e5:(x.cps.toList.map λc=>PV.str ⟨#[c]⟩).length<=4000000:=by
  have:=h.m;rw[ah];show x.cps.toList.length<=_;have:x.cps.toList.length=x.length:=by simp[Str.length]
  lia
 rw[wV];simp only[↓aX,e1,e2,e3,e4,e5,bf h1,bf h2,jf]
theorem qf:∀(l m:List Str),(m++l).Nodup->l.foldl mq m=m++l
 | [],m,_=>by simp
 | x::l,m,h=>by
  have hx:m.any (· == x)=false:=by
   rw[yr];intro y hy;have:=yp.mp h;simp only[lW];exact λz=>this.2.2 y hy x (by simp) z
  rw[oy,show mq m x=m++[x] by unfold mq;rw[hx];rfl,qf l (m++[x]) (by simpa using h)]
  simp
theorem xt:∀l:List Str,aQ uG (l.map .str)=some l
 | []=>rfl
 | x::l=>by
  show(some x).bind (λy=>(aQ uG (l.map .str)).map λys=>y::ys)=_
  rw[xt l];rfl
theorem Aa{l:List Str}(h:l.Nodup)(hl:l.length<=1000):Gs (.lst (l.map .str))=some (.int l.length):=by
 show(if(l.map PV.str).length<=1000 then(aQ uG (l.map .str)).map λks=>PV.int ((C2 ks).length:Nat)else none)=_
 rw[if_pos (by rw[ah];exact hl),xt]
 show some (PV.int ((l.foldl mq []).length:Nat))=_;rw[qf l [] (by simpa using h)]
 rfl
theorem dm{h:List ai}{a b:Int}:qt h (.int a) (.int b)=some (.bl (a==b)):=rfl
theorem mN(k:Nat){l:List Str}(h:∀x∈l,qe x)(hd:l.Nodup)(hl:l.length<=100):run aD (k+2) "are_apart" [.lst (l.map .str)] []=some (.ok (.bl true),[]):=by
 have e1:∀k,∀x∈l,run aD (k+1) "is_name" [.str x] []=some (.ok (.bl true),[]):=λk x hx=>Dw k (h x hx)
 have e2:l.length<=4000000:=by lia
 rw[qK];simp only[↓aX,e1,e2,jf,Aa hd (by lia),ah,dm,iP]
theorem vc(k:Nat)(w:Bool)(p:PV):run aD (k+9) "is_shape" [.aj [.str (sy w),p]] []=some (.ok (.bl false),[]):=by cases w<;>kernel_rfl
theorem gR(k:Nat)(w:Bool)(s:Sx):run aD (k+10) "is_holder_kind" [.aj [.str (sy w),d8 s]] []=some (.ok (.bl true),[]):=by
 have e:=λk l=>dD k l 2
 rw[j9];cases w<;>simp only[↓aX,e,kj]
theorem Dx(k:Nat)(d:Kn):run aD (k+11) "is_kind" [br d] []=some (.ok (.bl true),[]):=by
 rw[wW];cases d with
 | ow s =>
  have e1:∀k,run aD (k+9) "is_shape" [br (.ow s)] []=some (.ok (.bl true),[]):=λk=>kj k s
  simp only[↓aX,e1]
 | ho w s =>
  have e1:∀k,run aD (k+9) "is_shape" [br (.ho w s)] []=some (.ok (.bl false),[]):=λk=>vc k w _
  have e2:∀k,run aD (k+10) "is_holder_kind" [br (.ho w s)] []=some (.ok (.bl true),[]):=λk=>gR k w _
  simp only[↓aX,e1,e2]
theorem mO(k:Nat)(l:List Ky)(n:Int)(hl:(l.length:Int)<=n)(hn:n<=100):run aD (k+12) "are_named" [.aj (l.map cX),.int n] []=some (.ok (.bl true),[]):=by
 have e1:=λk=>dH k (l.map cX) 0 n (by lia) (by rw[ah];exact hl)
 have e2:∀k (q:Ky),run aD (k+2) "is_tuple_of" [cX q,.int 2] []=some (.ok (.bl true),[]):=λk q=>dD k _ _ rfl
 have e3:(l.map cX).length<=4000000:=by rw[ah];lia
 rw[qL];simp only[↓aX,e1,e2,e3,Dx,jf]
theorem TZ{α:Type}{f:α->PV}{a b:List α}{h:List ai}(hl:a.length+b.length<=1000):jt h (.aj (a.map f)) (.aj (b.map f))=some (.aj ((a++b).map f)):=by
 show U.sizeOk _ _=_;unfold U.sizeOk;rw[if_pos (show _<=gV from(by rw[ah,ah];exact aM hl (by decide))),bQ]
theorem toT_strs{h:List ai}:∀{n:Nat} (l:List Str),aQ (toT h (n+1)) (l.map .str)=some (l.map .str)
 | _,[]=>rfl
 | n,x::l=>by
  show(some (Tr.str x)).bind (λy=>(aQ (toT h (n+1)) (l.map .str)).map λys=>y::ys)=_
  rw[toT_strs l];rfl
theorem mz:∀a b:List Str,f9 (a.map .str) (b.map .str)=decide (a=b)
 | [],[]=>rfl
 | [],_::_=>rfl
 | _::_,[]=>rfl
 | x::a,y::b=>by
  show((x==y)&&f9 (a.map .str) (b.map .str))=_;rw[mz a b,jQ];simp
theorem KJ{h:List ai}{a b:List Str}:qt h (.aj (a.map .str)) (.aj (b.map .str))=some (.bl (decide (a=b))):=by
 show(((aQ (toT h 999) (a.map .str)).bind (m6 .aj)).bind λx=>((aQ (toT h 999) (b.map .str)).bind (m6 .aj)).map λy=>eqT x y).map PV.bl=_
 rw[toT_strs,toT_strs];show some (PV.bl (f9 (a.map .str) (b.map .str)))=_;rw[mz]
theorem KL{h:List ai}{x:Str}{l:List Str}:qu false h (.str x) (.aj (l.map .str))=some (.bl (decide (x∈l))):=by
 show((aQ (toT h dP) (l.map .str)).map λys=>ys.any λy=>eqT y (.str x)).map (λb=>PV.bl b)=_
 rw[show dP=999+1 from rfl,toT_strs]
 show some (PV.bl ((l.map Tr.str).any λy=>eqT y (.str x)))=_
 congr 2
 rw[List.any_map,jQ,tH];simp only[Function.comp,eqT,lW,iO];exact⟨λ⟨y,h1,h2⟩=>h2▸h1,λh=>⟨x,h,rfl⟩⟩
def T1(ps:List Ky):List Str:=(ps.filter λq=>eU q.2).map (·.1)
def G7(ps:List Ky)(l:List Str):Prop:=l=(T1 ps).filter λx=>decide (x∈l)
theorem q0(k:Nat){ps:List Ky}{l:List Str}(h:G7 ps l)(hp:ps.length<=1000):run aD (k+2) "are_sources" [.aj (l.map .str),.aj (ps.map cX)] []=some (.ok (.bl true),[]):=by
 have e1:(ps.map cX).length<=4000000:=by rw[ah];lia
 have e2:((ps.filter λq=>eU q.2).map λq=>PV.str q.1).length<=4000000:=by
  have:=List.length_filter_le (λq:Ky=>eU q.2) ps
  rw[ah]
  lia
 have e3:List.map (λx=>PV.str x.fst) (List.filter (λx=>decide (x.fst∈l)) (List.filter (λx=>eU x.snd) ps))=l.map PV.str:=by
  conv=>rhs;rw[h]
  unfold T1;rw[List.filter_map,cC];rfl
 rw[nz];simp only[↓aX,e1,e2,e3,cw,KL,KJ,decide_true]
structure Fd where
 nm:Str
 ps:List Ky
 res:sE
 ls:List Ky
 rw:List Rw
def fdP(F:Fd):PV:=.aj [.str F.nm,.aj (F.ps.map cX),ik F.res,.aj (F.ls.map cX),.aj (F.rw.map bM)]
def xu(ps:List Ky):sE->Prop
 | .m9 _ _ l=>G7 ps l
 | _=>True
theorem xw(k:Nat){ps:List Ky}{r:sE}(h:xu ps r)(hp:ps.length<=1000):run aD (k+11) "is_result" [ik r,.aj (ps.map cX)] []=some (.ok (.bl true),[]):=by
 rw[qM];cases r with
 | aV=>simp only[↓aX]
 | own s =>
  have e1:∀k,run aD (k+9) "is_shape" [ik (.own s)] []=some (.ok (.bl true),[]):=λk=>kj k s
  simp only[↓aX,e1,show jD (ik (.own s))=false by cases s<;>rfl]
 | m9 w s l =>
  have e1:∀k,run aD (k+9) "is_shape" [ik (.m9 w s l)] []=some (.ok (.bl false),[]):=λk=>by cases w<;>kernel_rfl
  have e2:∀k,run aD (k+2) "is_tuple_of" [ik (.m9 w s l),.int 3] []=some (.ok (.bl true),[]):=λk=>dD k _ _ rfl
  have e3:=λk=>q0 k h hp
  simp only[↓aX,e1,e2,e3,gR]
structure Ab (F:Fd):Prop where
 p:F.ps.length<=4
 l:F.ls.length<=8
 n:∀q∈F.ps++F.ls,qe q.1
 d:((F.ps++F.ls).map (·.1)).Nodup
 r:xu F.ps F.res
 w:1<=F.rw.length
 x:F.rw.length<=32
theorem Dy(k:Nat){F:Fd}(h:Ab F):run aD (k+13) "is_head" [fdP F] []=some (.ok (.bl true),[]):=by
 have e1:∀k,run aD (k+2) "is_tuple_of" [fdP F,.int 5] []=some (.ok (.bl true),[]):=λk=>dD k _ _ rfl
 have e2:=λk=>mO k F.ps 4 (by have:=h.p;lia) (by decide)
 have e3:=λk=>mO k F.ls 8 (by have:=h.l;lia) (by decide)
 have e4:((F.ps++F.ls).map cX).length<=4000000:=by
  have:=h.p;have:=h.l;rw[ah,cz]
  lia
 have e5:=λk=>mN k (l:=(F.ps++F.ls).map (·.1)) (λx hx=>by obtain⟨q,h1,rfl⟩:=cJ.mp hx;exact h.n q h1) h.d (by have:=h.p;have:=h.l;rw[ah,cz];lia)
 rw[cC]at e5;simp only[fI]at e5;have e6:=λk=>xw k h.r (by have:=h.p;lia)
 have e7:=λk=>dH k (F.rw.map bM) 1 32 (by have:=h.w;rw[ah];lia) (by have:=h.x;rw[ah];lia)
 have e8:=λh'=>TZ (f:=cX) (a:=F.ps) (b:=F.ls) (h:=h') (by have:=h.p;have:=h.l;lia)
 rw[wX];simp only[↓aX,e1,e2,e3,e4,e5,e6,e7,e8]
theorem vd(k:Nat){F:Fd}(h:F.res=.aV)(hp:∀q∈F.ps,q.2=.ow .nu)(hl:F.ps.length<=4):run aD (k+1) "may_be_run" [fdP F] []=some (.ok (.bl true),[]):=by
 have e1:(F.ps.map cX).length<=4000000:=by rw[ah];lia
 have e2:∀h',∀q∈F.ps,qt h' (br q.2) pN=some (.bl true):=λh' q hq=>by rw[hp q hq];exact(qX (a:=.ow .nu) (b:=.ow .nu)).trans (by rw[bf rfl])
 rw[pY];simp only[↓aX,h,e1,e2,jf]
theorem G8{α:Type}(key:α->Str)(val:α->PV):∀(L M:List α),((M++L).map key).Nodup->pB (L.map λx=>((.inr (key x):cL),val x)) ⟨.eW false (M.map λx=>[.inr (key x)]),M.map val⟩=⟨.eW false ((M++L).map λx=>[.inr (key x)]),(M++L).map val⟩
 | [],M,_=>by simp[pB]
 | x::L,M,h=>by
  have hx:gw [.inr (key x)] (M.map λx=>[(.inr (key x):cL)])=false:=by
   unfold gw;rw[yr];intro y hy;obtain⟨z,hz,rfl⟩:=cJ.mp hy;rw[bQ]at h;have:=(yp.mp h).2.2 (key z) (n4 hz) (key x) (by simp)
   simpa using this
  show pB (L.map _) (uz false [.inr (key x)] (val x) (M.map λx=>[.inr (key x)]) (M.map val))=_
  unfold uz;rw[hx,if_neg dJ];have:=G8 key val L (M++[x]) (by simpa using h)
  simpa using this
theorem sN{α:Type}(key:α->Str)(val:α->PV):∀L:List α,aQ wB (L.map λx=>.aj [.str (key x),val x])=some (L.map λx=>((.inr (key x):cL),val x))
 | []=>rfl
 | x::L=>by
  show(some ((.inr (key x):cL),val x)).bind (λy=>(aQ wB (L.map λx=>.aj [.str (key x),val x])).map λys=>y::ys)=_
  rw[sN key val L];rfl
theorem By{α:Type}(key:α->Str)(val:α->PV){L:List α}(h:(L.map key).Nodup)(hl:L.length<=1000):wC (L.map λx=>.aj [.str (key x),val x])=some ⟨.eW false (L.map λx=>[.inr (key x)]),L.map val⟩:=by
 unfold wC;rw[if_pos (by rw[ah];exact hl),sN]
 have:=G8 key val L [] (by simpa using h)
 exact eu some this
def Pp(P:List Fd)(F:Fd):Sc:=⟨F.ps++F.ls,F.res,F.rw.length,P.map λG=>[.inr G.nm],P.map fdP⟩
theorem KN(c:CT){P:List Fd}{F:Fd}(h:Ab F)(ho:F.ls=[]->F.ps=[])(hd:(P.map (·.nm)).Nodup)(hl:P.length<=6):HX aD c "Scene" [.ref 0,.aj (P.map fdP),fdP F] [⟨.ins "Scene" [],[]⟩]=some (.ok .aV,[⟨.ins "Scene" ["kinds","result","size","heads"],[.ref 1,ik F.res,.int F.rw.length,.ref 2]⟩,⟨.eW false (zX (F.ps++F.ls)),Dk (F.ps++F.ls)⟩,⟨.eW false (P.map λG=>[.inr G.nm]),P.map fdP⟩]):=by
 rw[GW];unfold Bv;have e1:∀st,SO (.aj (F.ps.map cX)) (.aj (F.ls.map cX)) st=some (.ok (.ref st.h.length),⟨st.ρ,st.h++[⟨.eW false (zX (F.ps++F.ls)),Dk (F.ps++F.ls)⟩]⟩):=λst=>by
  show(if(!(F.ps.map cX).isEmpty&&(F.ls.map cX).isEmpty)=true then none else(wC (F.ps.map cX++F.ls.map cX)).bind λc=>ia c st)=_
  have:=ho;rw[if_neg (by simp;exact λa b=>a (this b)),<-bQ,show wC ((F.ps++F.ls).map cX)=_ from By (λq:Ky=>q.1) (λq=>br q.2) h.d (by have:=h.p;have:=h.l;rw[cz];lia)]
  rfl
 have e2:wC (P.map λG=>.aj [.str G.nm,fdP G])=_:=By (λG:Fd=>G.nm) fdP hd (by lia)
 have e3:P.length<=4000000:=by lia
 simp only[↓aX,e1,e2,e3,oh,ah]
theorem xx(s:Sx):noRef (d8 s)=true:=by cases s<;>rfl
theorem eI(d:Kn):noRef (br d)=true:=by
 cases d with
 | ow s=>exact xx s
 | ho w s=>simp[br,noRef,aE,xx]
theorem cK{α:Type}{f:α->PV}(h:∀x,noRef (f x)=true):∀l:List α,aE (l.map f)=true
 | []=>rfl
 | x::l=>by rw[aA,aE,cK h l,h];rfl
theorem ve(l:List Str):aE (l.map .str)=true:=cK (λ_=>rfl) l
theorem Bz(l:List Nat):aE (l.map fun(i:Nat)=>.int (i:Int))=true:=cK (λ_=>rfl) l
theorem G9(q:Ky):noRef (cX q)=true:=by simp[cX,noRef,aE,eI]
theorem sO(r:sE):noRef (ik r)=true:=by
 cases r with
 | aV=>rfl
 | own s=>exact xx s
 | m9 w s l=>simp[ik,noRef,aE,xx,ve]
theorem BA(s:Sp):noRef (eG s)=true:=by
 obtain⟨x,t,p,a⟩:=s;cases a<;>simp[eG,xT,Kz,noRef,aE,Bz]
theorem T2:∀o,noRef (nN o)=true
 | .n _=>rfl
 | .s s=>BA s
theorem xy(r:Rw):noRef (bM r)=true:=by
 cases r<;>simp[bM,noRef,aE,BA,T2,ve]
theorem sP(F:Fd):noRef (fdP F)=true:=by simp[fdP,noRef,aE,cK,G9,sO,xy]
theorem nO{h:List ai}{n:Nat}:∀{l:List PV},aE l=true->aQ (lC h n) l=some l
 | [],_=>rfl
 | p::l,hn=>by
  simp only[aE,aC]at hn;show(lC h n p).bind (λy=>(aQ (lC h n) l).map λys=>y::ys)=_
  rw[nO hn.2,show lC h n p=some p by cases n<;>(unfold lC;rw[if_pos hn.1])]
  rfl
theorem Dz{P:List Fd}{F:Fd}:lC [⟨.ins "Scene" ["kinds","result","size","heads"],[.ref 1,ik F.res,.int F.rw.length,.ref 2]⟩,⟨.eW false (zX (F.ps++F.ls)),Dk (F.ps++F.ls)⟩,⟨.eW false (P.map λG=>[.inr G.nm]),P.map fdP⟩] 4 (.ref 0)=some (gW (Pp P F)):=by
 have d1:∀n,lC [⟨.ins "Scene" ["kinds","result","size","heads"],[.ref 1,ik F.res,.int F.rw.length,.ref 2]⟩,⟨.eW false (zX (F.ps++F.ls)),Dk (F.ps++F.ls)⟩,⟨.eW false (P.map λG=>[.inr G.nm]),P.map fdP⟩] (n+1) (.ref 1)=some (TQ (F.ps++F.ls)):=λn=>by
  show(aQ (lC _ n) (Dk (F.ps++F.ls))).map _=_;rw[nO (l:=Dk (F.ps++F.ls)) (cK (λq:Ky=>eI q.2) _)]
  rfl
 have d2:∀n,lC [⟨.ins "Scene" ["kinds","result","size","heads"],[.ref 1,ik F.res,.int F.rw.length,.ref 2]⟩,⟨.eW false (zX (F.ps++F.ls)),Dk (F.ps++F.ls)⟩,⟨.eW false (P.map λG=>[.inr G.nm]),P.map fdP⟩] (n+1) (.ref 2)=some (.nd (.eW false (P.map λG=>[.inr G.nm])) (P.map fdP)):=λn=>by
  show(aQ (lC _ n) (P.map fdP)).map _=_;rw[nO (cK sP _)];rfl
 generalize hh:[(⟨.ins "Scene" ["kinds","result","size","heads"],[.ref 1,ik F.res,.int F.rw.length,.ref 2]⟩:ai),⟨.eW false (zX (F.ps++F.ls)),Dk (F.ps++F.ls)⟩,⟨.eW false (P.map λG=>[.inr G.nm]),P.map fdP⟩]=H at d1 d2 ⊢
 have d3:lC H 4 (.ref 0)=(aQ (lC H 3) [.ref 1,ik F.res,.int F.rw.length,.ref 2]).map (.nd (.ins "Scene" ["kinds","result","size","heads"])):=by subst hh;rfl
 have d4:lC H 3 (ik F.res)=some (ik F.res):=by unfold lC;rw[if_pos (sO _)]
 rw[d3];simp only[aQ,d1,d2,d4];rfl
theorem kn{h:List ai}{i j:Int}(hj:0<j):Cj h (.int i) (.int j)=some (.int (i%j)):=if_pos (bf hj)
theorem XH{h:List ai}{i j:Int}(hj:0<j/\j<1073741824):AU h (.int i) (.int j)=some (.int (i/j)):=if_pos (bf hj)
theorem HY{h:List ai}{i j:Int}(hj:(-qB<i/\i<qB)\/(-qB<j/\j<qB)):jy h (.int i) (.int j)=some (.int (i*j)):=if_pos hj
theorem xA{n:Nat}(hn:n<=4000000):Cz [.int n]=some ((List.range n).map λm:Nat=>.int (m:Int)):=by
 show(if JS 0 n=true then some (Cy 0 ((n:Int)).toNat)else none)=_
 rw[if_pos (by unfold JS;exact bf (by lia))]
 unfold Cy;simp
theorem dE{ps:List PV}(h:aE ps=true):bH [⟨.lst,ps⟩] (.ref 0)=some (.lst ps):=by
 show(aQ (lC _ 3) ps).map _=_;rw[nO h];rfl
theorem q8{ρ:List (Option PV)}{F:List PV}{v:PV}(h:F.length<=4000):o6 (iB zk) (.ref 0) [v] ⟨ρ,[⟨.lst,F⟩]⟩=some (.ok .aV,⟨ρ,[⟨.lst,F++[v]⟩]⟩):=by
 have:zk F [v]=some (F++[v]):=if_pos (show F.length<gV from n5 h (by decide))
 show(((zk F [v]).map λqs=>((⟨.lst,qs⟩:ai),PV.aV)).map λr=>_)=_
 rw[this];rfl
noncomputable def cp(n:Int):Nat:=97+(n%26).toNat
def lt(n:Int):Str:=⟨#[cp n]⟩
noncomputable def strOf(l:List Nat):Str:=⟨l.toArray⟩
theorem DA{a b:List Nat}(h:strOf a=strOf b):a=b:=by
 have:a.toArray=b.toArray:=eu Str.cps h;simpa using this
theorem Ad(a b:List Nat):strOf a++strOf b=strOf (a++b):=by
 show Str.append _ _=_;unfold Str.append strOf;simp
theorem KO:(Str.ofString "")=strOf []:=by decide +kernel
theorem nP(l:List Nat):(strOf l).length=l.length:=by
 unfold strOf Str.length;simp
theorem Ae:∀m:Fin 26,L2.mY (Str.ofString "abcdefghijklmnopqrstuvwxyz").cps.toList ((m:Nat):Int)=some (97+(m:Nat)):=by decide +kernel
theorem sQ{h:List ai}{n:Int}:dX h (.str "abcdefghijklmnopqrstuvwxyz") (.int (n%26))=some (.str (lt n)):=by
 have h0:=gr n (show(26:Int)≠0 by decide)
 have h1:=iL n (show(0:Int)<26 by decide)
 obtain⟨m,hm⟩:=Int.eq_ofNat_of_zero_le h0;have:=Ae ⟨m,by lia⟩
 show(if(Str.ofString "abcdefghijklmnopqrstuvwxyz").length<=gV then(L2.mY (Str.ofString "abcdefghijklmnopqrstuvwxyz").cps.toList (n%26)).map λc=>PV.str ⟨#[c]⟩else none)=_
 rw[if_pos (by decide +kernel),hm,this]
 show some (PV.str ⟨#[97+m]⟩)=some (PV.str ⟨#[cp n]⟩);unfold cp;rw[hm,lJ]
theorem Pq{a b:Int}(h:cp a=cp b):a%26=b%26:=by
 unfold cp at h;have h0:=gr a (show(26:Int)≠0 by decide)
 have h1:=gr b (show(26:Int)≠0 by decide)
 lia
theorem LY(n:Int):97<=cp n/\cp n<=122:=by
 unfold cp;have h0:=gr n (show(26:Int)≠0 by decide)
 have h1:=iL n (show(0:Int)<26 by decide)
 lia
theorem Ha{l:List Nat}{n:Int}{h:List ai}(hl:l.length<=100):jt h (.str (strOf l)) (.str (lt n))=some (.str (strOf (l++[cp n]))):=by
 have e:jt h (.str (strOf l)) (.str (lt n))=U.sizeOk ((strOf l).length+(lt n).length) (.str (strOf l++lt n)):=rfl;rw[e,show lt n=strOf [cp n]from rfl,Ad,nP,nP]
 exact if_pos (show l.length+1<=gV by have:gV=4000000:=rfl;lia)
noncomputable abbrev Pr:PV:=.str "abcdefghijklmnopqrstuvwxyz"
def Pt(B:List Int)(a q i:Nat):Nat:=cp (B.getD i 0+(q:Int)*(if i=a then 1 else 0))
theorem mP(c:CT){x0 x1 x6:Option PV}{h0:List ai}(B:List Int)(a q:Nat)(hB:B.length<=50):∀(U0 pre:List Nat) (x8:Option PV),List.range B.length=pre++U0->∃DB,dO (cg 8) (p7 c) (U0.map λn:Nat=>.int (n:Int)) ⟨[x0,x1,some Pr,some (.int q),some (.lst (B.map .int)),some (.int a),x6,some (.str (strOf (pre.map (Pt B a q)))),x8],h0⟩=some (.ok .nx,⟨[x0,x1,some Pr,some (.int q),some (.lst (B.map .int)),some (.int a),x6,some (.str (strOf ((List.range B.length).map (Pt B a q)))),DB],h0⟩)
 | [],pre,x8,e=>⟨x8,by rw[e,fq];rfl⟩
 | i::U0,pre,x8,e=>by
  have hi:i<B.length:=cH.mp (by rw[e];simp)
  have hp:pre.length<=B.length:=by
   have:=eu List.length e;rw[eZ,cz]at this
   lia
  obtain⟨DB,h⟩:=mP c (x0:=x0) (x1:=x1) (x6:=x6) (h0:=h0) B a q hB U0 (pre++[i]) (some (.int i)) (by rw[e];simp)
  simp only[bQ,aA,bI,Pt]at h;refine⟨DB,?_⟩;have hb:∀h,dX h (.lst (B.map PV.int)) (.int (i:Int))=some (.int (B.getD i 0)):=λ_=>atI_nat (by rw[bg,iG,aR hi];rfl)
  have he:∀h,Fe h [.bl ((i:Int)==(a:Int))]=some (.int (if i=a then 1 else 0)):=λh=>by
   by_cases hh:i=a
   ·rw[if_pos hh,hh,iP];rfl
   ·rw[if_neg hh,show((i:Int)==(a:Int))=false by rw[g7];lia];rfl
  have hm:∀h,jy h (.int (q:Int)) (.int (if i=a then 1 else 0))=some (.int ((q:Int)*(if i=a then 1 else 0))):=λh=>HY (.inr (by split<;>decide))
  have hl:(pre.map (Pt B a q)).length<=100:=by rw[ah];lia
  rw[aA];refine c9 ?_;simp only[↓jF,hb,he,hm,dm,sQ,Ha hl,h]
def sR(C:Int)(B:List Int)(a q:Nat):List Nat:=(List.range B.length).map (Pt B a q)++(if C/49%2==1&&(q:Int)%2==1 then [cp (C/98)]else [])
theorem DC(c:CT){x1:Option PV}{C:Int}(B:List Int)(a q:Nat)(hB:B.length<=50){F:List PV}(hF:F.length<=100)(x7 x8:Option PV):∃DB,kf c ⟨[some (.int C),x1,some Pr,some (.int q),some (.lst (B.map .int)),some (.int a),some (.ref 0),x7,x8],[⟨.lst,F⟩]⟩=some (.ok .nx,⟨[some (.int C),x1,some Pr,some (.int q),some (.lst (B.map .int)),some (.int a),some (.ref 0),some (.str (strOf (sR C B a q))),DB],[⟨.lst,F++[.str (strOf (sR C B a q))]⟩]⟩):=by
 obtain⟨DB,h⟩:=mP c (x0:=some (.int C)) (x1:=x1) (x6:=some (.ref 0)) (h0:=[⟨.lst,F⟩]) B a q hB (List.range B.length) [] x8 rfl;obtain⟨l,hl⟩:∃l,l=(List.range B.length).map (Pt B a q):=⟨_,rfl⟩
 have ll:l.length<=100:=by rw[hl];simp;lia
 rw[<-hl]at h
 delta p7 jz at h
 refine⟨DB,?_⟩;have e1:gH [⟨.lst,F⟩] [.lst (B.map .int)]=some (.int (B.length:Nat)):=by show some (PV.int (((B.map PV.int).length:Nat):Int))=_;rw[ah]
 have e2:=xA (n:=B.length) (by lia)
 have hF:=λρ v=>@q8 ρ F v (aM hF (by decide))
 simp only[bI,<-KO]at h;refine c9 ?_;unfold sR;rw[<-hl];cases h1:C/49%2==1
 ·simp only[↓jF,h,e1,e2,dm,h1,hF,Bool.false_and,cN,b6,fq]
 ·cases h2:(q:Int)%2==1
  ·simp only[↓jF,h,e1,e2,dm,h1,h2,hF,lQ,cN,b6,fq]
  ·simp only[↓jF,h,e1,e2,dm,h1,h2,hF,lQ,dc,sQ,Ha ll]
theorem qg(c:CT){x1:Option PV}{C:Int}(B:List Int)(a:Nat)(hB:B.length<=50):∀(qs:List Nat) (F:List PV) (x3 x7 x8:Option PV),F.length+qs.length<=100->∃T3 xB DB,dO (cg 3) (kf c) (qs.map λn:Nat=>.int (n:Int)) ⟨[some (.int C),x1,some Pr,x3,some (.lst (B.map .int)),some (.int a),some (.ref 0),x7,x8],[⟨.lst,F⟩]⟩=some (.ok .nx,⟨[some (.int C),x1,some Pr,T3,some (.lst (B.map .int)),some (.int a),some (.ref 0),xB,DB],[⟨.lst,F++qs.map λq=>.str (strOf (sR C B a q))⟩]⟩)
 | [],F,x3,x7,x8,_=>⟨x3,x7,x8,by simp;rfl⟩
 | q::qs,F,x3,x7,x8,hz=>by
  rw[bZ]at hz;obtain⟨y8,h⟩:=DC c (x1:=x1) (C:=C) B a q hB (F:=F) (by lia) x7 x8
  obtain⟨z3,z7,z8,h2⟩:=qg c (x1:=x1) (C:=C) B a hB qs (F++[.str (strOf (sR C B a q))]) (some (.int q)) (some (.str (strOf (sR C B a q)))) y8 (by simp;lia)
  refine⟨z3,z7,z8,?_⟩;rw[aA,aA,show F++PV.str (strOf (sR C B a q))::qs.map (λq=>PV.str (strOf (sR C B a q)))=F++[PV.str (strOf (sR C B a q))]++qs.map (λq=>PV.str (strOf (sR C B a q))) by simp]
  exact fC (s1:=⟨[some (.int C),x1,some Pr,some (.int q),some (.lst (B.map .int)),some (.int a),some (.ref 0),x7,x8],[⟨.lst,F⟩]⟩) rfl h h2
theorem KP{C:Int}{B:List Int}{a q q':Nat}(hp:a<B.length)(h1:q<26)(h2:q'<26)(h:strOf (sR C B a q)=strOf (sR C B a q')):q=q':=by
 have h:=DA h;have at_:∀q:Nat,(sR C B a q)[a]?=some (cp (B.getD a 0+(q:Int))):=λq=>by
  unfold sR;rw[nV (by simp;lia),bg,n0 hp]
  simp[Pt]
 have e:=eu (λl=>l[a]?) h
 simp only[at_]at e;have:=Pq (bG e)
 lia
theorem Pu{C:Int}{B:List Int}{a q:Nat}(h1:1<=B.length)(h2:B.length<=7):qe (strOf (sR C B a q)):=by
 have hl:(sR C B a q).length=B.length+(if C/49%2==1&&(q:Int)%2==1 then 1 else 0):=by
  unfold sR;rw[cz,ah,eZ];split<;>rfl
 refine⟨by rw[nP,hl];lia,by rw[nP,hl];split<;>lia,λc hc=>?_⟩
 have hc:c∈sR C B a q:=by simpa[strOf]using hc
 unfold sR at hc;rcases cB.mp hc with hc | hc
 ·obtain⟨i,_,rfl⟩:=cJ.mp hc;exact LY _
 ·split at hc
  ·rw[bF.mp hc];exact LY _
  ·cases hc
noncomputable def U1(N:Nat->Str):List Str:=(List.range 16).map N
theorem KQ(k:Nat)(C:Int):∃N:Nat->Str,(∀i j,i<16->j<16->N i=N j->i=j)/\(∀i,qe (N i))/\run aD (k+1) "_law_names" [.int C,.int 16] []=some (.ok (.ref 0),[⟨.lst,(U1 N).map .str⟩]):=by
 obtain⟨ln,Qb⟩:∃ln:Nat,1+C%7=(ln:Int):=⟨(1+C%7).toNat,by lia⟩
 have ln1:1<=ln/\ln<=7:=by lia
 obtain⟨B,hB⟩:∃B:List Int,B=(List.range ln).map λi:Nat=>(C/7/((i:Int)*i+1)+5*(i:Int))%26:=⟨_,rfl⟩
 have Bl:B.length=ln:=by rw[hB];simp
 obtain⟨a,ha⟩:∃a:Nat,C/7%(ln:Int)=(a:Int):=⟨(C/7%(ln:Int)).toNat,(Int.toNat_of_nonneg (gr _ (by lia))).symm⟩
 have hal:a<B.length:=by
  have:=iL (C/7) (show(0:Int)<(ln:Int) by lia)
  lia
 obtain⟨x3,x7,x8,h⟩:=qg (run aD k) (x1:=some (.int 16)) (C:=C) B a (by lia) (List.range 16) [] none none none (by simp)
 refine⟨λq=>strOf (sR C B a q),λi j hi hj e=>KP hal (by lia) (by lia) e,λi=>Pu (by lia) (by lia),?_⟩
 have e1:=xA (n:=ln) (by lia)
 have e2:∀i∈List.range ln,∀h,jy h (.int (i:Int)) (.int (i:Int))=some (.int ((i:Int)*i)):=λi hi h=>HY (.inl (by have:=cH.mp hi;have:(qB:Int)=18446744073709551616:=rfl;lia))
 have e3:∀i∈List.range ln,∀h (a:Int),AU h (.int a) (.int ((i:Int)*i+1))=some (.int (a/((i:Int)*i+1))):=λi hi h a=>by
  have hi:=cH.mp hi;have i0:(0:Int)<=(i:Int)*i:=Int.mul_nonneg (by lia) (by lia)
  have i49:(i:Int)*i<=49:=by
   rcases i with _ | _ | _ | _ | _ | _ | _ | _<;>first | lia | decide
  exact XH (by lia)
 have e4:∀i∈List.range ln,∀h,jy h (.int 5) (.int (i:Int))=some (.int (5*(i:Int))):=λi hi h=>HY (.inl (by decide))
 have e5:(List.range ln).length<=4000000:=by rw[eZ];lia
 have e6:(List.range ln).map (λi:Nat=>PV.int ((C/7/((i:Int)*i+1)+5*(i:Int))%26))=B.map .int:=by rw[hB,cC];rfl
 have e7:∀h,Cj h (.int (C/7)) (.int (ln:Int))=some (.int (a:Int)):=λh'=>by rw[kn (by lia),ha]
 have e8:∀(f:Nat->PV) h,gH h [.lst ((List.range ln).map f)]=some (.int (ln:Int)):=λf h'=>by show some (PV.int ((((List.range ln).map f).length:Nat):Int))=_;rw[ah,eZ]
 have e9:Cz [.int 16]=some ((List.range 16).map λm:Nat=>.int (m:Int)):=xA (n:=16) (by decide)
 delta kf jz at h
 rw[et,<-e6]at h;rw[zS];simp only[↓aX,Qb,e1,e2,e3,e4,e5,e7,e8,e9,h,ah];rfl
theorem Hb(ps:List PV)(q:Nat):iZ ps none (some (q:Int))=ps.take q:=by
 unfold iZ;rw[HT.nF,HT.vK,List.drop_zero,Nat.sub_zero];by_cases h:q<=ps.length
 ·rw[ox h]
 ·rw[Nat.min_eq_right (by lia),lE (by lia),lE (by lia)]
theorem Hc(ps:List PV)(q:Nat):iZ ps (some (q:Int)) none=ps.drop q:=by
 unfold iZ;rw[HT.nF,HT.vK];by_cases h:q<=ps.length
 ·rw[ox h,lE (by simp)]
 ·rw[Nat.min_eq_right (by lia),List.drop_of_length_le (by lia),List.drop_of_length_le (by lia),List.take_nil]
theorem pick{α:Type}(f:α->PV)(L:List α)(m:Int)(h:0<L.length):∃p∈L,∀H:List ai,dX H (.lst (L.map f)) (.int (m%(L.length:Int)))=some (f p):=by
 have W2:=gr m (show(L.length:Int)≠0 by lia)
 have hj1:=iL m (show(0:Int)<(L.length:Int) by lia)
 obtain⟨j,hj⟩:=Int.eq_ofNat_of_zero_le W2;have XI:j<L.length:=by lia
 refine⟨L[j],yv _,λH=>?_⟩
 rw[hj];exact atI_nat (by rw[bg,aR XI];rfl)
noncomputable def KR(b s:Sx):List Kn:=[.ow .nu,.ow b,.ow s,.ho true b,.ho false b,.ho true s,.ho false s,.ho false .nu]
theorem Pw(k:Nat)(C:Int):∃b s,run aD (k+1) "_law_menu" [.int C] []=some (.ok (.lst ((KR b s).map br)),[]):=by
 obtain⟨n,hn⟩:∃n:Fin 8,C/8%8=(n.val:Int):=⟨⟨(C/8%8).toNat,by lia⟩,by simp;lia⟩
 obtain⟨b,s,e⟩:∃b s,∀h,dX h (.lst [.aj [pT,pN],.aj [.aj [.str "rec",.aj [pN,pO]],pO],.aj [.aj [.str "rec",.aj [.aj [.str "strip",.int (1+(n.val:Int))],pN]],.aj [.str "strip",.int (1+(n.val:Int))]],.aj [.aj [.str "rec",.aj [pT,pN]],pT],.aj [.aj [.str "rec",.aj [pD,.aj [.str "strip",.int (1+(n.val:Int))]]],.aj [.str "strip",.int (1+(n.val:Int))]],.aj [.aj [.str "strip",.int (1+(n.val:Int))],pT],.aj [.aj [.str "rec",.aj [pT,pT,pT,pT]],pT],.aj [.aj [.str "rec",.aj [pD,.aj [.str "strip",.int (1+(n.val:Int))]]],pO]]) (.int (C%8))=some (.aj [d8 b,d8 s]):=by
  have hr:C%8=0\/C%8=1\/C%8=2\/C%8=3\/C%8=4\/C%8=5\/C%8=6\/C%8=7:=by lia
  rcases hr with hr | hr | hr | hr | hr | hr | hr | hr<;>rw[hr]
  ·exact⟨.tw,.nu,λ_=>rfl⟩
  ·exact⟨.no,.ow,λ_=>rfl⟩
  ·exact⟨.sn n,.st n,λ_=>rfl⟩
  ·exact⟨.tn,.tw,λ_=>rfl⟩
  ·exact⟨.dp n,.st n,λ_=>rfl⟩
  ·exact⟨.st n,.tw,λ_=>rfl⟩
  ·exact⟨.fo,.tw,λ_=>rfl⟩
  ·exact⟨.dp n,.ow,λ_=>rfl⟩
 refine⟨b,s,?_⟩;rw[De];simp only[↓aX,hn,e];rfl
theorem bW(k:Nat)(C:Int):run aD (k+1) "_law_mixed" [.int C] []=some (.ok (.lst [.int (C*48271%2147483647),.int (C*69621%2147483629),.int (C*16807%2147483587),.int (C*39373%2147483579)]),[]):=by
 have e1:∀h,jy h (.int C) (.int 48271)=some (.int (C*48271)):=λh=>HY (.inr (by decide))
 have e2:∀h,jy h (.int C) (.int 69621)=some (.int (C*69621)):=λh=>HY (.inr (by decide))
 have e3:∀h,jy h (.int C) (.int 16807)=some (.int (C*16807)):=λh=>HY (.inr (by decide))
 have e4:∀h,jy h (.int C) (.int 39373)=some (.int (C*39373)):=λh=>HY (.inr (by decide))
 rw[zR];simp only[↓aX,e1,e2,e3,e4]
theorem mQ(c:CT){M:List Kn}(hM:M.length=8){x2:Option PV}:∀(m:Nat) (ns:List Nat) (C:Int) (ks:List Kn) (x4:Option PV),ns.length=m->ks.length+m<=1000->∃(C':Int) (DD:Option PV) (ls:List Kn),ls.length=ks.length+m/\dO (cg 4) (mJ c) (ns.map λn:Nat=>.int (n:Int)) ⟨[some (.lst (M.map br)),some (.int C),x2,some (.ref 0),x4],[⟨.lst,ks.map br⟩]⟩=some (.ok .nx,⟨[some (.lst (M.map br)),some (.int C'),x2,some (.ref 0),DD],[⟨.lst,ls.map br⟩]⟩)
 | 0,ns,C,ks,x4,hn,_=>by
  rw[iF hn];exact⟨C,x4,ks,rfl,rfl⟩
 | m+1,n::ns,C,ks,x4,hn,hk=>by
  obtain⟨d,_,hd⟩:=pick br M C (by lia)
  rw[hM]at hd;have hd:∀H,dX H (.lst (M.map br)) (.int (C%8))=some (br d):=hd
  obtain⟨C',DD,ls,h1,h2⟩:=mQ c hM (x2:=x2) m ns (C/8) (ks++[d]) (some (.int n)) (by simpa using hn) (by simp;lia)
  refine⟨C',DD,ls,by simp at h1;lia,?_⟩
  have e1:∀h,gH h [.lst (M.map br)]=some (.int 8):=λh=>by show some (PV.int (((M.map br).length:Nat):Int))=_;rw[ah,hM];rfl
  have e2:=λρ v=>@q8 ρ (ks.map br) v (by rw[ah];lia)
  simp only[bQ,aA,bI]at h2;rw[aA];refine c9 ?_;simp only[↓jF,e1,e2,hd,h2]
theorem T4(l:List Kn):aE (l.map br)=true:=cK eI l
theorem xC(k:Nat){M:List Kn}(hM:M.length=8)(C:Int)(m:Nat)(hm:m<=100):∃ks:List Kn,ks.length=m/\run aD (k+1) "_law_picked" [.lst (M.map br),.int C,.int (m:Int)] []=some (.ok (.ref 0),[⟨.lst,ks.map br⟩]):=by
 obtain⟨C',x4,ks,h1,h2⟩:=mQ (run aD k) hM (x2:=some (.int m)) m (List.range m) C [] none (by simp) (by simp;lia)
 refine⟨ks,by simpa using h1,?_⟩
 have e1:=xA (n:=m) (by lia)
 delta mJ jz at h2
 rw[bI]at h2;rw[xm];simp only[↓aX,e1,h2]
noncomputable def KS:sE->Option Kn
 | .aV=>none
 | .own s=>some (.ow s)
 | .m9 w s _=>some (.ho w s)
theorem Af(k:Nat)(r:sE){d:Kn}(h:KS r=some d):run aD (k+1) "_law_back" [ik r] []=some (.ok (br d),[]):=by
 cases r with
 | aV=>cases h
 | own s=>cases h;cases s<;>kernel_rfl
 | m9 w s l=>cases h;kernel_rfl
def w0:Kn->Str
 | .ho w _=>sy w
 | .ow .nu=>"num"
 | .ow .ow=>"own"
 | .ow (.st _)=>"strip"
 | .ow _=>"rec"
theorem gB{h:List ai}{d:Kn}:dX h (br d) (.int 0)=some (.str (w0 d)):=by
 cases d with
 | ow s=>cases s<;>rfl
 | ho w s=>rfl
theorem fA{h:List ai}{d:Kn}:qu false h (.str (w0 d)) (.aj [.str "lent",.str "sole"])=some (.bl (eU d)):=by
 cases d with
 | ow s=>cases s<;>kernel_rfl
 | ho w s=>cases w<;>kernel_rfl
def KU:List Ky->Int->List Str
 | [],_=>[]
 | q::ps,n=>(if eU q.2&&n%2==0 then [q.1]else [])++KU ps (n/2)
theorem jg(c:CT){x0 x1 x2:Option PV}:∀(ps:List Ky) (l:List Str) (n:Int) (x5 x6:Option PV),l.length+ps.length<=1000->∃(n':Int) (Ag nQ:Option PV),dO (kN 2 Q5) (mK c) (ps.map cX) ⟨[x0,x1,x2,some (.ref 0),some (.int n),x5,x6],[⟨.lst,l.map .str⟩]⟩=some (.ok .nx,⟨[x0,x1,x2,some (.ref 0),some (.int n'),Ag,nQ],[⟨.lst,(l++KU ps n).map .str⟩]⟩)
 | [],l,n,x5,x6,_=>⟨n,x5,x6,by simp[KU];rfl⟩
 | q::ps,l,n,x5,x6,hl=>by
  simp only[bZ]at hl;have e2:=λρ v=>@q8 ρ (l.map .str) v (by rw[ah];lia)
  unfold KU;cases h1:eU q.2&&n%2==0
  ·obtain⟨n',y5,y6,h⟩:=jg c (x0:=x0) (x1:=x1) (x2:=x2) ps l (n/2) (some (.str q.1)) (some (br q.2)) (by lia)
   refine⟨n',y5,y6,?_⟩;rw[aA];refine c9 ?_;cases h2:eU q.2
   ·simp only[↓jF,gB,fA,h2,h,cN,b6,et]
   ·have h3:(n%2==0)=false:=by rw[h2]at h1;simpa using h1
    simp only[↓jF,gB,fA,h2,h3,dm,h,cN,b6,et]
  ·obtain⟨n',y5,y6,h⟩:=jg c (x0:=x0) (x1:=x1) (x2:=x2) ps (l++[q.1]) (n/2) (some (.str q.1)) (some (br q.2)) (by simp;lia)
   refine⟨n',y5,y6,?_⟩;rw[aC]at h1;rw[aA];simp only[bQ,aA,bI]at h;refine c9 ?_;simp only[↓jF,gB,fA,h1.1,h1.2,dm,e2,h,dc,bQ,aA,bI,og]
theorem nR:∀(ps:List Ky) (n:Int),(KU ps n).Sublist (T1 ps)
 | [],_=>.slnil
 | q::ps,n=>by
  unfold KU T1;cases hq:eU q.2 with
  | false =>
   rw[ye (by simp[hq])]
   simp only[Bool.false_and,cN,b6,et];exact nR ps (n/2)
  | true =>
   rw[yc (by simp[hq]),aA]
   by_cases h2:n%2==0
   ·simp only[h2,lQ,dc,List.singleton_append];exact(nR ps (n/2)).cons_cons _
   ·simp only[h2,lQ,cN,b6,et];exact(nR ps (n/2)).cons _
theorem Ah{l m:List Str}(h:l.Sublist m)(hd:m.Nodup):l=m.filter λx=>decide (x∈l):=by
 induction h with
 | slnil=>rfl
 | @cons l m a h ih =>
  have Iv:=gq.mp hd;rw[ye (by simpa using λz=>Iv.1 (h.subset z))]
  exact ih Iv.2
 | @cons_cons l m a h ih =>
  have Iv:=gq.mp hd;rw[yc (by simp)]
  congr 1
  refine(ih Iv.2).trans (List.filter_congr λx hx=>?_)
  have:x≠a:=λz=>Iv.1 (z▸hx)
  simp[this]
theorem KW(ps:List Ky):(T1 ps).Sublist (ps.map (·.1)):=List.Sublist.map _ List.filter_sublist
theorem KY{ps:List Ky}(hd:(ps.map (·.1)).Nodup)(n:Int):G7 ps (KU ps n):=Ah (nR ps n) (hd.sublist (KW ps))
theorem He(k:Nat){b s:Sx}{ps:List Ky}(hp:ps.length<=4)(hd:(ps.map (·.1)).Nodup)(C:Int):∃(r:sE) (h':List ai),xu ps r/\run aD (k+1) "_law_result" [.lst ((KR b s).map br),.lst (ps.map cX),.int C] []=some (.ok (ik r),h'):=by
 rw[xn];have h4:C%4=0\/C%4=1\/(C%4==0)=false/\(C%4==1)=false:=by simp only[g7];lia
 rcases h4 with h4 | h4 | ⟨h4,h5⟩
 ·refine⟨.aV,[],trivial,?_⟩;simp only[↓aX,dm,h4];rfl
 ·obtain⟨s',hs⟩:∃s',dX [] (.lst ((KR b s).map br)) (.int (C/4%3))=some (d8 s'):=by
   have:C/4%3=0\/C/4%3=1\/C/4%3=2:=by lia
   rcases this with h | h | h<;>rw[h]
   ·exact⟨.nu,rfl⟩
   ·exact⟨b,rfl⟩
   ·exact⟨s,rfl⟩
  refine⟨.own s',[],trivial,?_⟩;simp only[↓aX,dm,h4,hs];rfl
 ·obtain⟨w,s',hs⟩:∃w s',∀H,dX H (.lst ((KR b s).map br)) (.int (3+C/4%5))=some (.aj [.str (sy w),d8 s']):=by
   have:C/4%5=0\/C/4%5=1\/C/4%5=2\/C/4%5=3\/C/4%5=4:=by lia
   rcases this with h | h | h | h | h<;>rw[h]
   ·exact⟨true,b,λ_=>rfl⟩
   ·exact⟨false,b,λ_=>rfl⟩
   ·exact⟨true,s,λ_=>rfl⟩
   ·exact⟨false,s,λ_=>rfl⟩
   ·exact⟨false,.nu,λ_=>rfl⟩
  obtain⟨n',x5,x6,h⟩:=jg (run aD k) (x0:=some (.lst ((KR b s).map br))) (x1:=some (.lst (ps.map cX))) (x2:=some (.int C)) ps [] (C/32) none none (by simp;lia)
  delta mK jz at h
  rw[bI,et]at h;refine⟨.m9 w s' (KU ps (C/32)),[⟨.lst,(KU ps (C/32)).map .str⟩],KY hd _,?_⟩;simp only[↓aX,dm,h4,h5,hs,h];rfl
end bS
set_option maxHeartbeats 0
namespace bS
open PySem L2 L2.U
theorem lz{xs:List Str}{ks:List Kn}(h:ks.length<=1000):WY (.lst (xs.map .str)) (.lst (ks.map br))=some ((xs.zip ks).map cX):=by
 show(if(List.zipWith ef (xs.map .str) (ks.map br)).length<=gV then some (List.zipWith ef (xs.map .str) (ks.map br))else none)=_
 rw[u7,if_pos]
 ·rfl
 ·rw[ah,oq];exact aM (aM (Nat.min_le_right _ _) h) (by decide)
theorem XJ{a b:List Kn}{h:List ai}(hl:a.length+b.length<=1000):jt h (.lst (a.map br)) (.lst (b.map br))=some (.lst ((a++b).map br)):=by
 show U.sizeOk _ _=_;unfold U.sizeOk;rw[if_pos (show _<=gV from(by rw[ah,ah];exact aM hl (by decide))),bQ]
theorem LZ{a:List Kn}{d:Kn}{h:List ai}(hl:a.length<=900):jt h (.lst (a.map br)) (.lst [br d])=some (.lst ((a++[d]).map br)):=XJ (b:=[d]) (by simp;lia)
theorem Px{α:Type}{f:α->PV}{L:List α}{n:Nat}{h:List ai}:E9 h (some (n:Int)) none (.lst (L.map f))=some (.lst ((L.drop n).map f)):=by
 show some (PV.lst (iZ (L.map f) (some (n:Int)) none))=_;rw[Hc,List.map_drop]
theorem T5{h:List ai}{m:Nat}(hm:m<=100):jy h (.lst [pN]) (.int m)=some (.lst ((List.replicate m (Kn.ow .nu)).map br)):=by
 show((if(-1000<=(m:Int)/\(m:Int)<=1000/\1<=100)then some (List.replicate ((m:Int)).toNat [pN]).flatten else none)).map PV.lst=_
 rw[if_pos (by lia),lJ]
 have:(List.replicate m [pN]).flatten=(List.replicate m (Kn.ow .nu)).map br:=by
  induction m with
  | zero=>rfl
  | succ m ih=>rw[gZ,jN,gZ,aA,ih (by lia)];rfl
 rw[this];rfl
structure Hd where
 nm:Str
 ps:List Ky
 res:sE
 ls:List Ky
def fW(H:Hd):PV:=.aj [.str H.nm,.lst (H.ps.map cX),ik H.res,.lst (H.ls.map cX)]
structure fX (xs:List Str) (i:Nat) (H:Hd):Prop where
 nm:xs[15-i]?=some H.nm
 p:H.ps.length<=4
 l:H.ls.length<=8
 nn:∃m,(H.ps++H.ls).map (·.1)=xs.take m
 nu:∃q∈H.ls,q.2=.ow .nu
 r:xu H.ps H.res
 bk:∀d,KS H.res=some d->∃q∈H.ls,q.2=d
 z:i=0->H.res=.aV/\∀q∈H.ps,q.2=.ow .nu
theorem nS{α β:Type}:∀(a:List α) (b:List β),(a.zip b).map (·.1)=a.take b.length
 | [],_=>by simp
 | _::_,[]=>by simp
 | x::a,y::b=>by simp[nS a b]
theorem BB{α β:Type}:∀(a:List α) (b:List β),b.length<=a.length->(a.zip b).map (·.2)=b
 | _,[],_=>by simp
 | [],_::_,h=>by simp at h
 | x::a,y::b,h=>by simp[BB a b (by simpa using h)]
theorem vf{xs:List Str}(hx:xs.length=16){i:Nat}{nm:Str}(hn:xs[15-i]?=some nm){ks ds:List Kn}(hk:ks.length<=4)(hd:ds.length<=8){r:sE}(hr:xu (xs.zip ks) r)(h1:.ow .nu∈ds)(h2:∀d,KS r=some d->d∈ds)(h3:i=0->r=.aV/\∀d∈ks,d=.ow .nu):fX xs i ⟨nm,xs.zip ks,r,(xs.drop (xs.zip ks).length).zip ds⟩:=by
 have hz:(xs.zip ks).length=ks.length:=by rw[oq];lia
 have hs:((xs.drop ks.length).zip ds).map (·.2)=ds:=BB _ _ (by rw[tJ];lia)
 have mem:∀d∈ds,∃q∈(xs.drop ks.length).zip ds,q.2=d:=λd h=>by rw[<-hs]at h;exact cJ.mp h
 rw[hz];refine⟨hn,by rw[hz];exact hk,?_,⟨ks.length+ds.length,?_⟩,mem _ h1,hr,λd h=>mem d (h2 d h),λh=>⟨(h3 h).1,λq hq=>(h3 h).2 q.2 (tO hq).2⟩⟩
 ·rw[oq];lia
 ·rw[bQ,nS,nS,List.take_add]
theorem Py(k:Nat){b s:Sx}{xs:List Str}(hx:xs.length=16)(hd:xs.Nodup)(i:Nat)(hi:i<=5)(C:Int):∃H:Hd,fX xs i H/\run aD (k+2) "_law_head" [.lst ((KR b s).map br),.lst (xs.map .str),.int (i:Int),.int C] []=some (.ok (fW H),[]):=by
 obtain⟨m,hm,hm4⟩:∃m:Nat,C*48271%2147483647%5=(m:Int)/\m<=4:=⟨(C*48271%2147483647%5).toNat,by lia,by lia⟩
 obtain⟨m3,XM,abo⟩:∃m:Nat,C*48271%2147483647%3=(m:Int)/\m<=2:=⟨(C*48271%2147483647%3).toNat,by lia,by lia⟩
 obtain⟨l,hl,hl6⟩:∃m:Nat,C*48271%2147483647/16%7=(m:Int)/\m<=6:=⟨(C*48271%2147483647/16%7).toNat,by lia,by lia⟩
 obtain⟨es,he,hE⟩:=xC k (M:=KR b s) rfl (C*39373%2147483579) l (by lia)
 obtain⟨nm,hn⟩:∃nm,xs[15-i]?=some nm:=⟨_,aR (by lia)⟩
 have e1:∀h,dX h (.lst (xs.map .str)) (.int (15-(i:Int)))=some (.str nm):=λh=>by
  rw[show(15:Int)-(i:Int)=((15-i:Nat):Int) by lia]
  exact atI_nat (by rw[bg,hn];rfl)
 have e2:=λh=>LZ (a:=es) (d:=.ow .nu) (h:=h) (by lia)
 have fz:=λl=>dE (T4 l)
 simp only[show br (.ow .nu)=pN from rfl]at e2
 rw[Df];rcases Nat.eq_zero_or_pos i with rfl | hp
 ·refine⟨⟨nm,xs.zip (List.replicate m3 (.ow .nu)),.aV,(xs.drop (xs.zip (List.replicate m3 (Kn.ow .nu))).length).zip (es++[.ow .nu])⟩,vf hx hn (by simp;lia) (by simp;lia) trivial (by simp) (λd h=>by cases h) (λ_=>⟨rfl,λd h=>(List.mem_replicate.mp h).2⟩),?_⟩
  have e3:=λh=>T5 (h:=h) (m:=m3) (by lia)
  have e4:=lz (xs:=xs) (ks:=List.replicate m3 (.ow .nu)) (by simp;lia)
  have e5:=λxs=>lz (xs:=xs) (ks:=es++[.ow .nu]) (by simp;lia)
  have U2:∀h,dX h (.lst (xs.map .str)) (.int (15-((0:Nat):Int)))=some (.str nm):=e1
  simp only[↓aX,bW,XM,hl,hE,fz,U2,e2,e3,e4,e5,Px,ah,fW,ik]
 ·have h0:(0:Int)<(i:Int):=by lia
  obtain⟨ks,hk,hK⟩:=xC k (M:=KR b s) rfl (C*69621%2147483629) m (by lia)
  have nd:((xs.zip ks).map (·.1)).Nodup:=by rw[nS];exact hd.sublist (n9 _ _)
  obtain⟨r,h',hr,hR⟩:=He k (b:=b) (s:=s) (ps:=xs.zip ks) (by rw[oq];lia) nd (C*16807%2147483587)
  have fr:bH h' (ik r)=some (ik r):=aN (sO r);have e3:=λh=>T5 (h:=h) (m:=m3) (by lia)
  have e4:=lz (xs:=xs) (ks:=ks) (by lia)
  cases hb:KS r with
  | none =>
   have hr0:r=.aV:=by cases r<;>first | rfl | cases hb
   subst hr0;refine⟨⟨nm,xs.zip ks,.aV,(xs.drop (xs.zip ks).length).zip (es++[.ow .nu])⟩,vf hx hn (by lia) (by simp;lia) trivial (by simp) (λd h=>by cases h) (λz=>by lia),?_⟩
   have e5:=λxs=>lz (xs:=xs) (ks:=es++[.ow .nu]) (by simp;lia)
   simp only[↓aX,bW,hm,XM,hl,hE,hK,hR,fz,fr,e1,e2,e3,e4,e5,Px,ah,bf h0,fW]
  | some d =>
   refine⟨⟨nm,xs.zip ks,r,(xs.drop (xs.zip ks).length).zip (es++[.ow .nu]++[d])⟩,vf hx hn (by lia) (by simp;lia) hr (by simp) (λd' h=>by rw[hb]at h;cases h;simp) (λz=>by lia),?_⟩
   have e5:=λxs=>lz (xs:=xs) (ks:=es++[.ow .nu]++[d]) (by simp;lia)
   have e6:=λh=>LZ (a:=es++[.ow .nu]) (d:=d) (h:=h) (by simp;lia)
   have e7:jD (ik r)=false:=by
    cases r with
    | aV=>cases hb
    | own s'=>cases s'<;>rfl
    | m9 _ _ _=>rfl
   have e8:=Af k r hb;simp only[↓aX,bW,hm,XM,hl,hE,hK,hR,fz,fr,e1,e2,e3,e4,e5,e6,e7,e8,Px,ah,bf h0,fW,Bool.not_false]
theorem Hf{α:Type} [Inhabited α] {P:Nat->Prop} {Q:Nat->α->Prop} (h:∀i,P i->∃a,Q i a):∃f:Nat->α,∀i,P i->Q i (f i):=by
 classical
 refine⟨λi=>if hi:P i then(h i hi).choose else default,λi hi=>?_⟩
 have e:(if hi:P i then(h i hi).choose else default)=(h i hi).choose:=dif_pos hi
 show Q i (if hi:P i then(h i hi).choose else default)
 rw[e];exact(h i hi).choose_spec
instance:Inhabited Hd:=⟨⟨"",[],.aV,[]⟩⟩
noncomputable def cell(ns:List Int)(i:Nat):Int:=ns.getD i 0
theorem vg(k:Nat)(ns:List Int)(i:Nat):run aD (k+1) "_law_cell_at" [Bu ns,.int (i:Int)] []=some (.ok (.int (cell ns i)),[]):=by
 rw[uZ];have ln:gH [] [Bu ns]=some (.int (ns.length:Int)):=by
  show some (PV.int (((ns.map PV.int).length:Nat):Int))=_;rw[ah]
 unfold cell;rw[iG];by_cases hi:i<ns.length
 ·have e:dX [] (Bu ns) (.int (i:Int))=some (.int ns[i]):=atI_nat (by rw[bg,aR hi];rfl)
  simp only[↓aX,ln,e,bf (show(i:Int)<(ns.length:Int) by lia),aR hi,yD]
 ·simp only[↓aX,ln,bz (show ¬(i:Int)<(ns.length:Int) by lia),gY (jO hi),yB]
theorem KZ(k:Nat)(ns:List Int):∃(xs:List Str) (Hs:List Hd),xs.length=16/\xs.Nodup/\(∀x∈xs,qe x)/\1<=Hs.length/\Hs.length<=6/\(∀i H,Hs[i]?=some H->fX xs i H)/\run aD (k+3) "_law_heads" [Bu ns] []=some (.ok (.lst (Hs.map fW)),[]):=by
 obtain⟨N,n1,n2,n3⟩:=KQ (k+1) (cell ns 0);obtain⟨xs,U3⟩:∃xs,xs=U1 N:=⟨_,rfl⟩
 rw[<-U3]at n3;have xl:xs.length=16:=by rw[U3];simp[U1]
 have xd:xs.Nodup:=by
  rw[U3];unfold U1 List.Nodup;rw[List.pairwise_map];refine List.Pairwise.imp_of_mem (λ{a b} ha hb hne e=>hne (n1 a b (cH.mp ha) (cH.mp hb) e)) List.nodup_range
 obtain⟨b,s,hM⟩:=Pw (k+1) (cell ns 1*48271%2147483647);obtain⟨m,hm,hm1,Wa⟩:∃m:Nat,1+cell ns 2%6=(m:Int)/\1<=m/\m<=6:=⟨(1+cell ns 2%6).toNat,by lia,by lia,by lia⟩
 obtain⟨f,hf⟩:=Hf (P:=λi=>i<=5) λi hi=>Py k (b:=b) (s:=s) xl xd i hi (cell ns (3+i))
 refine⟨xs,(List.range m).map f,xl,xd,λx hx=>by rw[U3]at hx;obtain⟨i,_,rfl⟩:=cJ.mp hx;exact n2 i,by simpa using hm1,by simpa using Wa,λi H h=>?_,?_⟩
 ·rw[bg]at h;obtain⟨j,h1,rfl⟩:=gk.mp h;obtain⟨h2,h3⟩:=b9.mp h1;rw[List.getElem_range]at h3;subst h3;rw[eZ]at h2;exact(hf i (by lia)).1
 have c0:=vg (k+1) ns 0;have c1:=vg (k+1) ns 1;have c2:=vg (k+1) ns 2;have c3:∀i∈List.range m,run aD (k+1+1) "_law_cell_at" [Bu ns,.int (3+(i:Int))] []=some (.ok (.int (cell ns (3+i))),[]):=λi hi=>by
  have:=vg (k+1) ns (3+i)
  rwa [show((3+i:Nat):Int)=3+(i:Int) by lia]at this
 have c4:∀i∈List.range m,run aD (k+2) "_law_head" [.lst ((KR b s).map br),.lst (xs.map .str),.int (i:Int),.int (cell ns (3+i))] []=some (.ok (fW (f i)),[]):=λi hi=>(hf i (by have:=cH.mp hi;lia)).2
 have e1:∀h,jy h (.int (cell ns 1)) (.int 48271)=some (.int (cell ns 1*48271)):=λh=>HY (.inr (by decide))
 have e2:=xA (n:=m) (by lia)
 have e3:((List.range m).map λm:Nat=>PV.int (m:Int)).length<=4000000:=by rw[ah,eZ];lia
 have fz:=dE (ve xs);have c0:run aD (k+2) "_law_cell_at" [Bu ns,.int 0] []=some (.ok (.int (cell ns 0)),[]):=c0;have c1:run aD (k+2) "_law_cell_at" [Bu ns,.int 1] []=some (.ok (.int (cell ns 1)),[]):=c1;have c2:run aD (k+2) "_law_cell_at" [Bu ns,.int 2] []=some (.ok (.int (cell ns 2)),[]):=c2;rw[zV];simp only[↓aX,c0,c1,c2,c3,c4,n3,fz,hM,e1,e2,e3,hm,cC,fI]
def U4(e:Te):PV:=.aj [xT e.1,.int (e.2.1:Int),d8 e.2.2]
theorem K1(k:Nat)(s:Sx):run aD (k+9) "_law_table" [d8 s] []=some (.ok (.lst ((eO s).map U4)),[]):=by cases s<;>kernel_rfl
theorem Hg(k:Nat)(d:Kn):run aD (k+1) "_law_held" [br d] []=some (.ok (d8 (jd d)),[]):=by
 cases d with
 | ow s=>cases s<;>kernel_rfl
 | ho w s=>cases w<;>kernel_rfl
abbrev Zt:=Ky×Te
def mR(z:Zt):Sp:=⟨z.1.1,eU z.1.2,z.2.1,.aV⟩
def mB(z:Zt):PV:=.aj [eG (mR z),d8 z.2.2.2,.str (w0 z.1.2)]
def jh(K:List Ky):List Zt:=K.flatMap λq=>(eO (jd q.2)).map λe=>(q,e)
theorem xD(c:CT){x0:Option PV}{q:Ky}:∀(E:List Te) (L:List PV) (x5 x6 x7:Option PV),L.length+E.length<=4000->∃Ag nQ xB:Option PV,dO (kN 3 (dw (cg 5) (dw (cg 6) (dw (cg 7) m4)))) (kh c) (E.map U4) ⟨[x0,some (.ref 0),some (.str q.1),some (br q.2),some (.bl (eU q.2)),x5,x6,x7],[⟨.lst,L⟩]⟩=some (.ok .nx,⟨[x0,some (.ref 0),some (.str q.1),some (br q.2),some (.bl (eU q.2)),Ag,nQ,xB],[⟨.lst,L++E.map λe=>mB (q,e)⟩]⟩)
 | [],L,x5,x6,x7,_=>⟨x5,x6,x7,by simp;rfl⟩
 | e::E,L,x5,x6,x7,hl=>by
  simp only[bZ]at hl;obtain⟨y5,y6,y7,h⟩:=xD c (x0:=x0) (q:=q) E (L++[mB (q,e)]) (some (xT e.1)) (some (.int e.2.1)) (some (d8 e.2.2)) (by simp;lia)
  refine⟨y5,y6,y7,?_⟩;have e2:=λρ v=>@q8 ρ L v (by lia)
  have h:dO _ (kh c) (E.map U4) ⟨_,[⟨.lst,L++[.aj [.aj [.str q.1,.bl (eU q.2),xT e.1,.aV],d8 e.2.2,.str (w0 q.2)]]⟩]⟩=_:=h;rw[aA,aA,show L++mB (q,e)::E.map (λe=>mB (q,e))=L++[mB (q,e)]++E.map λe=>mB (q,e) by simp]
  refine c9 ?_;simp only[↓jF,gB,e2,h]
theorem sS(c:CT) (hc:∀d,c "_law_held" [br d] []=some (.ok (d8 (jd d)),[])) (ht:∀s,c "_law_table" [d8 s] []=some (.ok (.lst ((eO s).map U4)),[])) {x0:Option PV}:∀(K:List Ky) (L:List PV) (x2 x3 x4 x5 x6 x7:Option PV),L.length+13*K.length<=4000->∃x2' T3 DD Ag nQ xB:Option PV,dO Q2 (p8 c) (K.map cX) ⟨[x0,some (.ref 0),x2,x3,x4,x5,x6,x7],[⟨.lst,L⟩]⟩=some (.ok .nx,⟨[x0,some (.ref 0),x2',T3,DD,Ag,nQ,xB],[⟨.lst,L++(jh K).map mB⟩]⟩)
 | [],L,x2,x3,x4,x5,x6,x7,_=>⟨x2,x3,x4,x5,x6,x7,by simp[jh];rfl⟩
 | q::K,L,x2,x3,x4,x5,x6,x7,hl=>by
  simp only[bZ]at hl;have tl:(eO (jd q.2)).length<=13:=by cases jd q.2<;>exact yi rfl
  obtain⟨a5,a6,a7,h1⟩:=xD c (x0:=x0) (q:=q) (eO (jd q.2)) L x5 x6 x7 (by lia)
  obtain⟨y2,y3,y4,y5,y6,y7,h⟩:=sS c hc ht (x0:=x0) K (L++(eO (jd q.2)).map λe=>mB (q,e)) (some (.str q.1)) (some (br q.2)) (some (.bl (eU q.2))) a5 a6 a7 (by simp;lia)
  refine⟨y2,y3,y4,y5,y6,y7,?_⟩
  delta kh jz at h1
  rw[aA,show L++(jh (q::K)).map mB=L++((eO (jd q.2)).map λe=>mB (q,e))++(jh K).map mB by simp[jh,fI]]
  refine c9 ?_;simp only[↓jF,gB,fA,hc,ht,h1,h,aE,eI,xx]
theorem BC(k:Nat)(K:List Ky)(hK:K.length<=20):run aD (k+10) "_law_spots" [.lst (K.map cX)] []=some (.ok (.ref 0),[⟨.lst,(jh K).map mB⟩]):=by
 obtain⟨y2,y3,y4,y5,y6,y7,h⟩:=sS (run aD (k+9)) (λd=>Hg _ d) (λs=>K1 _ s) (x0:=some (.lst (K.map cX))) K [] none none none none none none (by simp;lia)
 delta p8 jz at h
 rw[et]at h;rw[zU];simp only[↓aX,h]
structure vq (S:Sc):Prop where
 nd:(S.K.map (·.1)).Nodup
 nu:∃q∈S.K,q.2=.ow .nu
 l:S.K.length<=12
theorem gS:∀{l:List Ky} {q:Ky},(l.map (·.1)).Nodup->q∈l->aK l q.1=some q.2
 | r::l,q,hd,h=>by
  rw[aA,gq]at hd;unfold aK;rcases bh.mp h with rfl | h
  ·rw[if_pos rfl]
  ·rw[if_neg (λz:r.1=q.1=>hd.1 (by rw[z];exact n4 h))]
   exact gS hd.2 h
theorem nT{K:List Ky}{z:Zt}:z∈jh K↔z.1∈K/\z.2∈eO (jd z.1.2):=by
 unfold jh;simp only[yx,cJ];constructor
 ·rintro⟨q,h1,e,h2,rfl⟩
  exact⟨h1,h2⟩
 ·rintro⟨h1,h2⟩
  exact⟨z.1,h1,z.2,h2,rfl⟩
theorem Ai{S:Sc}(hS:vq S){z:Zt}(h:z∈jh S.K):ee S (mR z) z.1.2 z.2.2.2:=⟨gS hS.nd (nT.mp h).1,rfl,⟨z.2.2.1,(nT.mp h).2⟩,trivial⟩
abbrev Nz:=Sp×Kn
def vh(z:Nz):PV:=.aj [eG z.1,.str (w0 z.2)]
def DE(S:Sc)(z:Nz):Prop:=∃i,ee S z.1 z.2 i/\lu z.1 i=true
noncomputable def own(K:List Ky):List Ky:=K.filter λq=>decide (q.2=.ow .nu)
theorem XN{h:List ai}{d:Kn}:qt h (br d) pN=some (.bl (decide (d=.ow .nu))):=qX (b:=.ow .nu)
theorem toT_strL{h:List ai}{n:Nat}(l:List Ky):aQ (toT h (n+1)) (l.map λq=>.str q.1)=some (l.map λq=>.str q.1):=by
 have:=toT_strs (h:=h) (n:=n) (l.map (·.1));rw[cC,cC]at this;exact this
theorem Aj{h:List ai}{ps:List PV}{ts:List Tr}(e:aQ (toT h 999) ps=some ts):xP h (.lst ps) (.lst [])=some (.bl (!ps.isEmpty)):=by
 show((((aQ (toT h 999) ps).bind (m6 .lst)).bind λx=>((aQ (toT h 999) []).bind (m6 .lst)).map λy=>eqT x y).map λb=>PV.bl !b)=_
 rw[e];show some (PV.bl !(f9 ts []))=_;have:ts.length=ps.length:=k7 e;cases ps with
 | nil=>rw[iF this];rfl
 | cons p ps=>cases ts with | nil=>cases this | cons t ts=>rfl
theorem vi(c:CT){S:Sc}(hS:vq S){x0:Option PV}{C:Int}{z:Zt}(hz:z∈jh S.K)(L:List Nz)(hl:L.length<=3000)(x7:Option PV):∃(A:List Nz) (xB:Option PV),A.length<=1/\(∀e∈A,DE S e)/\(z.2.2.2=.nu->iz z.1.2=true->∃e∈A,iz e.2=true)/\fF c ⟨[x0,some (.int C),some (.lst ((own S.K).map λq=>.str q.1)),some (.ref 0),some (eG (mR z)),some (d8 z.2.2.2),some (.str (w0 z.1.2)),x7],[⟨.lst,L.map vh⟩]⟩=some (.ok .nx,⟨[x0,some (.int C),some (.lst ((own S.K).map λq=>.str q.1)),some (.ref 0),some (eG (mR z)),some (d8 z.2.2.2),some (.str (w0 z.1.2)),xB],[⟨.lst,(L++A).map vh⟩]⟩):=by
 have Qi:=Ai hS hz;have e2:=λρ v=>@q8 ρ (L.map vh) v (by rw[ah];lia)
 generalize hi:z.2.2.2=i at Qi
 have one:(i=.nu\/i=.ow)->∃(A:List Nz) (xB:Option PV),A.length<=1/\(∀e∈A,DE S e)/\(i=.nu->iz z.1.2=true->∃e∈A,iz e.2=true)/\fF c ⟨[x0,some (.int C),some (.lst ((own S.K).map λq=>.str q.1)),some (.ref 0),some (eG (mR z)),some (d8 i),some (.str (w0 z.1.2)),x7],[⟨.lst,L.map vh⟩]⟩=some (.ok .nx,⟨[x0,some (.int C),some (.lst ((own S.K).map λq=>.str q.1)),some (.ref 0),some (eG (mR z)),some (d8 i),some (.str (w0 z.1.2)),xB],[⟨.lst,(L++A).map vh⟩]⟩):=λh=>by
  refine⟨[(mR z,z.1.2)],x7,aq _,λe he=>?_,λ_ h2=>⟨_,bF.mpr rfl,h2⟩,?_⟩
  ·rw[bF.mp he];exact⟨i,Qi,by rcases h with rfl | rfl<;>rfl⟩
  ·refine c9 ?_;rcases h with rfl | rfl<;>simp only[↓jF,e2,bQ,aA,bI,vh]
 cases i
 case nu=>exact one (.inl rfl)
 case ow=>exact one (.inr rfl)
 case st n =>
  have hn:(0:Int)<1+(n.val:Int):=by lia
  have m1:=λh=>kn (h:=h) (i:=C/2) hn
  by_cases hc:C%2=1
  ·obtain⟨q,hq,hp⟩:=pick (λq:Ky=>.str q.1) (own S.K) (C/2) (by
    obtain⟨q,h1,h2⟩:=hS.nu;exact gX (cZ.mpr ⟨h1,by simp[h2]⟩))
   have Lo:=cZ.mp hq;have o0:0<(own S.K).length:=gX hq;have n1:∀h,xP h (.lst ((own S.K).map λq=>.str q.1)) (.lst [])=some (.bl true):=λh=>by
    rw[Aj (toT_strL (h:=h) (n:=998) (own S.K))];cases ho:own S.K with | nil=>rw[ho]at o0;cases o0 | cons a l=>rfl
   have l1:∀h,gH h [.lst ((own S.K).map λq=>.str q.1)]=some (.int ((own S.K).length:Nat)):=λh=>by show some (PV.int ((((own S.K).map λq=>PV.str q.1).length:Nat):Int))=_;rw[ah]
   have m2:=λh=>kn (h:=h) (i:=C/2) (show(0:Int)<((own S.K).length:Nat) by lia)
   refine⟨[(⟨z.1.1,eU z.1.2,z.2.1,.Kx q.1⟩,z.1.2)],some (.str q.1),aq _,λe he=>?_,(λh=>by cases h),?_⟩
   ·rw[bF.mp he];exact⟨.st n,⟨Qi.k,rfl,Qi.p,⟨n,rfl,by rw[gS hS.nd Lo.1,eY Lo.2]⟩⟩,rfl⟩
   ·refine c9 ?_;simp only[↓jF,e2,m1,m2,dm,hc,n1,l1,hp,bQ,aA,bI,vh];rfl
  ·refine⟨[(⟨z.1.1,eU z.1.2,z.2.1,.num (C/2%(1+(n.val:Int)))⟩,z.1.2)],some (.int (C/2%(1+(n.val:Int)))),aq _,λe he=>?_,(λh=>by cases h),?_⟩
   ·rw[bF.mp he];exact⟨.st n,⟨Qi.k,rfl,Qi.p,⟨n,rfl,gr _ (by lia),iL _ hn⟩⟩,rfl⟩
   ·refine c9 ?_;simp only[↓jF,e2,m1,dm,show(C%2==1)=false by simpa using hc,bQ,aA,bI,vh]
    rfl
 all_goals
  refine⟨[],x7,fK _,(λe he=>by cases he),(λh=>by cases h),c9 ?_⟩
  simp only[↓jF,fq]
end bS
set_option maxHeartbeats 0
namespace bS
open PySem L2 L2.U
def DF(F:Fd):Bool:=match F.rw.getLast? with | some r=>u9 r | none=>false
theorem Ak(k:Nat){S:Sc}{F:Fd}(h:∀r∈F.rw,cF S r)(h1:1<=F.rw.length)(hn:F.rw.length<=1000):run aD (k+16) "are_rows" [gW S,.aj (F.rw.map bM)] []=some (.ok (.bl (DF F)),[]):=by
 obtain⟨r,hl⟩:∃r,F.rw.getLast?=some r:=by
  cases hF:F.rw with
  | nil=>rw[hF]at h1;simp at h1
  | cons a l=>exact⟨_,List.getLast?_cons⟩
 have e1:∀k,∀r∈F.rw,run aD (k+15) "is_row" [gW S,bM r] []=some (.ok (.bl true),[]):=λk r hr=>G6 k (h r hr)
 have e2:(F.rw.map bM).length<=4000000:=by rw[ah];lia
 have e3:dX [] (.aj (F.rw.map bM)) (.int (-1))=some (bM r):=by
  show L2.mY (F.rw.map bM) (-1)=_;exact qd (by rw[List.getLast?_map,hl];rfl)
 unfold DF;rw[hl];rw[uW];cases r
 case fV w x s=>cases w<;>simp only[↓aX,e1,e2,e3,jf,u9]
 all_goals simp only[↓aX,e1,e2,e3,jf,u9]
structure K2 (P:List Fd):Prop where
 l:1<=P.length
 m:P.length<=6
 h:∀F∈P,Ab F
 n:∀F∈P,qe F.nm
 d:(P.map (·.nm)).Nodup
 f:∀F,P[0]?=some F->F.res=.aV/\∀q∈F.ps,q.2=.ow .nu
 o:∀F∈P,F.ls=[]->F.ps=[]
 r:∀F∈P,∀r∈F.rw,cF (Pp P F) r
theorem DG{P:List Fd}(h:K2 P)(k:Nat):run aD (k+17) "is_right" [.aj (P.map fdP)] []=some (.ok (.bl (P.all DF)),[]):=by
 have e1:=λk=>dH k (P.map fdP) 1 6 (by have:=h.l;rw[ah];lia) (by have:=h.m;rw[ah];lia)
 have e2:∀k,∀F∈P,run aD (k+13) "is_head" [fdP F] []=some (.ok (.bl true),[]):=λk F hF=>Dy k (h.h F hF)
 have e3:(P.map fdP).length<=4000000:=by have:=h.m;rw[ah];lia
 have e4:=λk=>mN k (l:=P.map (·.nm)) (λx hx=>by obtain⟨q,h1,rfl⟩:=cJ.mp hx;exact h.n q h1) h.d (by have:=h.m;rw[ah];lia)
 rw[cC]at e4;simp only[fI]at e4;obtain⟨F0,h0⟩:∃F,P[0]?=some F:=⟨_,aR h.l⟩
 have e5:∀h',dX h' (.aj (P.map fdP)) (.int 0)=some (fdP F0):=λh'=>atI_nat (j:=0) (by rw[bg,h0];rfl)
 have e6:=λk=>vd k (h.f F0 h0).1 (h.f F0 h0).2 (h.h F0 (iK h0)).p
 have e7:∀k,∀F∈P,run aD (k+16) "are_rows" [gW (Pp P F),.aj (F.rw.map bM)] []=some (.ok (.bl (DF F)),[]):=λk F hF=>Ak k (h.r F hF) (h.h F hF).w (by have:=(h.h F hF).x;lia)
 have e8:∀c,∀F∈P,HX aD c "Scene" [.ref 0,.aj (P.map fdP),fdP F] [⟨.ins "Scene" [],[]⟩]=_:=λc F hF=>KN c (h.h F hF) (h.o F hF) h.d h.m
 rw[uT];unfold pX;simp only[↓aX,e1,e2,e3,e4,e5,e6,e7,e8,Dz,jf,all_map]
theorem ly(c:CT){S:Sc}(hS:vq S){x0:Option PV}{C:Int}:∀(Z:List Zt) (L:List Nz) (x4 x5 x6 x7:Option PV),(∀z∈Z,z∈jh S.K)->(∀e∈L,DE S e)->L.length+Z.length<=3000->∃(L':List Nz) (DD Ag nQ xB:Option PV),L'.length<=L.length+Z.length/\(∀e∈L',DE S e)/\(∀e∈L,e∈L')/\((∃z∈Z,z.2.2.2=.nu/\iz z.1.2=true)->∃e∈L',iz e.2=true)/\dO (kN 3 (dw (cg 4) Q5)) (fF c) (Z.map mB) ⟨[x0,some (.int C),some (.lst ((own S.K).map λq=>.str q.1)),some (.ref 0),x4,x5,x6,x7],[⟨.lst,L.map vh⟩]⟩=some (.ok .nx,⟨[x0,some (.int C),some (.lst ((own S.K).map λq=>.str q.1)),some (.ref 0),DD,Ag,nQ,xB],[⟨.lst,L'.map vh⟩]⟩)
 | [],L,x4,x5,x6,x7,_,hL,_=>⟨L,x4,x5,x6,x7,aq _,hL,λ_ h=>h,(λ⟨z,h,_⟩=>nomatch h),rfl⟩
 | z::Z,L,x4,x5,x6,x7,hZ,hL,hl=>by
  simp only[bZ]at hl;obtain⟨A,y7,a1,a2,a3,a4⟩:=vi c hS (x0:=x0) (C:=C) (hZ z cy) L (by lia) x7
  obtain⟨L',z4,z5,z6,z7,b1,b2,b3,b4,b5⟩:=ly c hS (x0:=x0) (C:=C) Z (L++A) (some (eG (mR z))) (some (d8 z.2.2.2)) (some (.str (w0 z.1.2))) y7 (λy h=>hZ y (bY _ h)) (λe h=>by rcases cB.mp h with h | h;exact hL e h;exact a2 e h) (by simp;lia)
  refine⟨L',z4,z5,z6,z7,by simp at b1 ⊢;lia,b2,λe h=>b3 e (cB.mpr (.inl h)),?_,?_⟩
  ·rintro⟨y,hy,h1,h2⟩
   rcases bh.mp hy with rfl | hy
   ·obtain⟨e,he,h3⟩:=a3 h1 h2;exact⟨e,b3 e (cB.mpr (.inr he)),h3⟩
   ·exact b4 ⟨y,hy,h1,h2⟩
  ·exact fC (s1:=⟨[x0,some (.int C),some (.lst ((own S.K).map λq=>.str q.1)),some (.ref 0),some (eG (mR z)),some (d8 z.2.2.2),some (.str (w0 z.1.2)),x7],[⟨.lst,L.map vh⟩]⟩) rfl a4 b5
theorem nU:∀K:List Ky,(jh K).length<=13*K.length
 | []=>by simp[jh]
 | q::K=>by
  have tl:(eO (jd q.2)).length<=13:=by cases jd q.2<;>exact yi rfl
  have:=nU K;unfold jh at this ⊢;simp only[List.flatMap_cons,cz,ah,bZ]
  lia
theorem L0(z:Zt):noRef (mB z)=true:=by simp[mB,noRef,aE,BA,xx]
theorem T6(z:Nz):noRef (vh z)=true:=by simp[vh,noRef,aE,BA]
theorem DH(k:Nat){S:Sc}(hS:vq S)(C:Int):∃L:List Nz,(∀e∈L,DE S e)/\(∃e∈L,iz e.2=true)/\L.length<=200/\run aD (k+11) "_law_numbers" [.lst (S.K.map cX),.int C] []=some (.ok (.ref 0),[⟨.lst,L.map vh⟩]):=by
 have Zk:=nU S.K;have hl:=hS.l;obtain⟨L,y4,y5,y6,y7,b1,b2,b3,b4,b5⟩:=ly (run aD (k+10)) hS (x0:=some (.lst (S.K.map cX))) (C:=C) (jh S.K) [] none none none none (λz h=>h) (λe h=>by cases h) (by simp;lia)
 refine⟨L,b2,b4 ?_,by simp at b1;lia,?_⟩
 ·obtain⟨q,h1,h2⟩:=hS.nu;refine⟨(q,([],0,.nu)),nT.mpr ⟨h1,?_⟩,rfl,?_⟩
  ·rw[h2];exact bF.mpr rfl
  ·show iz q.2=true;rw[h2];rfl
 have e1:=BC k S.K (by lia)
 have e2:(S.K.map cX).length<=4000000:=by rw[ah];lia
 have fz:=dE (cK L0 (jh S.K));have nr:aE (S.K.map cX)=true:=cK G9 _
 delta fF jz at b5
 simp only[own]at b5;rw[u0];simp only[bI]at b5;simp only[↓aX,e1,e2,XN,fz,b5,aE,noRef,nr]
def Pz(p:PV):Prop:=∀h,∃t,toT h 999 p=some t
theorem XO{α:Type}{f:α->PV}(hf:∀x,Pz (f x))(h:List ai):∀l:List α,∃ts,aQ (toT h 999) (l.map f)=some ts
 | []=>⟨[],rfl⟩
 | x::l=>by
  obtain⟨t,e⟩:=hf x h;obtain⟨ts,e2⟩:=XO hf h l;refine⟨t::ts,?_⟩;show(toT h 999 (f x)).bind (λy=>(aQ (toT h 999) (l.map f)).map λys=>y::ys)=_
  rw[e,e2];rfl
theorem toT_ints{h:List ai}{n:Nat}:∀l:List Nat,aQ (toT h (n+1)) (l.map fun(i:Nat)=>.int (i:Int))=some (l.map fun(i:Nat)=>.int (i:Int))
 | []=>rfl
 | i::l=>by
  show(some (Tr.int i)).bind (λy=>(aQ (toT h (n+1)) (l.map fun(i:Nat)=>.int (i:Int))).map λys=>y::ys)=_
  rw[toT_ints l];rfl
theorem toT_pa{h:List ai}{n:Nat}(p:List Nat):toT h (n+2) (xT p)=some (.aj (p.map fun(i:Nat)=>.int (i:Int))):=by
 show((aQ (toT h (n+1)) (p.map fun(i:Nat)=>.int (i:Int))).bind (m6 .aj))=_
 rw[toT_ints];rfl
theorem toT_sp{h:List ai}{n:Nat}(s:Sp):∃t,toT h (n+3) (eG s)=some t:=by
 have:∃t,toT h (n+2) (Kz s.a)=some t:=by cases s.a<;>exact⟨_,rfl⟩
 obtain⟨t,ht⟩:=this;refine⟨.aj [.str s.x,.bl s.t,.aj (s.p.map fun(i:Nat)=>.int (i:Int)),t],?_⟩
 show((aQ (toT h (n+2)) [.str s.x,.bl s.t,xT s.p,Kz s.a]).bind (m6 .aj))=_;simp only[aQ,toT_pa,ht];rfl
theorem T7(z:Nz):Pz (vh z):=λh=>by
 obtain⟨t,ht⟩:=toT_sp (h:=h) (n:=995) z.1;refine⟨.aj [t,.str (w0 z.2)],?_⟩;show((aQ (toT h 998) [eG z.1,.str (w0 z.2)]).bind (m6 .aj))=_;simp only[aQ,ht];rfl
theorem Hh{h:List ai}{ps:List PV}{ts:List Tr}(e:aQ (toT h 999) ps=some ts):qt h (.lst ps) (.lst [])=some (.bl ps.isEmpty):=by
 have:=Aj e;show(RL h (.lst ps) (.lst [])).map PV.bl=_;have h2:(RL h (.lst ps) (.lst [])).map (λb=>PV.bl !b)=some (PV.bl !ps.isEmpty):=this
 obtain⟨b,hb,h3⟩:=gk.mp h2;rw[hb];simp at h3;rw[<-h3];rfl
theorem bN{α:Type}{f:α->PV}{L:List α}{h:List ai}:gH h [.lst (L.map f)]=some (.int (L.length:Nat)):=by
 show some (PV.int (((L.map f).length:Nat):Int))=_;rw[ah]
theorem sT(k:Nat){S:Sc}{L:List Nz}(hL:∀e∈L,DE S e)(m C:Int):∃o:Op,mx S o/\run aD (k+1) "_law_operand" [.lst (L.map vh),.int m,.int C] []=some (.ok (nN o),[]):=by
 obtain⟨ts,XA⟩:=XO T7 [] L;have e1:=Hh XA;have e2:jy [] (.int C) (.int 982451653)=some (.int (C*982451653)):=HY (.inr (by decide))
 have e3:E6 [] (.int 10) (.int 30)=some (.int (10^30)):=by kernel_rfl
 have num:∃o:Op,mx S o/\PV.int (C*982451653%10^30)=nN o:=⟨.n (C*982451653%10^30),⟨gr _ (by decide),iL _ (by decide)⟩,rfl⟩
 have e4:Cj [] (.int (C*982451653)) (.int (10^30))=some (.int (C*982451653%10^30)):=kn (by decide)
 rw[u3];cases h1:m%4==0
 ·cases h2:L.isEmpty
  ·obtain⟨e,he,hp⟩:=pick vh L (m/4) (by cases L with | nil=>cases h2 | cons=>simp)
   have l0:(0:Int)<(L.length:Nat):=by have:=gX he;lia
   have m1:=kn (h:=[]) (i:=m/4) l0;obtain⟨i,hi,hn⟩:=hL e he;refine⟨.s e.1,⟨e.2,i,hi,hn⟩,?_⟩;simp only[↓aX,dm,h1,e1,lO,h2,bN,m1,hp];rfl
  ·obtain⟨o,ho,eo⟩:=num;refine⟨o,ho,?_⟩;simp only[↓aX,dm,h1,e1,lO,h2,e2,e3,e4,eo]
 ·obtain⟨o,ho,eo⟩:=num;refine⟨o,ho,?_⟩;simp only[↓aX,dm,h1,e1,e2,e3,e4,eo]
end bS
set_option maxHeartbeats 0
namespace bS
open PySem L2 L2.U
theorem cV{h:List ai}{d:Kn}:xP h (.str (w0 d)) (.str "lent")=some (.bl (iz d)):=by
 cases d with
 | ow s=>cases s<;>kernel_rfl
 | ho w s=>cases w<;>kernel_rfl
theorem PC(L:List Nz):aE (L.map vh)=true:=cK T6 L
theorem Hj(L:List Ky):aE (L.map cX)=true:=cK G9 L
theorem xE(k:Nat){S:Sc}(hS:vq S)(C:Int)(hn:0<S.size):∃r:Rw,cF S r/\run aD (k+12) "_law_plain_row" [.lst (S.K.map cX),.int C,.int (S.size:Nat)] []=some (.ok (bM r),[]):=by
 obtain⟨L,l1,⟨e0,l2,l3⟩,l4,l5⟩:=DH k hS (C*39373%2147483579);obtain⟨o1,Qj,PD⟩:=sT (k+10) l1 (C*69621%2147483629) C;obtain⟨o2,U5,PF⟩:=sT (k+10) l1 (C*16807%2147483587) (C+1);obtain⟨e,he,hp⟩:=pick (λz:Nz=>eG z.1) (L.filter λz=>iz z.2) (C*48271%2147483647) (gX (cZ.mpr ⟨l2,l3⟩))
 have l0:(0:Int)<((L.filter λz=>iz z.2).length:Nat):=by have:=gX he;lia
 have m1:=λh=>kn (h:=h) (i:=C*48271%2147483647) l0
 have Zl:=cZ.mp he;obtain⟨i,hi,Oi⟩:=l1 e Zl.1;have tg:∃d i,ee S e.1 d i/\lu e.1 i=true/\iz d=true:=⟨e.2,i,hi,Oi,Zl.2⟩
 have e2:(L.map vh).length<=4000000:=by rw[ah];lia
 have fz:=dE (PC L);have jm:=gr (C*48271%2147483647/8) (show(S.size:Int)≠0 by lia)
 have jl:=iL (C*48271%2147483647/8) (show(0:Int)<(S.size:Int) by lia)
 have m2:=λh=>kn (h:=h) (i:=C*48271%2147483647/8) (show(0:Int)<(S.size:Int) by lia)
 rw[qa];by_cases h1:C%16<10
 ·refine⟨.put e.1 o1,⟨tg,Qj⟩,?_⟩;simp only[↓aX,bW,l5,fz,e2,cV,PD,PF,bf h1,bN,m1,hp];rfl
 by_cases h2:C%16=10
 ·have h3:C*39373%2147483579%3=0\/C*39373%2147483579%3=1\/C*39373%2147483579%3=2:=by lia
  rcases h3 with h3 | h3 | h3
  ·refine⟨.set e.1 "+" o1 o2,⟨tg,.inl rfl,Qj,U5⟩,?_⟩;simp only[↓aX,bW,l5,fz,e2,cV,PD,PF,bz h1,dm,h2,bN,m1,hp,h3];rfl
  ·refine⟨.set e.1 "-" o1 o2,⟨tg,.inr (.inl rfl),Qj,U5⟩,?_⟩;simp only[↓aX,bW,l5,fz,e2,cV,PD,PF,bz h1,dm,h2,bN,m1,hp,h3];rfl
  ·refine⟨.set e.1 "*" o1 o2,⟨tg,.inr (.inr rfl),Qj,U5⟩,?_⟩;simp only[↓aX,bW,l5,fz,e2,cV,PD,PF,bz h1,dm,h2,bN,m1,hp,h3];rfl
 by_cases h4:C%16=11
 ·refine⟨.Bx o1 o2 (C*48271%2147483647/8%(S.size:Int)),⟨Qj,U5,jm,jl⟩,?_⟩;simp only[↓aX,bW,l5,fz,e2,cV,PD,PF,bz h1,dm,h4,bN,m2];rfl
 by_cases h5:C%16=12
 ·refine⟨.go (C*48271%2147483647/8%(S.size:Int)),⟨jm,jl⟩,?_⟩;simp only[↓aX,bW,l5,fz,e2,cV,PD,PF,bz h1,dm,h5,bN,m2];rfl
 ·refine⟨.Dp o1,Qj,?_⟩;simp only[↓aX,bW,l5,fz,e2,cV,PD,PF,bz h1,dm,show(C%16==10)=false by simpa using h2,show(C%16==11)=false by simpa using h4,show(C%16==12)=false by simpa using h5]
  rfl
end bS
set_option maxHeartbeats 0
namespace bS
open PySem L2 L2.U
theorem BD{h:List ai}{d:Kn}{w:Bool}{i:Sx}:qt h (br d) (.aj [.str (sy w),d8 i])=some (.bl (decide (d=.ho w i))):=qX (b:=.ho w i)
theorem qh(c:CT){S:Sc}(hS:vq S){x0 x1:Option PV}(w:Bool){q:Ky}(hq:q∈S.K):∀(Z:List Zt) (R:List Rw) (x6 x7 x8:Option PV),(∀z∈Z,z∈jh S.K)->(∀r∈R,cF S r)->R.length+Z.length<=3000->∃(R':List Rw) (nQ xB DB:Option PV),R'.length<=R.length+Z.length/\(∀r∈R',cF S r)/\dO (kN 3 (dw (cg 6) (dw (cg 7) (dw (cg 8) m4)))) (ig c) (Z.map mB) ⟨[x0,x1,some (.str (sy w)),some (.ref 0),some (.str q.1),some (br q.2),x6,x7,x8],[⟨.lst,R.map bM⟩]⟩=some (.ok .nx,⟨[x0,x1,some (.str (sy w)),some (.ref 0),some (.str q.1),some (br q.2),nQ,xB,DB],[⟨.lst,R'.map bM⟩]⟩)
 | [],R,x6,x7,x8,_,hR,_=>⟨R,x6,x7,x8,aq _,hR,rfl⟩
 | z::Z,R,x6,x7,x8,hZ,hR,hl=>by
  simp only[bZ]at hl;have e2:=λρ v=>@q8 ρ (R.map bM) v (by rw[ah];lia)
  have sp:=Ai hS (hZ z cy);by_cases hc:q.2=.ho w z.2.2.2/\(w=true->iz z.1.2=true)
  ·have hr:cF S (.fV w q.1 (mR z)):=⟨_,_,sp,rfl,hc.2,by rw[gS hS.nd hq,hc.1]⟩
   obtain⟨R',y6,y7,y8,h1,h2,h3⟩:=qh c hS (x0:=x0) (x1:=x1) w hq Z (R++[.fV w q.1 (mR z)]) (some (eG (mR z))) (some (d8 z.2.2.2)) (some (.str (w0 z.1.2))) (λy h=>hZ y (bY _ h)) (λr h=>by rcases cB.mp h with h | h;exact hR r h;rw[bF.mp h];exact hr) (by simp;lia)
   refine⟨R',y6,y7,y8,by simp at h1 ⊢;lia,h2,?_⟩
   rw[bQ]at h3;rw[aA];refine c9 ?_;cases w with
   | false =>
    have h3:dO _ (ig c) (Z.map mB) ⟨_,[⟨.lst,R.map bM++[.aj [.str "lend",.str q.1,eG (mR z)]]⟩]⟩=_:=h3;simp only[↓jF,BD,bf hc.1,e2,h3]
   | true =>
    have h3:dO _ (ig c) (Z.map mB) ⟨_,[⟨.lst,R.map bM++[.aj [.str "sole",.str q.1,eG (mR z)]]⟩]⟩=_:=h3;simp only[↓jF,BD,bf hc.1,cV,hc.2 rfl,e2,h3]
  ·obtain⟨R',y6,y7,y8,h1,h2,h3⟩:=qh c hS (x0:=x0) (x1:=x1) w hq Z R (some (eG (mR z))) (some (d8 z.2.2.2)) (some (.str (w0 z.1.2))) (λy h=>hZ y (bY _ h)) hR (by lia)
   refine⟨R',y6,y7,y8,by simp only[bZ];lia,h2,?_⟩
   rw[aA];refine c9 ?_;by_cases hk:q.2=.ho w z.2.2.2
   ·cases w with
    | false=>exact absurd ⟨hk,λh=>by cases h⟩ hc
    | true =>
     have hm:iz z.1.2=false:=by
      cases hm:iz z.1.2 with
      | false=>rfl
      | true=>exact absurd ⟨hk,λ_=>hm⟩ hc
     simp only[↓jF,BD,bf hk,cV,hm,h3]
   ·simp only[↓jF,BD,bz hk,h3]
theorem sU(c:CT){S:Sc}(hS:vq S){x0:Option PV}(w:Bool):∀(K:List Ky) (R:List Rw) (x4 x5 x6 x7 x8:Option PV),(∀q∈K,q∈S.K)->(∀r∈R,cF S r)->R.length+160*K.length<=3000->∃(R':List Rw) (DD Ag nQ xB DB:Option PV),R'.length<=R.length+160*K.length/\(∀r∈R',cF S r)/\dO Q0 (p9 c) (K.map cX) ⟨[x0,some (.lst ((jh S.K).map mB)),some (.str (sy w)),some (.ref 0),x4,x5,x6,x7,x8],[⟨.lst,R.map bM⟩]⟩=some (.ok .nx,⟨[x0,some (.lst ((jh S.K).map mB)),some (.str (sy w)),some (.ref 0),DD,Ag,nQ,xB,DB],[⟨.lst,R'.map bM⟩]⟩)
 | [],R,x4,x5,x6,x7,x8,_,hR,_=>⟨R,x4,x5,x6,x7,x8,aq _,hR,rfl⟩
 | q::K,R,x4,x5,x6,x7,x8,hK,hR,hl=>by
  simp only[bZ]at hl;have Zk:=nU S.K;have hl':=hS.l;obtain⟨R1,y6,y7,y8,h1,h2,h3⟩:=qh c hS (x0:=x0) (x1:=some (.lst ((jh S.K).map mB))) w (hK q cy) (jh S.K) R x6 x7 x8 (λz h=>h) hR (by lia)
  obtain⟨R2,z4,z5,z6,z7,z8,g1,g2,g3⟩:=sU c hS (x0:=x0) w K R1 (some (.str q.1)) (some (br q.2)) y6 y7 y8 (λy h=>hK y (bY _ h)) h2 (by lia)
  refine⟨R2,z4,z5,z6,z7,z8,by simp only[bZ];lia,g2,?_⟩
  delta ig jz at h3
  rw[aA];refine c9 ?_;simp only[↓jF,h3,g3]
theorem BE(k:Nat){S:Sc}(hS:vq S)(w:Bool):∃R:List Rw,(∀r∈R,cF S r)/\run aD (k+1) "_law_lends" [.lst (S.K.map cX),.lst ((jh S.K).map mB),.str (sy w)] []=some (.ok (.ref 0),[⟨.lst,R.map bM⟩]):=by
 have hl:=hS.l;obtain⟨R,y4,y5,y6,y7,y8,h1,h2,h3⟩:=sU (run aD k) hS (x0:=some (.lst (S.K.map cX))) w S.K [] none none none none none (λq h=>h) (λr h=>by cases h) (by simp;lia)
 refine⟨R,h2,?_⟩
 delta p9 jz at h3
 rw[bI]at h3;rw[zW];simp only[↓aX,h3]
theorem Hk(k:Nat)(i:Sx):run aD (k+10) "_law_copied" [d8 i] []=some (.ok (.bl (xU i)),[]):=by cases i<;>kernel_rfl
noncomputable def T8:Sx->Bool
 | .st _=>true
 | _=>false
theorem T9{h:List ai}{i:Sx}:dX h (d8 i) (.int 0)=some (.str (w0 (.ow i))):=gB (d:=.ow i)
theorem Hl{h:List ai}{i:Sx}:qt h (.str (w0 (.ow i))) (.str "strip")=some (.bl (T8 i)):=by cases i<;>kernel_rfl
theorem Hm(L:List Zt):aE (L.map mB)=true:=cK L0 L
theorem Ho(L:List Rw):aE (L.map bM)=true:=cK xy L
theorem Hq{S:Sc}(hS:vq S):∃z∈jh S.K,eU z.1.2=false/\iz z.1.2=true:=by
 obtain⟨q,h1,h2⟩:=hS.nu;refine⟨(q,([],0,.nu)),nT.mpr ⟨h1,?_⟩,?_,?_⟩
 ·rw[h2];exact bF.mpr rfl
 ·show eU q.2=false;rw[h2];rfl
 ·show iz q.2=true;rw[h2];rfl
theorem Hr{α:Type}(f:α->PV)(b:α->Bool)(L:List α)(m:Int)(h:∃x∈L,b x=true):∃p,p∈L/\b p=true/\(0:Int)<((L.filter b).length:Nat)/\∀H:List ai,dX H (.lst ((L.filter b).map f)) (.int (m%((L.filter b).length:Int)))=some (f p):=by
 obtain⟨x,h1,h2⟩:=h;obtain⟨p,hp,e⟩:=pick f (L.filter b) m (gX (cZ.mpr ⟨h1,h2⟩));have:=cZ.mp hp;exact⟨p,this.1,this.2,by have:=gX hp;lia,e⟩
theorem Ht(k:Nat){S:Sc}(hS:vq S)(C m:Int):∃R:List Rw,(∀r∈R,cF S r)/\run aD (k+11) "_law_things" [.lst (S.K.map cX),.int C,.int m] []=some (.ok (.lst (R.map bM)),[]):=by
 have hl:=hS.l;have Zk:=nU S.K;have e1:=BC k S.K (by lia)
 have fz:=dE (Hm (jh S.K));have ll:((jh S.K).map mB).length<=4000000:=by rw[ah];lia
 have lf:∀b,(((jh S.K).filter b).map mB).length<=4000000:=λb=>by have:=List.length_filter_le b (jh S.K);rw[ah];lia
 have n1:=Hm (jh S.K);have n2:=Hj S.K;have e2:∀h,jy h (.int C) (.int 982451653)=some (.int (C*982451653)):=λh=>HY (.inr (by decide))
 have e3:∀h,E6 h (.int 10) (.int 30)=some (.int (10^30)):=λh=>by kernel_rfl
 have e4:∀h,Cj h (.int (C*982451653)) (.int (10^30))=some (.int (C*982451653%10^30)):=λh=>kn (by decide)
 have ok:∀{z},z∈jh S.K->ee S (mR z) z.1.2 z.2.2.2:=λh=>Ai hS h
 rw[xo];by_cases h1:C%16<2
 ·obtain⟨R,r1,r2⟩:=BE (k+9) hS false;have fr:=dE (Ho R);rw[show sy false="lent" from rfl]at r2
  refine⟨R,r1,?_⟩;simp only[↓aX,e1,fz,ll,cV,bf h1,r2,fr]
 by_cases h2:C%16<4
 ·obtain⟨R,r1,r2⟩:=BE (k+9) hS true;have fr:=dE (Ho R);rw[show sy true="sole" from rfl]at r2
  refine⟨R,r1,?_⟩;simp only[↓aX,e1,fz,ll,cV,bz h1,bf h2,r2,fr]
 by_cases h3:C%16=4
 ·obtain⟨z0,p1,p2,p3,p4⟩:=Hr mB (λz=>iz z.1.2) (jh S.K) m (let ⟨z,a,_,b⟩:=Hq hS;⟨z,a,b⟩)
  have m1:=λh=>kn (h:=h) (i:=m) p3
  refine⟨((jh S.K).filter λz=>decide (z.2.2.2=z0.2.2.2)&&xU z0.2.2.2).map λz=>.my (mR z0) (mR z),λr hr=>?_,?_⟩
  ·obtain⟨z,hz,rfl⟩:=cJ.mp hr;obtain⟨z1,z2⟩:=cZ.mp hz;rw[aC,iO]at z2;exact⟨_,_,_,ok p1,rfl,p2,z2.1▸ok z1,rfl,z2.2⟩
  ·simp only[↓aX,e1,fz,ll,cV,bz h1,bz h2,dm,h3,bN,m1,p4,Pn,Hk,cC,fI];rfl
 by_cases h4:C%16=5
 ·obtain⟨z0,p1,p2,p3,p4⟩:=Hr mB (λz=>!(mR z).t) (jh S.K) m (let ⟨z,a,b,_⟩:=Hq hS;⟨z,a,by show(!eU z.1.2)=true;rw[b];rfl⟩)
  have m1:=λh=>kn (h:=h) (i:=m) p3
  refine⟨(((jh S.K).filter λz=>iz z.1.2).filter λz=>decide (z.2.2.2=z0.2.2.2)).map λz=>.nC (mR z) (mR z0),λr hr=>?_,?_⟩
  ·obtain⟨z,hz,rfl⟩:=cJ.mp hr;obtain⟨z1,z2⟩:=cZ.mp hz;obtain⟨z1,z3⟩:=cZ.mp z1;rw[iO]at z2;exact⟨_,_,_,z2▸ok z1,rfl,z3,ok p1,rfl,by simpa[mR]using p2⟩
  ·simp only[↓aX,e1,fz,ll,lf,cV,bz h1,bz h2,dm,h4,bN,m1,p4,Pn,cC,fI];rfl
 by_cases h5:C%16=6
 ·refine⟨((jh S.K).filter λz=>!(mR z).t).map λz=>.drop (mR z),λr hr=>?_,?_⟩
  ·obtain⟨z,hz,rfl⟩:=cJ.mp hr;obtain⟨z1,z2⟩:=cZ.mp hz;exact⟨_,_,ok z1,rfl,by simpa[mR]using z2⟩
  ·simp only[↓aX,e1,fz,ll,lf,cV,bz h1,bz h2,dm,h5,cC,fI];rfl
 ·refine⟨(((jh S.K).filter λz=>iz z.1.2).filter λz=>T8 z.2.2.2).map λz=>.fill (mR z) (.n (C*982451653%10^30)),λr hr=>?_,?_⟩
  ·obtain⟨z,hz,rfl⟩:=cJ.mp hr;obtain⟨z1,z2⟩:=cZ.mp hz;obtain⟨z1,z3⟩:=cZ.mp z1;have hz:=ok z1;cases hi:z.2.2.2 with
   | st n=>rw[hi]at hz;exact⟨⟨_,n,hz,rfl,z3⟩,gr _ (by decide),iL _ (by decide)⟩
   | _=>rw[hi]at z2;cases z2
  ·simp only[↓aX,e1,e2,e3,e4,fz,ll,lf,cV,bz h1,bz h2,dm,show(C%16==4)=false by simpa using h3,show(C%16==5)=false by simpa using h4,show(C%16==6)=false by simpa using h5,T9,Hl,cC,fI]
   rfl
end bS
set_option maxHeartbeats 0
namespace bS
open PySem L2 L2.U
noncomputable def eV(K:List Ky)(d:Kn):List Ky:=K.filter λq=>decide (q.2=d)
theorem qi{S:Sc}(hS:vq S){d:Kn}{q:Ky}(h:q∈eV S.K d):aK S.K q.1=some d:=by
 have:=cZ.mp h;rw[gS hS.nd this.1,eY this.2]
theorem lA{h:List ai}{l:List Ky}:qt h (.lst (l.map λq=>.str q.1)) (.lst [])=some (.bl l.isEmpty):=by
 rw[Hh (toT_strL (h:=h) (n:=998) l),lO]
theorem Am(l:List Ky)(m:Int)(h:l.isEmpty=false):∃q∈l,(0:Int)<(l.length:Nat)/\∀H:List ai,dX H (.lst (l.map λq=>.str q.1)) (.int (m%(l.length:Int)))=some (.str q.1):=by
 obtain⟨q,h1,h2⟩:=pick (λq:Ky=>.str q.1) l m (by cases l with | nil=>cases h | cons=>simp)
 exact⟨q,h1,by have:=gX h1;lia,h2⟩
theorem L3{α:Type}{f:Gx α}{s:bX}{a:α}(h:∃st,gx f s=some (.ok a,st)):∃st,f s=some (.ok a,st):=h
theorem sV(c:CT){S:Sc}(hS:vq S){x0 x2 x3 x4 x5 x6 x7:Option PV}:∀(ps:List Ky) (as:List Str) (m:Int) (Ua Ub Uc:Option PV),as.length+ps.length<=100 ->
  (∃st,dO Q1 (jr c) (ps.map cX) ⟨[x0,some (.lst (S.K.map cX)),x2,x3,x4,x5,x6,x7,some (.ref 0),some (.int m),Ua,Ub,Uc],[⟨.lst,as.map .str⟩]⟩=some (.ok (.rt .aV),st)) \/
  ∃(bs:List Str) (m':Int) (U6 U7 U8:Option PV),bs.length=ps.length/\(∀z∈bs.zip ps,aK S.K z.1=some z.2.2)/\dO Q1 (jr c) (ps.map cX) ⟨[x0,some (.lst (S.K.map cX)),x2,x3,x4,x5,x6,x7,some (.ref 0),some (.int m),Ua,Ub,Uc],[⟨.lst,as.map .str⟩]⟩=some (.ok .nx,⟨[x0,some (.lst (S.K.map cX)),x2,x3,x4,x5,x6,x7,some (.ref 0),some (.int m'),U6,U7,U8],[⟨.lst,(as++bs).map .str⟩]⟩)
 | [],as,m,Ua,Ub,Uc,_=>.inr ⟨[],m,Ua,Ub,Uc,rfl,(λz h=>nomatch h),by rw[fq];rfl⟩
 | p::ps,as,m,Ua,Ub,Uc,hl=>by
  simp only[bZ]at hl;have kl:=hS.l;have e2:=λρ v=>@q8 ρ (as.map .str) v (by rw[ah];lia)
  have e3:(S.K.map cX).length<=4000000:=by rw[ah];lia
  rw[aA];cases he:(eV S.K p.2).isEmpty with
  | true =>
   refine .inl (L3 ?_);unfold eV at he;simp only[↓jF,e3,qX,lA,he];exact⟨_,rfl⟩
  | false =>
   obtain⟨q,hq,h0,hp⟩:=Am (eV S.K p.2) m he;have m1:=λh=>kn (h:=h) (i:=m) h0
   unfold eV at he hp m1;rcases sV c hS (x0:=x0) (x2:=x2) (x3:=x3) (x4:=x4) (x5:=x5) (x6:=x6) (x7:=x7) ps (as++[q.1]) (m/8) (some (.str p.1)) (some (br p.2)) (some (.lst ((eV S.K p.2).map λq=>.str q.1))) (by simp;lia)with⟨st,h⟩ | ⟨bs,m',U6,U7,U8,b1,b2,b3⟩
   ·unfold eV at h;simp only[bQ,aA,bI]at h;refine .inl ⟨st,c9 ?_⟩;simp only[↓jF,e2,e3,qX,lA,he,bN,m1,hp,h]
   ·unfold eV at b3;simp only[bQ,aA,bI]at b3;refine .inr ⟨q.1::bs,m',U6,U7,U8,by simp[b1],λz hz=>?_,c9 ?_⟩
    ·rw[List.zip_cons_cons]at hz;rcases bh.mp hz with rfl | hz
     ·exact qi hS hq
     ·exact b2 z hz
    ·simp only[↓jF,e2,e3,qX,lA,he,bN,m1,hp,b3,bQ,aA,og,List.cons_append,et,bI]
end bS
set_option maxHeartbeats 0
namespace bS
open PySem L2 L2.U
structure Qk (Hs:List Hd) (H:Hd) (n:Nat) (S:Sc):Prop where
 K:S.K=H.ps++H.ls
 res:S.res=H.res
 size:S.size=n
 heads:∀G∈Hs,∃q l r,gw [.inr G.nm] S.hk=true/\dj [.inr G.nm] S.hk S.hv=some (.aj [q,.aj (G.ps.map cX),ik G.res,l,r])
def XQ:Option Rw->PV
 | none=>.aV
 | some r=>bM r
theorem Hu{r:sE}(h:KS r=none):r=.aV:=by cases r<;>first | rfl | cases h
theorem xF{r:sE}{d:Kn}(h:KS r=some d):jD (ik r)=false:=by
 cases r with
 | aV=>cases h
 | own s'=>cases s'<;>rfl
 | m9 _ _ _=>rfl
theorem L4{S:Sc}{x:Str}{r:sE}{d:Kn}(h:KS r=some d)(hx:aK S.K x=some d):qb S x r:=by
 cases r with
 | aV=>cases h
 | own s'=>cases h;exact hx
 | m9 _ _ _=>cases h;exact hx
theorem PH(k:Nat){Hs:List Hd}{H:Hd}{n:Nat}{S:Sc}(hS:vq S)(hM:Qk Hs H n S)(h0:0<Hs.length)(hp:∀G∈Hs,G.ps.length<=4)(C:Int):∃(o:Option Rw) (h':List ai),(∀r,o=some r->cF S r)/\run aD (k+2) "_law_call" [.lst (Hs.map fW),.lst (S.K.map cX),.int C] []=some (.ok (XQ o),h'):=by
 obtain⟨G,hG,pG⟩:=pick fW Hs (C*48271%2147483647) h0;have m0:=λh=>kn (h:=h) (i:=C*48271%2147483647) (show(0:Int)<(Hs.length:Nat) by lia)
 have gp:=hp G hG;have kl:=hS.l;have e3:(S.K.map cX).length<=4000000:=by rw[ah];lia
 obtain⟨q,l,r,g1,g2⟩:=hM.heads G hG;rw[Dg];rcases sV (run aD (k+1)) hS (x0:=some (.lst (Hs.map fW))) (x2:=some (.int C)) (x3:=some (.lst [.int (C*48271%2147483647),.int (C*69621%2147483629),.int (C*16807%2147483587),.int (C*39373%2147483579)])) (x4:=some (.str G.nm)) (x5:=some (.lst (G.ps.map cX))) (x6:=some (ik G.res)) (x7:=some (.lst (G.ls.map cX))) G.ps [] (C*69621%2147483629) none none none (by simp;lia)with⟨st,h⟩ | ⟨bs,m',U6,U7,U8,b1,b2,b3⟩
 ·delta jr jz at h
  rw[bI]at h;refine⟨none,st.h,(λr h=>by cases h),?_⟩
  simp only[↓aX,bW,bN,m0,pG,h];rfl
 ·delta jr jz at b3
  rw[bI,et]at b3;cases hb:KS G.res with
  | none =>
   have hr:=Hu hb;rw[hr,show ik .aV=PV.aV from rfl]at b3
   refine⟨some (.call "" G.nm bs),[⟨.lst,bs.map .str⟩],(λr' h=>by cases h;exact⟨G.ps,G.res,q,l,r,g1,g2,b1,by lia,b2,by rw[hr];rfl⟩),?_⟩
   have pG:∀h,dX h (.lst (Hs.map fW)) (.int (C*48271%2147483647%(Hs.length:Int)))=some (.aj [.str G.nm,.lst (G.ps.map cX),.aV,.lst (G.ls.map cX)]):=λh=>by rw[pG];unfold fW;rw[hr];rfl
   simp only[↓aX,bW,bN,m0,pG,b3];rfl
  | some d =>
   have e4:=Af k G.res hb;have e5:=xF hb;cases he:(eV S.K d).isEmpty with
   | true =>
    refine⟨none,[⟨.lst,bs.map .str⟩],(λr h=>by cases h),?_⟩
    unfold eV at he;simp only[↓aX,bW,bN,m0,pG,b3,e3,e4,e5,qX,lA,he,aE,sO];rfl
   | false =>
    obtain⟨z,hz,z0,zp⟩:=Am (eV S.K d) (C*16807%2147483587) he;have m1:=λh=>kn (h:=h) (i:=C*16807%2147483587) z0
    refine⟨some (.call z.1 G.nm bs),[⟨.lst,bs.map .str⟩],(λr' h=>by cases h;exact⟨G.ps,G.res,q,l,r,g1,g2,b1,by lia,b2,L4 hb (qi hS hz)⟩),?_⟩
    unfold eV at he zp m1;simp only[↓aX,bW,bN,m0,pG,b3,e3,e4,e5,qX,lA,he,m1,zp,aE,sO];rfl
theorem Ud{a b:List Ky}{h:List ai}(hl:a.length+b.length<=1000):jt h (.lst (a.map cX)) (.lst (b.map cX))=some (.lst ((a++b).map cX)):=by
 show U.sizeOk _ _=_;unfold U.sizeOk;rw[if_pos (show _<=gV from(by rw[ah,ah];exact aM hl (by decide))),bQ]
theorem Hv(k:Nat){xs:List Str}{Hs:List Hd}{H:Hd}{i n:Nat}{S:Sc}(hS:vq S)(hM:Qk Hs H n S)(hH:fX xs i H)(C:Int):∃x:Str,cF S (.fG x)/\run aD (k+2) "_law_give" [fW H,.int C] []=some (.ok (bM (.fG x)),[]):=by
 have h1:=hH.p;have h2:=hH.l;rw[Dh];cases hb:KS H.res with
 | none =>
  have hr:=Hu hb;refine⟨"",by show qb S "" S.res;rw[hM.res,hr];rfl,?_⟩
  simp only[↓aX,fW,hr,ik];rfl
 | some d =>
  have e1:=λh=>Ud (a:=H.ps) (b:=H.ls) (h:=h) (by lia)
  have e3:((H.ps++H.ls).map cX).length<=4000000:=by rw[ah,cz];lia
  have e4:=Af k H.res hb;have e5:=xF hb;have he:(eV S.K d).isEmpty=false:=by
   obtain⟨q,h1,h2⟩:=hH.bk d hb;have:q∈eV S.K d:=cZ.mpr ⟨by rw[hM.K];exact cB.mpr (.inr h1),by simp[h2]⟩
   cases hw:eV S.K d with
   | nil=>rw[hw]at this;cases this
   | cons=>rfl
  obtain⟨z,hz,z0,zp⟩:=Am (eV S.K d) C he;have m1:=λh=>kn (h:=h) (i:=C) z0
  refine⟨z.1,by show qb S z.1 S.res;rw[hM.res];exact L4 hb (qi hS hz),?_⟩
  unfold eV at zp m1;rw[hM.K]at zp m1;simp only[↓aX,fW,e1,e3,e4,e5,qX,bN,m1,zp];rfl
end bS
set_option maxHeartbeats 0
namespace bS
open PySem L2 L2.U
theorem toT_op{h:List ai}{n:Nat}(o:Op):∃t,toT h (n+3) (nN o)=some t:=by
 cases o with
 | n i=>exact⟨_,rfl⟩
 | s s=>exact toT_sp s
theorem Ue(r:Rw):Pz (bM r):=λh=>by
 cases r with
 | put s o =>
  obtain⟨t,ht⟩:=toT_sp (h:=h) (n:=995) s;obtain⟨u,hu⟩:=toT_op (h:=h) (n:=995) o;exact⟨.aj [.str "put",t,u],by show((aQ (toT h 998) [.str "put",eG s,nN o]).bind (m6 .aj))=_;simp only[aQ,ht,hu];rfl⟩
 | set s g a b =>
  obtain⟨t,ht⟩:=toT_sp (h:=h) (n:=995) s;obtain⟨u,hu⟩:=toT_op (h:=h) (n:=995) a;obtain⟨v,hv⟩:=toT_op (h:=h) (n:=995) b;exact⟨.aj [.str "set",t,.str g,u,v],by show((aQ (toT h 998) [.str "set",eG s,.str g,nN a,nN b]).bind (m6 .aj))=_;simp only[aQ,ht,hu,hv];rfl⟩
 | fill s o =>
  obtain⟨t,ht⟩:=toT_sp (h:=h) (n:=995) s;obtain⟨u,hu⟩:=toT_op (h:=h) (n:=995) o;exact⟨.aj [.str "fill",t,u],by show((aQ (toT h 998) [.str "fill",eG s,nN o]).bind (m6 .aj))=_;simp only[aQ,ht,hu];rfl⟩
 | my t s =>
  obtain⟨u,hu⟩:=toT_sp (h:=h) (n:=995) t;obtain⟨v,hv⟩:=toT_sp (h:=h) (n:=995) s;exact⟨.aj [.str "copy",u,v],by show((aQ (toT h 998) [.str "copy",eG t,eG s]).bind (m6 .aj))=_;simp only[aQ,hu,hv];rfl⟩
 | nC t s =>
  obtain⟨u,hu⟩:=toT_sp (h:=h) (n:=995) t;obtain⟨v,hv⟩:=toT_sp (h:=h) (n:=995) s;exact⟨.aj [.str "move",u,v],by show((aQ (toT h 998) [.str "move",eG t,eG s]).bind (m6 .aj))=_;simp only[aQ,hu,hv];rfl⟩
 | drop s =>
  obtain⟨v,hv⟩:=toT_sp (h:=h) (n:=995) s;exact⟨.aj [.str "drop",v],by show((aQ (toT h 998) [.str "drop",eG s]).bind (m6 .aj))=_;simp only[aQ,hv];rfl⟩
 | fV w x s =>
  obtain⟨v,hv⟩:=toT_sp (h:=h) (n:=995) s;exact⟨.aj [.str (qY w),.str x,v],by show((aQ (toT h 998) [.str (qY w),.str x,eG s]).bind (m6 .aj))=_;simp only[aQ,hv];rfl⟩
 | call x f as =>
  have hv:toT h 998 (.aj (as.map .str))=some (.aj (as.map .str)):=by
   show((aQ (toT h 997) (as.map .str)).bind (m6 .aj))=_;rw[toT_strs];rfl
  exact⟨.aj [.str "call",.str x,.str f,.aj (as.map .str)],by show((aQ (toT h 998) [.str "call",.str x,.str f,.aj (as.map .str)]).bind (m6 .aj))=_;simp only[aQ,hv];rfl⟩
 | Bx a b to =>
  obtain⟨u,hu⟩:=toT_op (h:=h) (n:=995) a;obtain⟨v,hv⟩:=toT_op (h:=h) (n:=995) b;exact⟨.aj [.str "if",u,v,.int to],by show((aQ (toT h 998) [.str "if",nN a,nN b,.int to]).bind (m6 .aj))=_;simp only[aQ,hu,hv];rfl⟩
 | go to=>exact⟨_,rfl⟩
 | Dp o =>
  obtain⟨u,hu⟩:=toT_op (h:=h) (n:=995) o;exact⟨.aj [.str "say",u],by show((aQ (toT h 998) [.str "say",nN o]).bind (m6 .aj))=_;simp only[aQ,hu];rfl⟩
 | fG x=>exact⟨_,rfl⟩
theorem Zm{h:List ai}{R:List Rw}:xP h (.lst (R.map bM)) (.lst [])=some (.bl (!R.isEmpty)):=by
 obtain⟨ts,e⟩:=XO Ue h R;rw[Aj e,lO]
theorem rw_isNon(r:Rw):jD (bM r)=false:=by cases r<;>rfl
theorem Ug(k:Nat){Hs:List Hd}{H:Hd}{n:Nat}{S:Sc}(hS:vq S)(hM:Qk Hs H n S)(h0:0<Hs.length)(hp:∀G∈Hs,G.ps.length<=4)(hl:H.ps.length+H.ls.length<=12)(C:Int)(j:Nat)(hj:j+1<n):∃r:Rw,cF S r/\run aD (k+13) "_law_row" [.lst (Hs.map fW),fW H,.int C,.int (j:Int),.int (n:Int)] []=some (.ok (bM r),[]):=by
 have e1:∀h,jt h (.lst (H.ps.map cX)) (.lst (H.ls.map cX))=some (.lst (S.K.map cX)):=λh=>by rw[hM.K];exact Ud (by lia)
 have hn:=hM.size;have go:∃r:Rw,cF S r/\PV.aj [.str "go",.int ((j:Int)+1)]=bM r:=⟨.go ((j:Int)+1),⟨by lia,by rw[hn];lia⟩,rfl⟩
 rw[GZ];by_cases c1:C%16=15
 ·obtain⟨o,h',o1,o2⟩:=PH (k+10) hS hM h0 hp (C/16);cases o with
  | none =>
   obtain⟨r,r1,r2⟩:=go;refine⟨r,r1,?_⟩;rw[show XQ none=PV.aV from rfl]at o2
   have fz:bH h' .aV=some .aV:=aN rfl;simp only[↓aX,fW,e1,bW,dm,c1,o2,fz,r2]
  | some r =>
   refine⟨r,o1 r rfl,?_⟩;rw[show XQ (some r)=bM r from rfl]at o2
   have fz:bH h' (bM r)=some (bM r):=aN (xy r);simp only[↓aX,fW,e1,bW,dm,c1,o2,fz,rw_isNon]
 have NU:(C%16==15)=false:=by simpa using c1
 by_cases c2:C%16<8
 ·obtain⟨R,t1,t2⟩:=Ht (k+1) hS C (C*48271%2147483647);cases he:R.isEmpty with
  | true =>
   obtain⟨r,r1,r2⟩:=go;refine⟨r,r1,?_⟩;simp only[↓aX,fW,e1,bW,dm,NU,bf c2,t2,Zm,he,r2]
  | false =>
   obtain⟨r,hr,rp⟩:=pick bM R (C*69621%2147483629) (by cases R with | nil=>cases he | cons=>simp)
   have m1:=λh=>kn (h:=h) (i:=C*69621%2147483629) (show(0:Int)<(R.length:Nat) by have:=gX hr;lia)
   refine⟨r,t1 r hr,?_⟩;simp only[↓aX,fW,e1,bW,dm,NU,bf c2,t2,Zm,he,bN,m1,rp,rw_isNon]
 ·obtain⟨r,t1,t2⟩:=xE k hS C (by rw[hn];lia)
  rw[hn]at t2;refine⟨r,t1,?_⟩;simp only[↓aX,fW,e1,bW,dm,NU,bz c2,t2,rw_isNon]
end bS
set_option maxHeartbeats 0
namespace bS
open PySem L2 L2.U
theorem DI{i m n:Nat}(hm:1<=m)(h:n+m<=200):(U.mH i m n).length<=200:=by
 unfold U.mH sliceRange;rw[ah,eZ];have e:sliceBounds (some (i:Int)) none (some (m:Int)) n=(max 0 (min (i:Int) n),(n:Int),(m:Int)):=by
  unfold sliceBounds;simp only[yD,if_pos (show(m:Int)>0 by lia),if_neg (show ¬(i:Int)<0 by lia)]
 rw[e];simp only;rw[if_pos (by lia)]
 split
 ·have:=Int.ediv_le_self (a:=(n:Int)-max 0 (min (i:Int) n)+m-1) (m:Int) (by lia)
  lia
 ·simp
theorem Hw{α β:Type}(f:α->β)(a m:Int)(ps:List α):ix a m (ps.map f)=(ix a m ps).map f:=by
 unfold ix;rw[ah,List.map_filterMap];refine eu (λg=>List.filterMap g _) (funext λj=>?_)
 rw[bg]
theorem Hx{i m:Nat}{cs:List Int}(hm:1<=m)(h:cs.length+m<=200):NF (.lst (cs.map .int)) (some (i:Int)) (some (m:Int))=some (.lst ((ix (i:Int) (m:Int) cs).map .int)):=by
 show(if((m:Int) != 0&&decide ((U.mH (i:Int) (m:Int) (cs.map PV.int).length).length<=gV))=true then some (PV.lst (ix (i:Int) (m:Int) (cs.map PV.int)))else none)=_
 rw[if_pos,Hw];rw[ah,aC];exact⟨by simp;lia,bf (aM (DI hm h) (by decide))⟩
def sg(Hs:List Hd)(H:Hd)(n:Nat):Sc:=⟨H.ps++H.ls,H.res,n,Hs.map λG=>[.inr G.nm],Hs.map λG=>.aj [.str G.nm,.aj (G.ps.map cX),ik G.res,.aV,.aV]⟩
theorem An{α:Type}(nm:α->Str)(v:α->PV):∀{l:List α} {x:α},(l.map nm).Nodup->x∈l->gw [.inr (nm x)] (l.map λy=>[.inr (nm y)])=true/\dj [.inr (nm x)] (l.map λy=>[.inr (nm y)]) (l.map v)=some (v x)
 | y::l,x,hd,h=>by
  rw[aA,gq]at hd;rcases bh.mp h with rfl | h
  ·refine⟨?_,?_⟩
   ·show(decide ([(Sum.inr (nm x):cL)]=[Sum.inr (nm x)]) || _)=true;rw[bf rfl];rfl
   ·show(if [(Sum.inr (nm x):cL)]=[Sum.inr (nm x)]then _ else _)=_
    rw[if_pos rfl]
  ·have hne:nm y≠nm x:=λz=>hd.1 (by rw[z];exact n4 h)
   obtain⟨h1,h2⟩:=An nm v hd.2 h;refine⟨?_,?_⟩
   ·show(decide ([(Sum.inr (nm y):cL)]=[Sum.inr (nm x)]) || gw _ (l.map _))=true;rw[h1,Bool.or_true]
   ·show(if [(Sum.inr (nm y):cL)]=[Sum.inr (nm x)]then _ else dj _ (l.map _) (l.map v))=_
    rw[if_neg (by simpa using hne),h2]
theorem Uh{Hs:List Hd}{H:Hd}{n:Nat}(hd:(Hs.map (·.nm)).Nodup):Qk Hs H n (sg Hs H n) where
 K:=rfl
 res:=rfl
 size:=rfl
 heads:=λG hG=>by
  obtain⟨h1,h2⟩:=An (λG:Hd=>G.nm) (λG=>.aj [.str G.nm,.aj (G.ps.map cX),ik G.res,.aV,.aV]) hd hG
  exact⟨_,_,_,h1,h2⟩
theorem XR{xs:List Str}(hx:xs.length=16)(vj:xs.Nodup){Hs:List Hd}{H:Hd}{i n:Nat}(hH:fX xs i H):vq (sg Hs H n) where
 nd:=by
  obtain⟨m,e⟩:=hH.nn;show((H.ps++H.ls).map (·.1)).Nodup;rw[e];exact vj.sublist (n9 _ _)
 nu:=by
  obtain⟨q,h1,h2⟩:=hH.nu;exact⟨q,cB.mpr (.inr h1),h2⟩
 l:=by
  have:=hH.p;have:=hH.l;show(H.ps++H.ls).length<=12;rw[cz]
  lia
theorem BF(H:Hd):noRef (fW H)=true:=by simp[fW,noRef,aE,Hj,sO]
theorem PJ(Hs:List Hd):aE (Hs.map fW)=true:=cK BF Hs
theorem jG(k:Nat){xs:List Str}{Hs:List Hd}{H:Hd}{i n:Nat}{S:Sc}(hS:vq S)(hM:Qk Hs H n S)(hH:fX xs i H)(h0:0<Hs.length)(hp:∀G∈Hs,G.ps.length<=4){x1 x2:Option PV}{all:List Int}(vO:((all.length:Nat):Int)+1=(n:Int)):∀(ds:List Int) (R:List Rw) (x6:Option PV),R.length+ds.length+1=n->R.length+ds.length<=1000->(∀r∈R,cF S r)->∃(R':List Rw) (nQ:Option PV),R'.length=R.length+ds.length/\(∀r∈R',cF S r)/\dO (cg 6) (dC (run aD (k+13))) (ds.map .int) ⟨[some (.lst (Hs.map fW)),x1,x2,some (fW H),some (.lst (all.map .int)),some (.ref 0),x6],[⟨.lst,R.map bM⟩]⟩=some (.ok .nx,⟨[some (.lst (Hs.map fW)),x1,x2,some (fW H),some (.lst (all.map .int)),some (.ref 0),nQ],[⟨.lst,R'.map bM⟩]⟩)
 | [],R,x6,_,_,hR=>⟨R,x6,rfl,hR,rfl⟩
 | C::ds,R,x6,hl,hb,hR=>by
  simp only[bZ]at hl hb;have e2:=λρ v=>@q8 ρ (R.map bM) v (by rw[ah];lia)
  have h1:=hH.p;have h2:=hH.l;have iU:∀r,cF S r->(∀nQ R',dO (cg 6) (dC (run aD (k+13))) (ds.map .int) ⟨[some (.lst (Hs.map fW)),x1,x2,some (fW H),some (.lst (all.map .int)),some (.ref 0),some (.int C)],[⟨.lst,R.map bM++[bM r]⟩]⟩=some (.ok .nx,⟨[some (.lst (Hs.map fW)),x1,x2,some (fW H),some (.lst (all.map .int)),some (.ref 0),nQ],[⟨.lst,R'⟩]⟩)->dO (cg 6) (dC (run aD (k+13))) ((C::ds).map .int) ⟨[some (.lst (Hs.map fW)),x1,x2,some (fW H),some (.lst (all.map .int)),some (.ref 0),x6],[⟨.lst,R.map bM⟩]⟩=some (.ok .nx,⟨[some (.lst (Hs.map fW)),x1,x2,some (fW H),some (.lst (all.map .int)),some (.ref 0),nQ],[⟨.lst,R'⟩]⟩))->∃(R':List Rw) (nQ:Option PV),R'.length=R.length+(C::ds).length/\(∀r∈R',cF S r)/\dO (cg 6) (dC (run aD (k+13))) ((C::ds).map .int) ⟨[some (.lst (Hs.map fW)),x1,x2,some (fW H),some (.lst (all.map .int)),some (.ref 0),x6],[⟨.lst,R.map bM⟩]⟩=some (.ok .nx,⟨[some (.lst (Hs.map fW)),x1,x2,some (fW H),some (.lst (all.map .int)),some (.ref 0),nQ],[⟨.lst,R'.map bM⟩]⟩):=λr hr step=>by
   obtain⟨R',y6,b1,b2,b3⟩:=jG k hS hM hH h0 hp (x1:=x1) (x2:=x2) vO ds (R++[r]) (some (.int C)) (by simp;lia) (by simp;lia) (λr' h=>by rcases cB.mp h with h | h;exact hR r' h;rw[bF.mp h];exact hr)
   refine⟨R',y6,by simp at b1 ⊢;lia,b2,step y6 _ ?_⟩
   simpa using b3
  by_cases c1:C%32=31
  ·obtain⟨x,g1,g2⟩:=Hv (k+11) hS hM hH (C/32);refine iU (.fG x) g1 λnQ R' h=>?_
   rw[aA];refine c9 ?_;simp only[↓jF,dm,c1,e2,g2,h,aE,noRef,BF]
  ·obtain⟨r,g1,g2⟩:=Ug k hS hM h0 hp (by lia) C R.length (by lia)
   refine iU r g1 λnQ R' h=>?_
   rw[aA];refine c9 ?_;simp only[↓jF,dm,show(C%32==31)=false by simpa using c1,e2,g2,h,bN,ah,vO,aE,noRef,BF,PJ]
end bS
set_option maxHeartbeats 0
namespace bS
open PySem L2 L2.U
noncomputable def Ql(H:Hd)(R:List Rw):Fd:=⟨H.nm,H.ps,H.res,H.ls,R⟩
theorem Ao(k:Nat){xs:List Str}(hx:xs.length=16)(vj:xs.Nodup){Hs:List Hd}(h6:Hs.length<=6)(hd:(Hs.map (·.nm)).Nodup)(hp:∀G∈Hs,G.ps.length<=4){H:Hd}{i:Nat}(hi:Hs[i]?=some H)(hH:fX xs i H){cs:List Int}(hc:cs.length<=63):∃(R:List Rw) (h':List ai),1<=R.length/\R.length<=32/\(∀r∈R,cF (sg Hs H R.length) r)/\(∃x,R.getLast?=some (.fG x))/\run aD (k+14) "_law_function" [.lst (Hs.map fW),.int (i:Int),.lst (cs.map .int)] []=some (.ok (fdP (Ql H R)),h'):=by
 have YT:=(b9.mp hi).1;obtain⟨ds,Lp⟩:∃ds,ds=(ix (i:Int) (Hs.length:Int) cs).take 31:=⟨_,rfl⟩
 have dl:ds.length<=31:=by rw[Lp,lM];lia
 obtain⟨S,XS⟩:∃S,S=sg Hs H (ds.length+1):=⟨_,rfl⟩
 have hS:vq S:=XS▸XR hx vj hH;have hM:Qk Hs H (ds.length+1) S:=XS▸Uh hd;obtain⟨R,y6,b1,b2,b3⟩:=jG k hS hM hH (by lia) hp (x1:=some (.int i)) (x2:=some (.lst (cs.map .int))) (all:=ds) (by lia) ds [] none (by simp) (by simp;lia) (λr h=>by cases h)
 obtain⟨x,g1,g2⟩:=Hv (k+11) hS hM hH (cs.length:Int);have e1:∀h,dX h (.lst (Hs.map fW)) (.int (i:Int))=some (fW H):=λh=>atI_nat (by rw[bg,hi];rfl)
 have e2:=Hx (i:=i) (m:=Hs.length) (cs:=cs) (by lia) (by lia)
 have e3:∀h,E9 h none (some 31) (.lst ((ix (i:Int) (Hs.length:Int) cs).map .int))=some (.lst (ds.map .int)):=λh=>by
  show some (PV.lst (iZ _ none (some ((31:Nat):Int))))=_;rw[Hb,<-t7,Lp]
 have e4:=λρ v=>@q8 ρ (R.map bM) v (by rw[ah];simp at b1;lia)
 have ll:R.length=ds.length:=by simpa using b1
 refine⟨R++[.fG x],[⟨.lst,(R++[Rw.fG x]).map bM⟩],by simp,by simp;lia,λr hr=>?_,⟨x,by simp⟩,?_⟩
 ·rw[cz,show [Rw.fG x].length=1 from rfl,ll,<-XS]
  rcases cB.mp hr with hr | hr
  ·exact b2 r hr
  ·rw[bF.mp hr];exact g1
 delta dC jz at b3
 rw[bI]at b3;rw[qV];simp only[↓aX,e1,e2,e3,e4,bN,b3,g2,aE,noRef,BF];simp only[fdP,Ql,bQ,aA,bI]
theorem iq{α:Type}{f:α->PV}{L:List α}{h:List ai}:gH h [.aj (L.map f)]=some (.int (L.length:Nat)):=by
 show some (PV.int (((L.map f).length:Nat):Int))=_;rw[ah]
def K3:Rw->Str
 | .put _ _=>"put"
 | .set _ _ _ _=>"set"
 | .fill _ _=>"fill"
 | .my _ _=>"copy"
 | .nC _ _=>"move"
 | .drop _=>"drop"
 | .fV w _ _=>qY w
 | .call _ _ _=>"call"
 | .Bx _ _ _=>"if"
 | .go _=>"go"
 | .Dp _=>"say"
 | .fG _=>"give"
noncomputable def ko:Rw->Bool
 | .call _ _ _=>true
 | _=>false
theorem mS{h:List ai}{r:Rw}:dX h (bM r) (.int 0)=some (.str (K3 r)):=by cases r<;>rfl
theorem BG{h:List ai}{r:Rw}:qt h (.str (K3 r)) (.str "call")=some (.bl (ko r)):=by
 cases r
 case fV w x s=>cases w<;>kernel_rfl
 all_goals kernel_rfl
theorem rw_tr{S T:Sc}{r:Rw}(hK:T.K=S.K)(hr:T.res=S.res)(hs:S.size<=T.size)(h:cF S r)(hh:ko r=true->∀(f:Str) (ps:List Ky) (res:sE) (q l s:PV),dj [.inr f] S.hk S.hv=some (.aj [q,.aj (ps.map cX),ik res,l,s])->∃q l s,gw [.inr f] T.hk=true/\dj [.inr f] T.hk T.hv=some (.aj [q,.aj (ps.map cX),ik res,l,s])):cF T r:=by
 have at_:∀{i a},KA S i a->KA T i a:=λ{i a} h=>by
  cases a with
  | aV=>trivial
  | num j=>exact h
  | Kx y=>obtain⟨n,e,h⟩:=h;exact⟨n,e,by rw[hK];exact h⟩
 have sp:∀{s d i},ee S s d i->ee T s d i:=λh=>⟨by rw[hK];exact h.k,h.t,h.p,at_ h.a⟩
 have op:∀{o},mx S o->mx T o:=λ{o} h=>by
  cases o with
  | n i=>exact h
  | s s=>obtain⟨d,i,h1,h2⟩:=h;exact⟨d,i,sp h1,h2⟩
 have jo:∀{to},TX S to->TX T to:=λh=>by exact⟨h.1,by have:=h.2;lia⟩
 have tb:∀{x res},qb S x res->qb T x res:=λ{x res} h=>by cases res<;>(unfold qb at *;first | exact h | (rw[hK];exact h))
 cases r with
 | put s o=>obtain⟨⟨d,i,h1,h2⟩,h3⟩:=h;exact⟨⟨d,i,sp h1,h2⟩,op h3⟩
 | set s g a b=>obtain⟨⟨d,i,h1,h2⟩,h3,h4,h5⟩:=h;exact⟨⟨d,i,sp h1,h2⟩,h3,op h4,op h5⟩
 | fill s o=>obtain⟨⟨d,i,h1,h2⟩,h3⟩:=h;exact⟨⟨d,i,sp h1,h2⟩,op h3⟩
 | my t s=>obtain⟨d,e,i,h1,h2,h3,h4,h5⟩:=h;exact⟨d,e,i,sp h1,h2,h3,sp h4,h5⟩
 | nC t s=>obtain⟨d,e,i,h1,h2,h3,h4,h5⟩:=h;exact⟨d,e,i,sp h1,h2,h3,sp h4,h5⟩
 | drop s=>obtain⟨d,i,h1,h2⟩:=h;exact⟨d,i,sp h1,h2⟩
 | fV w x s=>obtain⟨d,i,h1,h2,h3,h4⟩:=h;exact⟨d,i,sp h1,h2,h3,by rw[hK];exact h4⟩
 | call x f as =>
  obtain⟨ps,res,q,l,r,h1,h2,h3,h4,h5,h6⟩:=h;obtain⟨q',l',r',g1,g2⟩:=hh rfl f ps res q l r h2;exact⟨ps,res,q',l',r',g1,g2,h3,h4,λz hz=>by rw[hK];exact h5 z hz,tb h6⟩
 | Bx a b to=>exact⟨op h.1,op h.2.1,jo h.2.2⟩
 | go to=>exact jo h
 | Dp o=>exact op h
 | fG x=>show qb T x T.res;rw[hr];exact tb h
end bS
set_option maxHeartbeats 0
namespace bS
open PySem L2 L2.U
theorem qj(g:Nat->PV):∀(m n:Nat),gi n ((List.range' n m).map g)=(List.range' n m).map λi=>.aj [.int (i:Int),g i]
 | 0,_=>rfl
 | m+1,n=>by
  rw[List.range'_succ,aA,aA];show ef (.int n) (g n)::gi (n+1) ((List.range' (n+1) m).map g)=_;rw[qj g m (n+1)];rfl
theorem PK(g:Nat->PV)(m:Nat):gi 0 ((List.range m).map g)=(List.range m).map λi=>.aj [.int (i:Int),g i]:=by
 rw[List.range_eq_range'];exact qj g m 0
structure Zn (xs:List Str) (Hs:List Hd) (P:List Fd):Prop where
 l:P.length=Hs.length
 a:∀(i:Nat) (F:Fd),P[i]?=some F->∃H,Hs[i]?=some H/\F=Ql H F.rw/\1<=F.rw.length/\F.rw.length<=32/\∀r∈F.rw,cF (sg Hs H F.rw.length) r
theorem Ap{xs:List Str}(hx:xs.length=16)(vj:xs.Nodup){Hs:List Hd}(h6:Hs.length<=6)(hh:∀i H,Hs[i]?=some H->fX xs i H):(Hs.map (·.nm)).Nodup:=by
 unfold List.Nodup;rw[List.pairwise_map,List.pairwise_iff_getElem];intro i j hi hj hij e;have h1:Hs[i]?=some Hs[i]:=aR hi;have h2:Hs[j]?=some Hs[j]:=aR hj;have n1:=(hh i _ h1).nm;have n2:=(hh j _ h2).nm;rw[e,<-n2]at n1;have:=(yq (by lia) vj).mp n1
 lia
theorem Aq{α:Type}(nm:α->Str)(v:α->PV){f:Str}{w:PV}:∀{l:List α},dj [.inr f] (l.map λy=>[.inr (nm y)]) (l.map v)=some w->∃x∈l,nm x=f/\v x=w
 | [],h=>by cases h
 | y::l,h=>by
  have h:(if [(Sum.inr (nm y):cL)]=[Sum.inr f]then some (v y)else dj [.inr f] (l.map λy=>[.inr (nm y)]) (l.map v))=some w:=h
  by_cases e:nm y=f
  ·rw[if_pos (by rw[e])]at h
   exact⟨y,cy,e,bG h⟩
  ·rw[if_neg (by simpa using e)]at h
   obtain⟨x,h1,h2⟩:=Aq nm v h;exact⟨x,bY _ h1,h2⟩
theorem K4{xs:List Str}(vj:xs.Nodup)(hn:∀x∈xs,qe x){i:Nat}{H:Hd}(h:fX xs i H){R:List Rw}(h1:1<=R.length)(h2:R.length<=32):Ab (Ql H R) where
 p:=h.p
 l:=h.l
 n:=λq hq=>by
  obtain⟨m,e⟩:=h.nn;exact hn _ ((n9 m xs).subset (e▸n4 (f:=(·.1)) hq))
 d:=by
  obtain⟨m,e⟩:=h.nn;show((H.ps++H.ls).map (·.1)).Nodup;rw[e];exact vj.sublist (n9 _ _)
 r:=h.r
 w:=h1
 x:=h2
section
variable {xs:List Str} (hx:xs.length=16) (vj:xs.Nodup) (hn:∀x∈xs,qe x) {Hs:List Hd} (h6:Hs.length<=6) (hh:∀i H,Hs[i]?=some H->fX xs i H) {P:List Fd} (hP:Zn xs Hs P)
include hx vj hn h6 hh hP
theorem Hy:P.map (·.nm)=Hs.map (·.nm):=by
 refine tx λi=>?_
 rw[bg,bg];cases h:P[i]? with
 | none =>
  have:=fH.mp h;rw[gY (by rw[<-hP.l];exact this)]
  rfl
 | some F =>
  obtain⟨H,e,e2,_⟩:=hP.a i F h;rw[e,e2];rfl
theorem Hz(Q:List Fd)(hQ:∀F∈Q,F∈P):(∀F∈Q,Ab F)/\∀F∈Q,qe F.nm:=by
 have:∀F∈Q,Ab F/\qe F.nm:=λF hF=>by
  obtain⟨i,hi⟩:=lH (hQ F hF);obtain⟨H,e,e2,h1,h2,_⟩:=hP.a i F hi;have hO:=hh i H e;refine⟨e2▸K4 vj hn hO h1 h2,?_⟩;rw[e2];exact hn _ (iK hO.nm)
 exact⟨λF h=>(this F h).1,λF h=>(this F h).2⟩
theorem Ui(h1:1<=Hs.length):K2 P where
 l:=by rw[hP.l];exact h1
 m:=by rw[hP.l];exact h6
 h:=(Hz hx vj hn h6 hh hP P λF h=>h).1
 n:=(Hz hx vj hn h6 hh hP P λF h=>h).2
 d:=by rw[Hy hx vj hn h6 hh hP];exact Ap hx vj h6 hh
 f:=λF hF=>by
  obtain⟨H,e,e2,_⟩:=hP.a 0 F hF;have:=(hh 0 H e).z rfl;rw[e2];exact this
 o:=λF hF=>by
  obtain⟨i,hi⟩:=lH hF;obtain⟨H,e,e2,_⟩:=hP.a i F hi;obtain⟨q,hq,_⟩:=(hh i H e).nu;rw[e2];intro z;have z:H.ls=[]:=z;rw[z]at hq;cases hq
 r:=λF hF=>by
  obtain⟨i,hi⟩:=lH hF;obtain⟨H,e,e2,h1,h2,h3⟩:=hP.a i F hi;have eK:F.ps=H.ps/\F.ls=H.ls/\F.res=H.res:=by rw[e2];exact⟨rfl,rfl,rfl⟩
  have hd:(P.map (·.nm)).Nodup:=by rw[Hy hx vj hn h6 hh hP];exact Ap hx vj h6 hh
  refine λr hr=>rw_tr (S:=sg Hs H F.rw.length) ?_ ?_ (aq _) (h3 r hr) λhcr f ps res q l s hl=>?_
  ·show F.ps++F.ls=H.ps++H.ls;rw[eK.1,eK.2.1]
  ·exact eK.2.2
  ·obtain⟨G,hG,g1,g2⟩:=Aq (λG:Hd=>G.nm) (λG=>.aj [.str G.nm,.aj (G.ps.map cX),ik G.res,.aV,.aV]) hl
   obtain⟨j,hj⟩:=lH hG;have XI:j<P.length:=by rw[hP.l];exact(b9.mp hj).1
   have Zo:P[j]?=some P[j]:=aR XI;obtain⟨G',f1,f2,_⟩:=hP.a j _ Zo;rw[hj]at f1;cases f1;obtain⟨d1,d2⟩:=An (λG:Fd=>G.nm) fdP hd (iK Zo)
   have e3:P[j].nm=f:=by rw[f2];exact g1
   simp only[e3]at d1 d2;refine⟨.str P[j].nm,.aj (P[j].ls.map cX),.aj (P[j].rw.map bM),d1,d2.trans ?_⟩;simp only[PV.aj,PV.nd.injEq,ou,true_and,and_true]at g2;unfold fdP;rw[show P[j].ps=G.ps by rw[f2];rfl,show P[j].res=G.res by rw[f2];rfl,g2.2.1,g2.2.2.1]
end
instance:Inhabited Fd:=⟨⟨"",[],.aV,[],[]⟩⟩
theorem DJ(k:Nat){xs:List Str}(hx:xs.length=16)(vj:xs.Nodup){Hs:List Hd}(h6:Hs.length<=6)(hh:∀i H,Hs[i]?=some H->fX xs i H){cs:List Int}(hc:cs.length<=63):∃(f:Nat->Fd) (h':Nat->List ai),(∀i,i<Hs.length->run aD (k+14) "_law_function" [.lst (Hs.map fW),.int (i:Int),.lst (cs.map .int)] []=some (.ok (fdP (f i)),h' i))/\Zn xs Hs ((List.range Hs.length).map f)/\∀F∈(List.range Hs.length).map f,DF F=true:=by
 have hd:=Ap hx vj h6 hh;have hp:∀G∈Hs,G.ps.length<=4:=λG hG=>by
  obtain⟨i,hi⟩:=lH hG;exact(hh i G hi).p
 obtain⟨φ,XT⟩:=Hf (α:=Fd×List ai) (P:=λi=>i<Hs.length) (Q:=λi z=>run aD (k+14) "_law_function" [.lst (Hs.map fW),.int (i:Int),.lst (cs.map .int)] []=some (.ok (fdP z.1),z.2)/\∃H,Hs[i]?=some H/\z.1=Ql H z.1.rw/\1<=z.1.rw.length/\z.1.rw.length<=32/\(∀r∈z.1.rw,cF (sg Hs H z.1.rw.length) r)/\DF z.1=true) λi hi=>by
  have XU:Hs[i]?=some Hs[i]:=aR hi;obtain⟨R,h',r1,r2,r3,⟨x,r4⟩,r5⟩:=Ao k hx vj h6 hd hp XU (hh i _ XU) hc;exact⟨(Ql Hs[i] R,h'),r5,Hs[i],XU,rfl,r1,r2,r3,by show(match R.getLast? with | some r=>u9 r | none=>false)=true;rw[r4];rfl⟩
 refine⟨λi=>(φ i).1,λi=>(φ i).2,λi hi=>(XT i hi).1,⟨by simp,λi F h=>?_⟩,λF hF=>?_⟩
 rotate_left
 ·obtain⟨i,hi,rfl⟩:=cJ.mp hF;obtain⟨_,_,_,_,_,_,_,h⟩:=XT i (cH.mp hi);exact h
 rw[bg]at h;obtain⟨j,h1,rfl⟩:=gk.mp h;obtain⟨h2,h3⟩:=b9.mp h1;rw[List.getElem_range]at h3;subst h3;rw[eZ]at h2;obtain⟨_,H,a1,a2,a3,a4,a5,_⟩:=XT i h2;exact⟨H,a1,a2,a3,a4,a5⟩
end bS
set_option maxHeartbeats 2000000
namespace bS
open PySem L2 L2.U
theorem dy{h:List ai}{a b:Str}:qt h (.str a) (.str b)=some (.bl (a==b)):=rfl
theorem sW(c:CT){x0:Option PV}{x:Str}{d:Kn}:∀(K:List Ky) (x2 x3:Option PV),aK K x=some d->∃st,dO Q2 (mI c) (K.map cX) ⟨[x0,some (.str x),x2,x3],[]⟩=some (.ok (.rt (br d)),st)
 | [],x2,x3,h=>by cases h
 | q::K,x2,x3,h=>by
  unfold aK at h;rw[aA];by_cases e:q.1=x
  ·rw[if_pos e]at h;cases h;refine L3 ?_;simp only[↓jF,dy,show(q.1==x)=true by simp[e]]
   exact⟨_,rfl⟩
  ·rw[if_neg e]at h;obtain⟨st,hl⟩:=sW c (x0:=x0) (x:=x) (d:=d) K (some (.str q.1)) (some (br q.2)) h;refine⟨st,c9 ?_⟩;simp only[↓jF,dy,show(q.1==x)=false by simp[e],hl]
theorem aW(k:Nat){F:Fd}(hl:F.ps.length+F.ls.length<=100){x:Str}{d:Kn}(h:aK (F.ps++F.ls) x=some d):∃h',run aD (k+1) "kind_of" [fdP F,.str x] []=some (.ok (br d),h'):=by
 obtain⟨st,hk⟩:=sW (run aD k) (x0:=some (fdP F)) (F.ps++F.ls) none none h
 delta mI jz at hk
 have e1:=λh'=>TZ (f:=cX) (a:=F.ps) (b:=F.ls) (h:=h') (by lia)
 rw[wU];refine⟨st.h,?_⟩;simp only[↓aX,e1,hk]
def xG:Sx->List Sx
 | .nu=>[.nu]
 | .ow=>[.ow]
 | .st n=>[.st n]
 | .tw=>[.nu,.nu]
 | .no=>[.nu,.ow]
 | .sn n=>[.st n,.nu]
 | .tn=>[.nu,.nu,.nu]
 | .dp n=>[.nu,.nu,.ow,.st n]
 | .di=>[.nu,.nu,.ow]
 | .fo=>[.nu,.nu,.nu,.nu,.nu,.nu,.nu,.nu]
def dW(s:Sx):PV:=.aj ((xG s).map d8)
def HZ(s:Sx):List ai:=if prt s=[]then []else [⟨.lst,(xG s).map d8⟩]
theorem gT(k:Nat)(s:Sx):run aD (k+9) "leaves" [d8 s] []=some (.ok (dW s),HZ s):=by cases s<;>kernel_rfl
theorem K5(k:Nat)(s:Sx)(e:Te)(he:e∈eO s):run aD (k+9) "first" [d8 s,xT e.1] []=some (.ok (.int (e.2.1:Int)),[]):=by
 revert s e
 refine lr λs=>?_
 cases s<;>(repeat' apply And.intro)<;>first | exact True.intro | kernel_rfl
structure Ac where
 w:Str
 x:Str
 t:Bool
 f:Nat
 m:Nat
 k:Str
def gD(a:Ac):PV:=.aj [.str a.w,.str a.x,.bl a.t,.int (a.f:Int),.int (a.m:Int),.str a.k]
def fY(j:Nat)(a:Ac):PV:=.aj [.int (j:Int),.str a.w,.str a.x,.bl a.t,.int (a.f:Int),.int (a.m:Int),.str a.k]
theorem gU(s:Sx):noRef (dW s)=true:=cK xx (xG s)
structure DK (F:Fd) (S:Sc):Prop where
 K:S.K=F.ps++F.ls
 l:F.ps.length+F.ls.length<=100
theorem eN(k:Nat){F:Fd}{S:Sc}(hS:DK F S)(w y:Str){s:Sp}{d:Kn}{i:Sx}{f:Nat}(h:aK S.K s.x=some d)(hp:(s.p,f,i)∈eO (jd d)):run aD (k+12) "touch" [fdP F,.str w,eG s,.str y] []=some (.ok (gD ⟨w,s.x,s.t,f,(xG i).length,y⟩),[]):=by
 obtain⟨h1,e1⟩:=aW (k+10) hS.l (by rw[<-hS.K];exact h)
 have f1:bH h1 (br d)=some (br d):=aN (eI d);have e2:=λk=>G1 k _ _ hp
 have e3:=λk=>K5 k _ _ hp
 have f2:bH (HZ i) (dW i)=some (dW i):=aN (gU i);have e4:=λk=>gT k i
 have e5:∀h,gH h [dW i]=some (.int ((xG i).length:Nat)):=λh=>iq
 simp only at e2 e3;rw[Dd];simp only[↓aX,e1,f1,ki,e2,e3,e4,f2,e5];rfl
end bS
set_option maxHeartbeats 2000000
namespace bS
open PySem L2 L2.U
def qk:Rw->Bool
 | .call _ _ _=>true
 | .fG _=>true
 | _=>false
def Ar:Rw->Bool
 | .my _ _=>true
 | _=>false
def ml(i:Sx):Nat:=(xG i).length
inductive vk (K:List Ky) (r:Rw):Ac->Prop
 | rd {x d p f i}:aK K x=some d->(p,f,i)∈eO (jd d)->qk r=false->(Ar r=true->xU i=true)->vk K r ⟨"read",x,eU d,f,ml i,""⟩
 | fl {x d p f i}:aK K x=some d->(p,f,i)∈eO (jd d)->iz d=true->vk K r ⟨"fill",x,eU d,f,ml i,""⟩
 | tn {x d p f n}:aK K x=some d->(p,f,.st n)∈eO (jd d)->iz d=true->vk K r ⟨"turn",x,eU d,f,1,""⟩
 | em {x s p f i}:aK K x=some (.ow s)->(p,f,i)∈eO s->qk r=false->vk K r ⟨"empty",x,false,f,ml i,""⟩
 | ln {w x d p f i y s}:aK K x=some d->(p,f,i)∈eO (jd d)->r=.fV w y s->aK K y=some (.ho w i)->(w=true->iz d=true)->vk K r ⟨qY w,x,eU d,f,ml i,y⟩
 | ca {w x s y g as} {j:Nat}:aK K x=some (.ho w s)->r=.call y g as->as[j]?=some x->vk K r ⟨qY w,x,true,0,ml s,Str.ofString (toString (j:Int))⟩
 | ow {x s}:aK K x=some (.ow s)->qk r=true->vk K r ⟨if xU s then "read" else "empty",x,false,0,ml s,""⟩
 | gv {w x s}:aK K x=some (.ho w s)->r=.fG x->vk K r ⟨"give",x,true,0,ml s,""⟩
 | hd:ko r=true->vk K r ⟨"hand","",false,0,0,""⟩
 | rs:vk K r ⟨"rest","",false,0,0,""⟩
 | tk {y g as}:r=.call y g as->vk K r ⟨"take","",false,0,0,y⟩
theorem qJ{a b:List Ac}{h:List ai}(hl:a.length+b.length<=1000):jt h (.lst (a.map gD)) (.lst (b.map gD))=some (.lst ((a++b).map gD)):=by
 show U.sizeOk _ _=_;unfold U.sizeOk;rw[if_pos (show _<=gV from(by rw[ah,ah];exact aM hl (by decide))),bQ]
theorem ir(s:Sx):(([],0,s):Te)∈eO s:=by cases s<;>exact cy
section
variable {F:Fd} {S:Sc} (hS:DK F S) {r:Rw}
include hS
theorem lB(k:Nat)(w y:Str){x:Str}{d:Kn}(h:aK S.K x=some d):run aD (k+13) "touch_whole" [fdP F,.str w,.str x,.str y] []=some (.ok (gD ⟨w,x,eU d,0,ml (jd d),y⟩),[]):=by
 obtain⟨h1,e1⟩:=aW (k+11) hS.l (by rw[<-hS.K];exact h)
 have f1:bH h1 (br d)=some (br d):=aN (eI d);have e2:∀k,run aD (k+12) "touch" [fdP F,.str w,.aj [.str x,.bl (eU d),.aj [],.aV],.str y] []=some (.ok (gD ⟨w,x,eU d,0,ml (jd d),y⟩),[]):=λk=>eN k hS w y (s:=⟨x,eU d,[],.aV⟩) h (ir _)
 rw[nA];simp only[↓aX,e1,f1,cw,e2]
theorem sX(k:Nat)(h1:qk r=false)(h2:Ar r=false){s:Sp}{d:Kn}{i:Sx}(h:ee S s d i):∃As:List Ac,run aD (k+14) "at_acts" [fdP F,eG s] []=some (.ok (.lst (As.map gD)),[])/\As.length<=1/\∀a∈As,vk S.K r a:=by
 obtain⟨x,t,p,a⟩:=s;rw[xh];cases a with
 | aV=>exact⟨[],by simp only[↓aX];rfl,by simp,λa ha=>by cases ha⟩
 | num j=>exact⟨[],by simp only[↓aX];rfl,by simp,λa ha=>by cases ha⟩
 | Kx y =>
  obtain⟨n,rfl,hy⟩:=h.a;have e:∀k,run aD (k+13) "touch_whole" [fdP F,.str "read",Kz (.Kx y),.str ""] []=some (.ok (gD ⟨"read",y,eU (.ow .nu),0,ml .nu,""⟩),[]):=λk=>lB hS k "read" "" hy
  refine⟨[⟨"read",y,eU (.ow .nu),0,ml .nu,""⟩],by simp only[↓aX,e];rfl,by simp,λa ha=>?_⟩
  rw[bF.mp ha];exact .rd hy (ir _) h1 λz=>by rw[h2]at z;cases z
theorem b7(k:Nat)(h1:qk r=false)(h2:Ar r=false){o:Op}(h:mx S o):∃As:List Ac,run aD (k+15) "operand_acts" [fdP F,nN o] []=some (.ok (.lst (As.map gD)),[])/\As.length<=2/\∀a∈As,vk S.K r a:=by
 rw[mv];cases o with
 | n i=>exact⟨[],by simp only[↓aX,nN];rfl,by simp,λa ha=>by cases ha⟩
 | s s =>
  obtain⟨d,i,hs,hn⟩:=h;obtain⟨As,a1,a2,a3⟩:=sX hS k h1 h2 hs;obtain⟨f,hp⟩:=hs.p;have e:=λk=>eN k hS "read" "" hs.k hp
  have e2:=λh=>qJ (a:=As) (b:=[⟨"read",s.x,s.t,f,(xG i).length,""⟩]) (h:=h) (by simp;lia)
  refine⟨As++[⟨"read",s.x,s.t,f,(xG i).length,""⟩],?_,by simp;lia,λa ha=>?_⟩
  ·simp only[aA,bI]at e2;simp only[↓aX,nN,a1,e,e2]
  ·rcases cB.mp ha with ha | ha
   ·exact a3 a ha
   ·rw[bF.mp ha,hs.t];exact .rd hs.k hp h1 λz=>by rw[h2]at z;cases z
theorem gC(k:Nat)(h1:qk r=false)(h2:Ar r=false){s:Sp}{d:Kn}{i:Sx}(h:ee S s d i)(hw:iz d=true):∃As:List Ac,run aD (k+15) "target_acts" [fdP F,eG s] []=some (.ok (.lst (As.map gD)),[])/\As.length<=2/\∀a∈As,vk S.K r a:=by
 obtain⟨f,hp⟩:=h.p;rw[nB];by_cases ha:s.a=.aV
 ·have e:=λk=>eN k hS "fill" "" h.k hp
  have ea:∀h,dX h (eG s) (.int 3)=some .aV:=λh=>by unfold eG;rw[ha];rfl
  refine⟨[⟨"fill",s.x,s.t,f,(xG i).length,""⟩],by simp only[↓aX,ea,e];rfl,by simp,λa hz=>?_⟩
  rw[bF.mp hz,h.t];exact .fl h.k hp hw
 ·obtain⟨As,a1,a2,a3⟩:=sX hS k h1 h2 h;have e:=λk=>eN k hS "turn" "" h.k hp
  obtain⟨n,hi⟩:∃n,i=.st n:=by
   have:=h.a;cases hs:s.a with
   | aV=>exact absurd hs ha
   | num j=>rw[hs]at this;obtain⟨n,z,_⟩:=this;exact⟨n,z⟩
   | Kx y=>rw[hs]at this;obtain⟨n,z,_⟩:=this;exact⟨n,z⟩
  subst hi;have e2:=λh=>qJ (a:=As) (b:=[⟨"turn",s.x,s.t,f,(xG (.st n)).length,""⟩]) (h:=h) (by simp;lia)
  have ea:∀h,dX h (eG s) (.int 3)=some (Kz s.a):=λh=>rfl
  have en:jD (Kz s.a)=false:=by
   cases hs:s.a with
   | aV=>exact absurd hs ha
   | num j=>rfl
   | Kx y=>rfl
  refine⟨As++[⟨"turn",s.x,s.t,f,(xG (.st n)).length,""⟩],?_,by simp;lia,λa hz=>?_⟩
  ·simp only[aA,bI]at e2;simp only[↓aX,ea,en,a1,e,e2]
  ·rcases cB.mp hz with hz | hz
   ·exact a3 a hz
   ·rw[bF.mp hz,h.t];exact .tn h.k hp hw
end
end bS
set_option maxHeartbeats 2000000
namespace bS
open PySem L2 L2.U
def HA:Rw->Str
 | .put _ _=>"put_acts"
 | .set _ _ _ _=>"set_acts"
 | .fill _ _=>"put_acts"
 | .my _ _=>"copy_acts"
 | .nC _ _=>"move_acts"
 | .drop _=>"drop_acts"
 | .fV _ _ _=>"lend_acts"
 | .call _ _ _=>"call_acts"
 | .Bx _ _ _=>"if_acts"
 | .go _=>"go_acts"
 | .Dp _=>"say_acts"
 | .fG _=>"give_acts"
theorem xH:∀{K:List Ky} {x:Str} {d:Kn},aK K x=some d->∃q∈K,q.1=x
 | [],_,_,h=>by cases h
 | r::l,x,d,h=>by
  unfold aK at h;by_cases e:r.1=x
  ·exact⟨r,cy,e⟩
  ·rw[if_neg e]at h;obtain⟨q,h1,h2⟩:=xH h;exact⟨q,bY _ h1,h2⟩
section
variable {F:Fd} {S:Sc} (hS:DK F S) (hN:∀q∈S.K,q.1≠"") {r:Rw}
include hS hN
theorem d7{x:Str}{d:Kn}(h:aK S.K x=some d):(x=="")=false:=by
 obtain⟨q,h1,h2⟩:=xH h;rw[g7,<-h2];exact hN q h1
theorem BH(k:Nat){x:Str}{s:Sx}(h:aK S.K x=some (.ow s)):run aD (k+14) "owner_act" [fdP F,.str x] []=some (.ok (gD ⟨if xU s then "read" else "empty",x,false,0,ml s,""⟩),[]):=by
 obtain⟨h1,e1⟩:=aW (k+12) hS.l (by rw[<-hS.K];exact h)
 have f1:bH h1 (br (.ow s))=some (br (.ow s)):=aN (eI _);have e2:∀k,run aD (k+9) "is_copied" [br (.ow s)] []=some (.ok (.bl (xU s)),[]):=λk=>je k s
 have e3:=λk w=>lB hS k w "" h
 rw[qU];cases hc:xU s with
 | false =>
  rw[hc]at e2;simp only[↓aX,e1,f1,e2,e3];rfl
 | true =>
  rw[hc]at e2;simp only[↓aX,e1,f1,e2,e3];rfl
theorem PL(k:Nat)(h:cF S r)(hc:ko r=false):∃As:List Ac,run aD (k+16) (HA r) [fdP F,bM r] []=some (.ok (.lst (As.map gD)),[])/\As.length<=20/\∀a∈As,vk S.K r a:=by
 cases r with
 | put s o =>
  obtain⟨⟨d,i,h1,h2,h3⟩,h4⟩:=h;obtain⟨A,a1,a2,a3⟩:=b7 hS (r:=.put s o) k rfl rfl h4;obtain⟨B,b1,b2,b3⟩:=gC hS (r:=.put s o) k rfl rfl h1 h3;have e:=λh=>qJ (a:=A) (b:=B) (h:=h) (by lia)
  refine⟨A++B,?_,by simp;lia,λa ha=>(cB.mp ha).elim (a3 a) (b3 a)⟩
  show run aD (k+16) "put_acts" _ _=_;rw[lp];simp only[↓aX,a1,b1,e]
 | set s g x y =>
  obtain⟨⟨d,i,h1,h2,h3⟩,_,h4,h5⟩:=h;obtain⟨A,a1,a2,a3⟩:=b7 hS (r:=.set s g x y) k rfl rfl h4;obtain⟨C,c1,c2,c3⟩:=b7 hS (r:=.set s g x y) k rfl rfl h5;obtain⟨B,b1,b2,b3⟩:=gC hS (r:=.set s g x y) k rfl rfl h1 h3;have e:=λh=>qJ (a:=A) (b:=C) (h:=h) (by lia)
  have e2:=λh=>qJ (a:=A++C) (b:=B) (h:=h) (by simp;lia)
  refine⟨A++C++B,?_,by simp;lia,λa ha=>(cB.mp ha).elim (λha=>(cB.mp ha).elim (a3 a) (c3 a)) (b3 a)⟩
  show run aD (k+16) "set_acts" _ _=_;rw[uX];simp only[↓aX,a1,b1,c1,e,e2]
 | fill s o =>
  obtain⟨⟨d,n,h1,h2,h3⟩,h4⟩:=h;obtain⟨A,a1,a2,a3⟩:=b7 hS (r:=.fill s o) k rfl rfl h4;obtain⟨B,b1,b2,b3⟩:=gC hS (r:=.fill s o) k rfl rfl h1 h3;have e:=λh=>qJ (a:=A) (b:=B) (h:=h) (by lia)
  refine⟨A++B,?_,by simp;lia,λa ha=>(cB.mp ha).elim (a3 a) (b3 a)⟩
  show run aD (k+16) "put_acts" _ _=_;rw[lp];simp only[↓aX,a1,b1,e]
 | my t s =>
  obtain⟨d,e,i,h1,h2,h3,h4,h5,h6⟩:=h;obtain⟨f,hp⟩:=h1.p;obtain⟨g,hq⟩:=h4.p;have e1:=λk=>eN k hS "fill" "" h1.k hp
  have e2:=λk=>eN k hS "read" "" h4.k hq
  refine⟨[⟨"read",s.x,s.t,g,(xG i).length,""⟩,⟨"fill",t.x,t.t,f,(xG i).length,""⟩],?_,by simp,λa ha=>?_⟩
  ·show run aD (k+16) "copy_acts" _ _=_;rw[qP];simp only[↓aX,e1,e2];rfl
  ·simp only[bh,cY,c8]at ha;rcases ha with rfl | rfl
   ·rw[h4.t];exact .rd h4.k hq rfl λ_=>h6
   ·rw[h1.t];exact .fl h1.k hp h3
 | nC t s =>
  obtain⟨d,e,i,h1,h2,h3,h4,h5,h6⟩:=h;obtain⟨f,hp⟩:=h1.p;obtain⟨g,hq⟩:=h4.p;have e1:=λk=>eN k hS "fill" "" h1.k hp
  have e2:=λk=>eN k hS "empty" "" h4.k hq
  refine⟨[⟨"empty",s.x,s.t,g,(xG i).length,""⟩,⟨"fill",t.x,t.t,f,(xG i).length,""⟩],?_,by simp,λa ha=>?_⟩
  ·show run aD (k+16) "move_acts" _ _=_;rw[qQ];simp only[↓aX,e1,e2];rfl
  ·simp only[bh,cY,c8]at ha;rcases ha with rfl | rfl
   ·rw[h4.t,h6];cases e with
    | ow s'=>exact .em h4.k hq rfl
    | ho w s'=>cases h6
   ·rw[h1.t];exact .fl h1.k hp h3
 | drop s =>
  obtain⟨e,i,h4,h5,h6⟩:=h;obtain⟨g,hq⟩:=h4.p;have e2:=λk=>eN k hS "empty" "" h4.k hq
  refine⟨[⟨"empty",s.x,s.t,g,(xG i).length,""⟩],?_,by simp,λa ha=>?_⟩
  ·show run aD (k+16) "drop_acts" _ _=_;rw[qR];simp only[↓aX,e2];rfl
  ·rw[bF.mp ha,h4.t,h6];cases e with
   | ow s'=>exact .em h4.k hq rfl
   | ho w s'=>cases h6
 | fV w y s =>
  obtain⟨d,i,h1,h2,h3,h4⟩:=h;obtain⟨f,hp⟩:=h1.p;have e2:=λk=>eN k hS (qY w) y h1.k hp
  refine⟨[⟨qY w,s.x,s.t,f,(xG i).length,y⟩],?_,by simp,λa ha=>?_⟩
  ·show run aD (k+16) "lend_acts" _ _=_;rw[qS];simp only[↓aX,e2];rfl
  ·rw[bF.mp ha,h1.t];exact .ln h1.k hp rfl h4 h3
 | call x f as=>cases hc
 | Bx x y to =>
  obtain⟨h4,h5,_⟩:=h;obtain⟨A,a1,a2,a3⟩:=b7 hS (r:=.Bx x y to) k rfl rfl h4;obtain⟨C,c1,c2,c3⟩:=b7 hS (r:=.Bx x y to) k rfl rfl h5;have e:=λh=>qJ (a:=A) (b:=C) (h:=h) (by lia)
  refine⟨A++C,?_,by simp;lia,λa ha=>(cB.mp ha).elim (a3 a) (c3 a)⟩
  show run aD (k+16) "if_acts" _ _=_;rw[xj];simp only[↓aX,a1,c1,e]
 | go to =>
  refine⟨[],?_,by simp,λa ha=>by cases ha⟩
  show run aD (k+16) "go_acts" _ _=_;rw[xk];simp only[↓aX];rfl
 | Dp o =>
  obtain⟨A,a1,a2,a3⟩:=b7 hS (r:=.Dp o) k rfl rfl h;refine⟨A,?_,by lia,a3⟩
  show run aD (k+16) "say_acts" _ _=_;rw[uY];simp only[↓aX,a1]
 | fG x =>
  have h:qb S x S.res:=h;show ∃As:List Ac,run aD (k+16) "give_acts" _ _=_/\_
  have own:∀s,aK S.K x=some (.ow s)->∃As:List Ac,run aD (k+16) "give_acts" [fdP F,bM (.fG x)] []=some (.ok (.lst (As.map gD)),[])/\As.length<=20/\∀a∈As,vk S.K (.fG x) a:=λs hx=>by
   obtain⟨h1,e1⟩:=aW (k+14) hS.l (by rw[<-hS.K];exact hx)
   have f1:bH h1 (br (.ow s))=some (br (.ow s)):=aN (eI _);have e2:∀k,run aD (k+1) "is_holder" [br (.ow s)] []=some (.ok (.bl false),[]):=λk=>cw k _
   have e3:=λk=>BH hS hN k hx
   refine⟨[⟨if xU s then "read" else "empty",x,false,0,ml s,""⟩],?_,by simp,λa ha=>?_⟩
   ·rw[gz];simp only[↓aX,dy,d7 hS hN hx,e1,f1,e2,e3];rfl
   ·rw[bF.mp ha];exact .ow hx rfl
  cases hr:S.res with
  | aV =>
   rw[hr]at h;have h:x="":=h;subst h;exact⟨[],by rw[gz];simp only[↓aX,dy];rfl,by simp,λa ha=>by cases ha⟩
  | own s=>rw[hr]at h;exact own s h
  | m9 w s l =>
   rw[hr]at h;have hx:aK S.K x=some (.ho w s):=h;obtain⟨h1,e1⟩:=aW (k+14) hS.l (by rw[<-hS.K];exact hx)
   have f1:bH h1 (br (.ho w s))=some (br (.ho w s)):=aN (eI _);have e2:∀k,run aD (k+1) "is_holder" [br (.ho w s)] []=some (.ok (.bl true),[]):=λk=>cw k _
   have e3:=λk=>lB hS k "give" "" hx
   refine⟨[⟨"give",x,true,0,ml s,""⟩],?_,by simp,λa ha=>?_⟩
   ·rw[gz];simp only[↓aX,dy,d7 hS hN hx,e1,f1,e2,e3];rfl
   ·rw[bF.mp ha];exact .gv hx rfl
end
end bS
set_option maxHeartbeats 2000000
namespace bS
open PySem L2 L2.U
def Zr(p:PV):Gx PV:=λst=>match p with
 | .nd .lst qs=>ia ⟨.lst,qs⟩ st
 | _=>none
theorem ql(link:List (Option Nat))(fi:Gx zw)(bd:Bd):fR true link fi bd=bnd (fR false link fi bd) Zr:=by
 funext st
 unfold fR bnd;cases fi st with
 | none=>rfl
 | some r =>
  obtain⟨r,aI⟩:=r;cases r with
  | ok s =>
   show(Ba (bd (cR link aI.ρ)) aI.h s).bind (Bb true aI.ρ)=((Ba (bd (cR link aI.ρ)) aI.h s).bind (Bb false aI.ρ)).bind (Nb Zr);cases Ba (bd (cR link aI.ρ)) aI.h s<;>rfl
  | ex m C=>rfl
def mC(j:Nat):Str:=Str.ofString (toString (j:Int))
def nD(K:List Ky)(x:Str)(j:Nat):Ac:=match aK K x with
 | some (.ow s)=>⟨if xU s then "read" else "empty",x,false,0,ml s,""⟩
 | some (.ho w s)=>⟨qY w,x,true,0,ml s,mC j⟩
 | none=>⟨"",x,false,0,0,""⟩
theorem L5(a:Ac):noRef (gD a)=true:=by simp[gD,noRef,aE]
theorem HB{l:List PV}(h:aE l=true):noRef (.lst l)=true:=by rw[noRef];exact h
def Qm(x:Str)(s:Sx):Ac:=⟨"fill",x,false,0,ml s,""⟩
def PM(x:Str):Ac:=⟨"take","",false,0,0,x⟩
abbrev Qn:PV:=.aj [.str "hand",.str "",.bl false,.int 0,.int 0,.str ""]
abbrev HC:Ac:=⟨"hand","",false,0,0,""⟩
theorem PN(as:List Str):gi 0 (as.map PV.str)=(List.range as.length).map λj=>.aj [.int (j:Int),.str (as.getD j "")]:=by
 have e:as.map PV.str=(List.range as.length).map λj=>PV.str (as.getD j ""):=by
  refine tx λi=>?_
  rw[bg,bg];by_cases hi:i<as.length
  ·rw[aR hi,n0 hi];simp[iG,aR hi]
  ·rw[gY (jO hi),gY (by simpa using jO hi)]
   rfl
 rw[e,PK]
structure HE (K:List Ky) (x:Str) (as:List Str) (As:List Ac):Prop where
 e:∃T,As=(List.range as.length).map (λj=>nD K (as.getD j "") j)++HC::T/\(T=[]/\x=""\/(∃w s,T=[PM x]/\aK K x=some (.ho w s))\/∃s,T=[Qm x s]/\aK K x=some (.ow s))
section
variable {F:Fd} {S:Sc} (hS:DK F S) (hN:∀q∈S.K,q.1≠"")
include hS hN
theorem Uj(k:Nat){x:Str}{d:Kn}(h:aK S.K x=some d)(j:Nat):run aD (k+15) "arg_act" [fdP F,.str x,.str (mC j)] []=some (.ok (gD (nD S.K x j)),[]):=by
 obtain⟨h1,e1⟩:=aW (k+13) hS.l (by rw[<-hS.K];exact h)
 have f1:bH h1 (br d)=some (br d):=aN (eI d);have e2:=λk=>cw k d
 have e4:=λk w=>lB hS k w (mC j) h
 rw[xi];unfold nD;rw[h];cases d with
 | ow s =>
  have e3:=λk=>BH hS hN k h
  have e2:∀k,run aD (k+1) "is_holder" [br (.ow s)] []=some (.ok (.bl false),[]):=e2
  simp only[↓aX,e1,f1,e2,e3]
 | ho w s =>
  have e2:∀k,run aD (k+1) "is_holder" [br (.ho w s)] []=some (.ok (.bl true),[]):=e2
  have e5:∀h',dX h' (br (.ho w s)) (.int 0)=some (.str (sy w)):=λh'=>gB (d:=.ho w s)
  cases w with
  | false =>
   have e5:∀h',dX h' (br (.ho false s)) (.int 0)=some (.str "lent"):=e5
   simp only[↓aX,e1,f1,e2,e4,e5];rfl
  | true =>
   have e5:∀h',dX h' (br (.ho true s)) (.int 0)=some (.str "sole"):=e5
   simp only[↓aX,e1,f1,e2,e4,e5];rfl
theorem xI(k:Nat){x g:Str}{as:List Str}(h:cF S (.call x g as))(ha:as.length<=100):∃(As:List Ac) (p:PV) (h':List ai),HE S.K x as As/\As.length<=200/\bH h' p=some (.lst (As.map gD))/\run aD (k+16) "call_acts" [fdP F,bM (.call x g as)] []=some (.ok p,h'):=by
 obtain⟨ps,res,q,l,r,_,_,h3,h4,h5,h6⟩:=h;have hk:∀j∈List.range as.length,∃d,aK S.K (as.getD j "")=some d:=λj hj=>by
  have hj:=cH.mp hj;have hp:j<ps.length:=by lia
  refine⟨ps[j].2,h5 (as.getD j "",ps[j]) ?_⟩;rw[lG];refine⟨j,?_⟩;rw[List.getElem?_zip_eq_some];exact⟨by rw[aR hj,iG,aR hj];rfl,aR hp⟩
 have e1:∀k,∀j∈List.range as.length,run aD (k+15) "arg_act" [fdP F,.str (as.getD j ""),.str (mC j)] []=some (.ok (gD (nD S.K (as.getD j "") j)),[]):=λk j hj=>by
  obtain⟨d,hd⟩:=hk j hj;exact Uj hS hN k hd j
 have e2:∀j∈List.range as.length,∀h,Ck h [.int (j:Int)]=some (.str (mC j)):=λj hj h=>by
  have:=cH.mp hj;show(if 0<=(j:Int)/\(j:Int)<1000 then some (PV.str (toString (j:Int)))else none)=_
  rw[if_pos (by lia)]
  rfl
 have e3:=PN as;have e4:(List.range as.length).length<=4000000:=by rw[eZ];lia
 obtain⟨A,hA⟩:∃A:List Ac,A=(List.range as.length).map (λj=>nD S.K (as.getD j "") j):=⟨_,rfl⟩
 have Al:A.length=as.length:=by rw[hA];simp
 have e5:=λρ v=>@q8 ρ (A.map gD) v (by rw[ah];lia)
 have eA:(List.range as.length).map (λj=>gD (nD S.K (as.getD j "") j))=A.map gD:=by rw[hA,cC];rfl
 rw[qT];simp only[bM];cases res with
 | aV =>
  have hx:x="":=h6;subst hx;refine⟨A++[HC],.ref 0,[⟨.lst,(A++[HC]).map gD⟩],⟨⟨[],by rw[hA],.inl ⟨rfl,rfl⟩⟩⟩,by simp;lia,dE (cK (λa=>by simp[gD,noRef,aE]) _),?_⟩
  rw[ql];simp only[↓aX,e1,e2,e3,e4,e5,eA,dy,ah];simp;rfl
 | own s =>
  have hx:aK S.K x=some (.ow s):=h6;obtain⟨h1,e6⟩:=aW (k+14) hS.l (by rw[<-hS.K];exact hx)
  have f1:bH h1 (br (.ow s))=some (br (.ow s)):=aN (eI _);have e7:∀k,run aD (k+1) "is_holder" [br (.ow s)] []=some (.ok (.bl false),[]):=λk=>cw k _
  have e8:=λk=>lB hS k "fill" "" hx
  have H0:∀v,jt [⟨.lst,A.map gD++[Qn]⟩] (.ref 0) (.lst [v])=some (.lst (A.map gD++[Qn]++[v])):=λv=>if_pos (show _<=gV from aM (show(A.map gD++[Qn]).length+1<=1000 by simp;lia) (by decide))
  refine⟨A++[HC]++[Qm x s],.lst ((A++[HC]++[Qm x s]).map gD),[⟨.lst,A.map gD++[gD HC]⟩],⟨⟨[Qm x s],by rw[hA];simp,.inr (.inr ⟨s,rfl,hx⟩)⟩⟩,by simp;lia,aN (HB (cK L5 _)),?_⟩
  rw[ql];simp only[↓aX,e1,e2,e3,e4,e5,e6,e7,e8,H0,f1,eA,dy,ah,d7 hS hN hx,aE,noRef,sP,eI];simp
  (repeat' apply And.intro)<;>rfl
 | m9 w s l =>
  have hx:aK S.K x=some (.ho w s):=h6;obtain⟨h1,e6⟩:=aW (k+14) hS.l (by rw[<-hS.K];exact hx)
  have f1:bH h1 (br (.ho w s))=some (br (.ho w s)):=aN (eI _);have e7:∀k,run aD (k+1) "is_holder" [br (.ho w s)] []=some (.ok (.bl true),[]):=λk=>cw k _
  have H0:∀v,jt [⟨.lst,A.map gD++[Qn]⟩] (.ref 0) (.lst [v])=some (.lst (A.map gD++[Qn]++[v])):=λv=>if_pos (show _<=gV from aM (show(A.map gD++[Qn]).length+1<=1000 by simp;lia) (by decide))
  refine⟨A++[HC]++[PM x],.lst ((A++[HC]++[PM x]).map gD),[⟨.lst,A.map gD++[gD HC]⟩],⟨⟨[PM x],by rw[hA];simp,.inr (.inl ⟨w,s,rfl,hx⟩)⟩⟩,by simp;lia,aN (HB (cK L5 _)),?_⟩
  rw[ql];simp only[↓aX,e1,e2,e3,e4,e5,e6,e7,H0,f1,eA,dy,ah,d7 hS hN hx,aE,noRef,sP,eI];simp
  (repeat' apply And.intro)<;>rfl
end
end bS
set_option maxHeartbeats 2000000
namespace bS
open PySem L2 L2.U
abbrev Zs:Ac:=⟨"rest","",false,0,0,""⟩
def xV(A:List Ac):List Ac:=if A.isEmpty then [Zs]else A
structure K6 (K:List Ky) (r:Rw) (A:List Ac):Prop where
 f:∀a∈A,vk K r a
 c:∀x g as,r=.call x g as->HE K x as A
 l:A.length<=200
def eJ:Nat->List (List Ac)->List (Nat×Ac)
 | _,[]=>[]
 | j,A::T=>A.map (λa=>(j,a))++eJ (j+1) T
def sY(z:Nat×Ac):PV:=fY z.1 z.2
theorem xJ:∀(T:List (List Ac)) (j:Nat),(∀A∈T,A.length<=200)->(eJ j T).length<=200*T.length
 | [],_,_=>by simp[eJ]
 | A::T,j,h=>by
  have h1:=h A cy;have h2:=xJ T (j+1) λB hB=>h B (bY _ hB)
  simp only[eJ,cz,ah,bZ]
  lia
theorem qm:∀(T:List (List Ac)) (j:Nat) (z:Nat×Ac),z∈eJ j T->∃i A,T[i]?=some A/\z.1=j+i/\z.2∈A
 | [],_,_,h=>by cases h
 | A::T,j,z,h=>by
  rcases cB.mp h with h | h
  ·obtain⟨a,ha,rfl⟩:=cJ.mp h;exact⟨0,A,rfl,rfl,ha⟩
  ·obtain⟨i,B,h1,h2,h3⟩:=qm T (j+1) z h;exact⟨i+1,B,h1,by lia,h3⟩
theorem mT:∀(T:List (List Ac)) (j i:Nat) (A:List Ac),T[i]?=some A->(eJ j T).filter (λz=>z.1==j+i)=A.map λa=>(j+i,a)
 | [],_,_,_,h=>by cases h
 | B::T,j,0,A,h=>by
  cases h;have h2:(eJ (j+1) T).filter (λz=>z.1==j+0)=[]:=by
   rw[List.filter_eq_nil_iff];intro z hz;obtain⟨i,_,_,e,_⟩:=qm T (j+1) z hz;simp;lia
  simp only[eJ,List.filter_append,h2,fq];rw[List.filter_eq_self.mpr]
  ·rfl
  ·intro z hz;obtain⟨a,_,rfl⟩:=cJ.mp hz;simp
 | B::T,j,i+1,A,h=>by
  have h2:(B.map λa=>(j,a)).filter (λz=>z.1==j+(i+1))=[]:=by
   rw[List.filter_eq_nil_iff];intro z hz;obtain⟨a,_,rfl⟩:=cJ.mp hz;simp
  have:=mT T (j+1) i A h;simp only[eJ,List.filter_append,h2,et];rw[show j+(i+1)=j+1+i by lia]
  exact this
section
variable {F:Fd} {S:Sc} (hS:DK F S) (hN:∀q∈S.K,q.1≠"")
include hS hN
theorem Au(k:Nat){r:Rw}(h:cF S r)(hl:∀x g as,r=.call x g as->as.length<=100):∃(A:List Ac) (p:PV) (h':List ai),K6 S.K r (xV A)/\bH h' p=some (.lst (A.map gD))/\run aD (k+16) (HA r) [fdP F,bM r] []=some (.ok p,h'):=by
 cases hc:ko r with
 | false =>
  obtain⟨A,a1,a2,a3⟩:=PL hS hN k h hc;refine⟨A,_,[],⟨λa ha=>?_,(λx g as e=>by rw[e]at hc;cases hc),?_⟩,rfl,a1⟩
  ·unfold xV at ha;split at ha
   ·rw[bF.mp ha];exact .rs
   ·exact a3 a ha
  ·unfold xV;split
   ·simp
   ·lia
 | true =>
  cases r with
  | call x g as =>
   obtain⟨A,p,h',a1,a2,a3,a4⟩:=xI hS hN k h (hl x g as rfl);have hne:xV A=A:=by
    obtain⟨T,e,_⟩:=a1.e;unfold xV;rw[e];simp
   refine⟨A,p,h',hne.symm▸⟨λa ha=>?_,(λx' g' as' e=>by cases e;exact a1),a2⟩,a3,a4⟩
   obtain⟨T,e,hT⟩:=a1.e;obtain⟨ps,res,q,l,r',_,_,h3,h4,h5,h6⟩:=h;rw[e]at ha;rcases cB.mp ha with ha | ha
   ·obtain⟨j,hj,rfl⟩:=cJ.mp ha;have hj:=cH.mp hj;have hx:as[j]?=some (as.getD j ""):=by rw[iG,aR hj];rfl
    have hp:j<ps.length:=by lia
    have hk:=h5 (as.getD j "",ps[j]) (by
     rw[lG];exact⟨j,by rw[List.getElem?_zip_eq_some];exact⟨hx,aR hp⟩⟩)
    unfold nD;rw[hk];cases hd:ps[j].2 with
    | ow s=>rw[hd]at hk;exact .ow hk rfl
    | ho w s=>rw[hd]at hk;exact .ca hk rfl hx
   ·rcases bh.mp ha with rfl | ha
    ·exact .hd rfl
    ·rcases hT with⟨rfl,_⟩ | ⟨w,s,rfl,hx⟩ | ⟨s,rfl,hx⟩
     ·cases ha
     ·rw[bF.mp ha];exact .tk rfl
     ·rw[bF.mp ha];exact .fl (d:=.ow s) hx (ir _) rfl
  | _=>cases hc
end
end bS
set_option maxHeartbeats 4000000
namespace bS
open PySem L2 L2.U
def L6(s:Sx):Te:=(eO s).getLastD ([],0,s)
theorem K7(k:Nat)(s:Sx):run aD (k+9) "paths" [d8 s] []=some (.ok (.ref 0),[⟨.lst,(eO s).map λe=>xT e.1⟩]):=by cases s<;>kernel_rfl
theorem vm(k:Nat)(x0:Option PV)(j w x t y:PV)(s:Sx)(e:Te)(he:e∈eO s):dO (cg 4) (lq (run aD (k+9))) ((eO s).map λe=>xT e.1) ⟨[x0,some (.aj [j,w,x,t,.int (e.2.1:Int),.int (ml e.2.2:Int),y]),some (d8 s),some (.ref 0),none,none],[⟨.lst,[]⟩]⟩=some (.ok .nx,⟨[x0,some (.aj [j,w,x,t,.int (e.2.1:Int),.int (ml e.2.2:Int),y]),some (d8 s),some (.ref 0),some (xT (L6 s).1),some (d8 (L6 s).2.2)],[⟨.lst,((eO s).filter λz=>z.2.1==e.2.1&&ml z.2.2==ml e.2.2).map λz=>dW z.2.2⟩]⟩):=by
 revert s e
 refine lr λs=>?_
 cases s<;>(repeat' apply And.intro)<;>first | exact True.intro | kernel_rfl
theorem PQ{h:List ai}(s:Sx)(e:Te)(he:e∈eO s):E9 h (some (e.2.1:Int)) (some ((e.2.1:Int)+(ml e.2.2:Int))) (dW s)=some (dW e.2.2):=by
 revert s e
 refine lr λs=>?_
 cases s<;>(repeat' apply And.intro)<;>first | exact True.intro | kernel_rfl
theorem toT_lv{h:List ai}{n:Nat}(s:Sx):∃t,toT h (n+6) (dW s)=some t:=by cases s<;>exact⟨_,rfl⟩
theorem BI{h:List ai}{n:Nat}:∀L:List Te,∃ts,aQ (toT h (n+6)) (L.map λz=>dW z.2.2)=some ts
 | []=>⟨[],rfl⟩
 | z::L=>by
  obtain⟨t,e⟩:=toT_lv (h:=h) (n:=n) z.2.2;obtain⟨ts,e2⟩:=BI (h:=h) (n:=n) L;refine⟨t::ts,?_⟩;show(toT h (n+6) (dW z.2.2)).bind (λy=>(aQ (toT h (n+6)) (L.map λz=>dW z.2.2)).map λys=>y::ys)=_
  rw[e,e2];rfl
theorem K8{L:List Te}(hL:L≠[]):qt [⟨.lst,L.map λz=>dW z.2.2⟩] (.ref 0) (.lst [])=some (.bl false):=by
 obtain⟨ts,e⟩:=BI (h:=[⟨.lst,L.map λz=>dW z.2.2⟩]) (n:=993) L
 have t0:toT [⟨.lst,L.map λz=>dW z.2.2⟩] dP (.ref 0)=((aQ (toT [⟨.lst,L.map λz=>dW z.2.2⟩] 999) (L.map λz=>dW z.2.2)).bind (m6 .lst)):=rfl
 have t1:toT [⟨.lst,L.map λz=>dW z.2.2⟩] dP (.lst [])=some (.lst []):=rfl
 show((toT _ dP (.ref 0)).bind λx=>(toT _ dP (.lst [])).map λy=>eqT x y).map PV.bl=_
 rw[t0,t1,e];show some (PV.bl (f9 ts []))=_;have:ts.length=(L.map λz=>dW z.2.2).length:=k7 e
 cases ts with
 | nil=>cases L with | nil=>exact absurd rfl hL | cons a l=>cases this
 | cons t ts=>rfl
section
variable {F:Fd} {S:Sc} (hS:DK F S)
include hS
theorem cm(k:Nat){x:Str}{d:Kn}{p:List Nat}{f:Nat}{i:Sx}(h:aK S.K x=some d)(hp:(p,f,i)∈eO (jd d))(j w t y:PV):∃h',run aD (k+11) "_law_stretch" [fdP F,.aj [j,w,.str x,t,.int (f:Int),.int (ml i:Int),y]] []=some (.ok (dW i),h'):=by
 obtain⟨h1,e1⟩:=aW (k+9) hS.l (by rw[<-hS.K];exact h)
 have f1:bH h1 (br d)=some (br d):=aN (eI d);have e2:=λk=>Hg k d
 have e3:=λk=>K7 k (jd d)
 have np:aE ((eO (jd d)).map λe=>xT e.1)=true:=cK (λe=>by simp[xT,noRef,Bz]) _
 have f3:=dE np;have e4:=vm (k+1) (some (fdP F)) j w (.str x) t y (jd d) _ hp;simp only at e4
 delta lq jz at e4
 have e5:=K8 (L:=(eO (jd d)).filter λz=>z.2.1==f&&ml z.2.2==ml i) (λz=>by
  have:=(cZ (p:=λz:Te=>z.2.1==f&&ml z.2.2==ml i)).mpr ⟨hp,by simp⟩
  rw[z]at this;cases this)
 have e6:=λk=>gT k (jd d)
 have f6:bH (HZ (jd d)) (dW (jd d))=some (dW (jd d)):=aN (gU _);have e7:=λh=>PQ (h:=h) (jd d) _ hp
 simp only at e7;rw[u4];refine⟨[⟨.lst,((eO (jd d)).filter λz=>z.2.1==f&&ml z.2.2==ml i).map λz=>dW z.2.2⟩],?_⟩
 simp only[↓aX,e1,f1,e2,e3,f3,e4,e5,e6,f6,e7,aE,noRef,xx]
end
end bS
set_option maxHeartbeats 2000000
namespace bS
open PySem L2 L2.U
theorem qo{h:List ai}{r:Rw}:qu false h (.str (K3 r)) (.aj [.str "give",.str "call"])=some (.bl (qk r)):=by
 cases r
 case fV w x s=>cases w<;>kernel_rfl
 all_goals kernel_rfl
theorem BJ{h:List ai}{r:Rw}:qt h (.str (K3 r)) (.str "copy")=some (.bl (Ar r)):=by
 cases r
 case fV w x s=>cases w<;>kernel_rfl
 all_goals kernel_rfl
theorem PR{h:List ai}{i:Sx}:qu true h pO (dW i)=some (.bl (xU i)):=by cases i<;>kernel_rfl
theorem dI{h:List ai}{d:Kn}:qt h (.str (w0 d)) (.str "lent")=some (.bl (!iz d)):=by
 cases d with
 | ow s=>cases s<;>kernel_rfl
 | ho w s=>cases w<;>kernel_rfl
theorem fw(i:Sx):jD (dW i)=false:=rfl
theorem xK{h:List ai}{b:Bool}:xP h (.bl b) (.bl b)=some (.bl false):=by cases b<;>rfl
section
variable {F:Fd} {S:Sc} (hS:DK F S) (hN:∀q∈S.K,q.1≠"") {r:Rw} (hr:noRef (bM r)=true)
include hS
theorem XW(k:Nat){x:Str}{d:Kn}{p:List Nat}{f:Nat}{i:Sx}(h:aK S.K x=some d)(hp:(p,f,i)∈eO (jd d))(h1:qk r=false)(h2:Ar r=true->xU i=true)(j:Nat):∃h',run aD (k+12) "_law_touch" [fdP F,bM r,fY j ⟨"read",x,eU d,f,ml i,""⟩] []=some (.ok (.bl true),h'):=by
 obtain⟨g1,e1⟩:=aW (k+10) hS.l (by rw[<-hS.K];exact h)
 have f1:bH g1 (br d)=some (br d):=aN (eI d);obtain⟨g2,e2⟩:=cm hS k h hp (.int (j:Int)) (.str "read") (.bl (eU d)) (.str "");have f2:bH g2 (dW i)=some (dW i):=aN (gU i);have e3:=λh=>mS (h:=h) (r:=r)
 rw[cS];unfold fY;cases hc:Ar r with
 | false =>
  simp only[↓aX,e1,f1,e2,f2,e3,gB,fA,xK,fw,dI,qo,h1,BJ,hc];exact⟨_,rfl⟩
 | true =>
  simp only[↓aX,e1,f1,e2,f2,e3,gB,fA,xK,fw,dI,qo,h1,BJ,hc,PR,h2 hc];exact⟨_,rfl⟩
theorem XX(k:Nat){x:Str}{d:Kn}{p:List Nat}{f:Nat}{i:Sx}(h:aK S.K x=some d)(hp:(p,f,i)∈eO (jd d))(h1:iz d=true)(j:Nat):∃h',run aD (k+12) "_law_touch" [fdP F,bM r,fY j ⟨"fill",x,eU d,f,ml i,""⟩] []=some (.ok (.bl true),h'):=by
 obtain⟨g1,e1⟩:=aW (k+10) hS.l (by rw[<-hS.K];exact h)
 have f1:bH g1 (br d)=some (br d):=aN (eI d);obtain⟨g2,e2⟩:=cm hS k h hp (.int (j:Int)) (.str "fill") (.bl (eU d)) (.str "");have f2:bH g2 (dW i)=some (dW i):=aN (gU i);have e3:=λh=>mS (h:=h) (r:=r)
 rw[cS];unfold fY;cases hg:qk r<;>cases ht:eU d <;>
 ·rw[ht]at e2;have HF:∀h,qu false h (.str (w0 d)) (.aj [.str "lent",.str "sole"])=some (.bl (eU d)):=λh=>fA
  rw[ht]at HF;simp only[↓aX,e1,f1,e2,f2,e3,gB,HF,fw,dI,h1,qo,hg];exact⟨_,rfl⟩
end
end bS
set_option maxHeartbeats 2000000
namespace bS
open PySem L2 L2.U
theorem Uk(r:Rw):(List.lookup (K3 r) fL)=some (HA r):=by
 cases r
 case fV w x s=>cases w<;>kernel_rfl
 all_goals kernel_rfl
theorem PU(r:Rw):Kt.lookup (HA r)=some 2:=by cases r<;>kernel_rfl
theorem Ul{ρ:List (Option PV)}{L R:List PV}(h:L.length+R.length<=1000000):uC (.ref 0) [.lst R] ⟨ρ,[⟨.lst,L⟩]⟩=some (.ok .aV,⟨ρ,[⟨.lst,L++R⟩]⟩):=by
 show(o6 (iB λps _=>if ps.length+R.length<=gV then some (ps++R)else none) (.ref 0) [] ⟨ρ,[⟨.lst,L⟩]⟩)=_
 have e:(if L.length+R.length<=gV then some (L++R)else none)=some (L++R):=if_pos (aM h (by decide))
 show(((if L.length+R.length<=gV then some (L++R)else none).map λqs=>((⟨.lst,qs⟩:ai),PV.aV)).map λr=>_)=_
 rw[e];rfl
theorem DL(c:CT){x0 x1:Option PV}{F:Fd}{r:Rw}{A:List Ac}{p:PV}{h':List ai}(hA:A.length<=200)(hf:bH h' p=some (.lst (A.map gD)))(hc:c (HA r) [fdP F,bM r] []=some (.ok p,h'))(k:Nat)(L:List PV)(hL:L.length<=9000)(x6:Option PV):jc c ⟨[x0,x1,some (fdP F),some (.ref 0),some (.int (k:Int)),some (bM r),x6],[⟨.lst,L⟩]⟩=some (.ok .nx,⟨[x0,x1,some (fdP F),some (.ref 0),some (.int (k:Int)),some (bM r),some (.lst (A.map gD))],[⟨.lst,L++(xV A).map (fY k)⟩]⟩):=by
 have lo:(xV A).length<=201:=by
  unfold xV;split
  ·exact yi rfl
  ·lia
 have e1:∀h,dX h (bM r) (.int 0)=some (.str (K3 r)):=λh=>mS
 have e3:(uG (.str (K3 r))).bind (λk=>Option.map PV.fn (List.lookup k fL))=some (.fn (HA r)):=by
  show Option.map PV.fn (List.lookup (K3 r) fL)=_;rw[Uk];rfl
 have e4:(Sv (.fn (HA r))).bind (λx=>Option.map (λn=>(x,n)) (List.lookup x Kt))=some (HA r,2):=by
  show Option.map (λn=>(HA r,n)) (List.lookup (HA r) Kt)=_
  rw[PU];rfl
 have ll:(A.map gD).length<=4000000:=by rw[ah];lia
 cases hE:A.isEmpty with
 | true =>
  cases A with
  | cons a A=>cases hE
  | nil =>
   have e2:∀ρ,uC (.ref 0) [.lst ((some (PV.aj [.int (k:Int),.str "rest",.str "",.bl false,.int 0,.int 0,.str ""])).toList++[])] ⟨ρ,[⟨.lst,L⟩]⟩=some (.ok .aV,⟨ρ,[⟨.lst,L++[.aj [.int (k:Int),.str "rest",.str "",.bl false,.int 0,.int 0,.str ""]]⟩]⟩):=λρ=>Ul (R:=[.aj [.int (k:Int),.str "rest",.str "",.bl false,.int 0,.int 0,.str ""]]) (by simp;lia)
   have l1:[PV.aj [.str "rest",.str "",.bl false,.int 0,.int 0,.str ""]].length<=4000000:=by simp
   refine c9 ?_;unfold jc;simp only[↓jF,e1,e2,e3,e4,l1,hc,hf,aE,noRef,sP,xy];rfl
 | false =>
  have ho:xV A=A:=by unfold xV;rw[hE];rfl
  rw[ho];have e2:∀ρ,uC (.ref 0) [.lst (A.map λa=>.aj [.int (k:Int),.str a.w,.str a.x,.bl a.t,.int (a.f:Int),.int (a.m:Int),.str a.k])] ⟨ρ,[⟨.lst,L⟩]⟩=some (.ok .aV,⟨ρ,[⟨.lst,L++A.map (fY k)⟩]⟩):=λρ=>Ul (by rw[ah];lia)
  have e5:∀h a,jt h (.aj [.int (k:Int)]) (gD a)=some (.aj [.int (k:Int),.str a.w,.str a.x,.bl a.t,.int (a.f:Int),.int (a.m:Int),.str a.k]):=λh a=>rfl
  refine c9 ?_;unfold jc;simp only[↓jF,e1,e2,e3,e4,e5,hc,hf,ll,aE,noRef,sP,xy,lO,hE,Bool.not_false]
theorem sZ(c:CT){x0 x1:Option PV}{F:Fd}(K:List Ky):∀(rs:List Rw) (k:Nat) (L:List PV) (x4 x5 x6:Option PV),(∀r∈rs,∃(A:List Ac) (p:PV) (h':List ai),K6 K r (xV A)/\A.length<=200/\bH h' p=some (.lst (A.map gD))/\c (HA r) [fdP F,bM r] []=some (.ok p,h'))->L.length+201*rs.length<=9000->∃(T:List (List Ac)) (DD Ag nQ:Option PV),T.length=rs.length/\(∀(j:Nat) r A,rs[j]?=some r->T[j]?=some A->K6 K r A)/\dO Q0 (jc c) (gi k (rs.map bM)) ⟨[x0,x1,some (fdP F),some (.ref 0),x4,x5,x6],[⟨.lst,L⟩]⟩=some (.ok .nx,⟨[x0,x1,some (fdP F),some (.ref 0),DD,Ag,nQ],[⟨.lst,L++(eJ k T).map sY⟩]⟩)
 | [],k,L,x4,x5,x6,_,_=>⟨[],x4,x5,x6,rfl,(λj r A h=>by simp at h),by simp[eJ];rfl⟩
 | r::rs,k,L,x4,x5,x6,hr,hl=>by
  simp only[bZ]at hl;obtain⟨A,p,h',a1,a2,a3,a4⟩:=hr r cy;have lo:=a1.l;have st:=DL c (x0:=x0) (x1:=x1) (F:=F) a2 a3 a4 k L (by lia) x6
  obtain⟨T,z4,z5,z6,t1,t2,t3⟩:=sZ c (x0:=x0) (x1:=x1) (F:=F) K rs (k+1) (L++(xV A).map (fY k)) (some (.int (k:Int))) (some (bM r)) (some (.lst (A.map gD))) (λq hq=>hr q (bY _ hq)) (by rw[cz,ah];lia)
  refine⟨xV A::T,z4,z5,z6,by simp[t1],λj q B hj hB=>?_,?_⟩
  ·cases j with
   | zero=>cases hj;cases hB;exact a1
   | succ j=>exact t2 j q B hj hB
  ·rw[show L++(eJ k (xV A::T)).map sY=L++(xV A).map (fY k)++(eJ (k+1) T).map sY by simp[eJ,sY,fI]]
   exact fC (s1:=⟨[x0,x1,some (fdP F),some (.ref 0),some (.int (k:Int)),some (bM r),x6],[⟨.lst,L⟩]⟩) rfl st t3
end bS
set_option maxHeartbeats 2000000
namespace bS
open PySem L2 L2.U
theorem L7{h:List ai}{i:Sx}:qt h (dW i) (dW i)=some (.bl true):=by
 cases i
 case st n=>show some (PV.bl (eqT (.aj [xq (.st n)]) (.aj [xq (.st n)])))=_;simp[eqT,f9,sF]
 case sn n=>show some (PV.bl (eqT (.aj [xq (.st n),vp]) (.aj [xq (.st n),vp])))=_;simp[eqT,f9,sF,show eqT vp vp=true by kernel_rfl]
 case dp n=>show some (PV.bl (eqT (.aj [vp,vp,Pl,xq (.st n)]) (.aj [vp,vp,Pl,xq (.st n)])))=_;simp[eqT,f9,sF,show eqT vp vp=true by kernel_rfl,show eqT Pl Pl=true by kernel_rfl]
 all_goals kernel_rfl
theorem XY{h:List ai}{a b:Int}:xP h (.aj [.int a,.int b]) (.aj [.int a,.int b])=some (.bl false):=by
 show some (PV.bl !((a==a)&&((b==b)&&true)))=_;simp
theorem HG{h:List ai}{a:Str}:xP h (.str a) (.str a)=some (.bl false):=by
 show some (PV.bl !(a==a))=_;simp
section
variable {F:Fd} {S:Sc} (hS:DK F S) {r:Rw}
include hS
theorem XZ(k:Nat){x:Str}{d:Kn}{p:List Nat}{f:Nat}{n:Fin 8}(h:aK S.K x=some d)(hp:(p,f,.st n)∈eO (jd d))(h1:iz d=true)(j:Nat):∃h',run aD (k+12) "_law_touch" [fdP F,bM r,fY j ⟨"turn",x,eU d,f,1,""⟩] []=some (.ok (.bl true),h'):=by
 obtain⟨g1,e1⟩:=aW (k+10) hS.l (by rw[<-hS.K];exact h)
 have f1:bH g1 (br d)=some (br d):=aN (eI d);obtain⟨g2,e2⟩:=cm hS k h hp (.int (j:Int)) (.str "turn") (.bl (eU d)) (.str "");have f2:bH g2 (dW (.st n))=some (dW (.st n)):=aN (gU _);have e3:=λh=>mS (h:=h) (r:=r)
 have e2:run aD (k+11) "_law_stretch" [fdP F,.aj [.int (j:Int),.str "turn",.str x,.bl (eU d),.int (f:Int),.int ((1:Nat):Int),.str ""]] []=some (.ok (dW (.st n)),g2):=e2;have e4:∀h,gH h [dW (.st n)]=some (.int 1):=λh=>rfl
 have e5:∀h,dX h (dW (.st n)) (.int 0)=some (d8 (.st n)):=λh=>rfl
 have e6:∀h,dX h (d8 (.st n)) (.int 0)=some (.str "strip"):=λh=>rfl
 rw[cS];unfold fY;simp only[↓aX,e1,f1,e2,f2,e3,e4,e5,e6,gB,fA,xK,fw,dI,h1,qo];exact⟨_,rfl⟩
theorem X0(k:Nat){x:Str}{s:Sx}{p:List Nat}{f:Nat}{i:Sx}(h:aK S.K x=some (.ow s))(hp:(p,f,i)∈eO s)(h1:qk r=false)(j:Nat):∃h',run aD (k+12) "_law_touch" [fdP F,bM r,fY j ⟨"empty",x,false,f,ml i,""⟩] []=some (.ok (.bl true),h'):=by
 obtain⟨g1,e1⟩:=aW (k+10) hS.l (by rw[<-hS.K];exact h)
 have f1:bH g1 (br (.ow s))=some (br (.ow s)):=aN (eI _);obtain⟨g2,e2⟩:=cm hS k (d:=.ow s) h hp (.int (j:Int)) (.str "empty") (.bl false) (.str "");have f2:bH g2 (dW i)=some (dW i):=aN (gU i);have e3:=λh=>mS (h:=h) (r:=r)
 have e4:∀h,qu false h (.str (w0 (.ow s))) (.aj [.str "lent",.str "sole"])=some (.bl false):=λh=>fA
 rw[cS];unfold fY;simp only[↓aX,e1,f1,e2,f2,e3,e4,gB,fw,dI,qo,h1];exact⟨_,rfl⟩
theorem X1(k:Nat){x:Str}{s:Sx}(h:aK S.K x=some (.ow s))(h1:qk r=true)(j:Nat):∃h',run aD (k+12) "_law_touch" [fdP F,bM r,fY j ⟨if xU s then "read" else "empty",x,false,0,ml s,""⟩] []=some (.ok (.bl true),h'):=by
 obtain⟨g1,e1⟩:=aW (k+10) hS.l (by rw[<-hS.K];exact h)
 have f1:bH g1 (br (.ow s))=some (br (.ow s)):=aN (eI _);have e3:=λh=>mS (h:=h) (r:=r)
 have e4:∀h,qu false h (.str (w0 (.ow s))) (.aj [.str "lent",.str "sole"])=some (.bl false):=λh=>fA
 have e5:∀k,run aD (k+9) "is_copied" [br (.ow s)] []=some (.ok (.bl (xU s)),[]):=λk=>je k s
 have e6:∀k,run aD (k+9) "leaves" [br (.ow s)] []=some (.ok (dW s),HZ s):=λk=>gT k s
 have f6:bH (HZ s) (dW s)=some (dW s):=aN (gU s);have e7:∀h,gH h [dW s]=some (.int (ml s:Int)):=λh=>iq
 have f2:∀g,bH g (dW s)=some (dW s):=λg=>aN (gU s)
 rw[cS];unfold fY;cases hc:xU s with
 | false =>
  obtain⟨g2,e2⟩:=cm hS k (d:=.ow s) h (ir s) (.int (j:Int)) (.str "empty") (.bl false) (.str "");rw[hc]at e5;have e2:run aD (k+11) "_law_stretch" [fdP F,.aj [.int (j:Int),.str "empty",.str x,.bl false,.int ((0:Nat):Int),.int (ml s:Int),.str ""]] []=some (.ok (dW s),g2):=e2;simp only[↓aX,b6,cN,e1,f1,e2,f2,e3,e4,e5,e6,f6,e7,gB,fw,dI,qo,h1];exact⟨[],by simp[eqT,f9]⟩
 | true =>
  obtain⟨g2,e2⟩:=cm hS k (d:=.ow s) h (ir s) (.int (j:Int)) (.str "read") (.bl false) (.str "");rw[hc]at e5;have e2:run aD (k+11) "_law_stretch" [fdP F,.aj [.int (j:Int),.str "read",.str x,.bl false,.int ((0:Nat):Int),.int (ml s:Int),.str ""]] []=some (.ok (dW s),g2):=e2;simp only[↓aX,dc,e1,f1,e2,f2,e3,e4,e5,e6,f6,e7,gB,fw,dI,qo,h1];exact⟨[],by simp[eqT,f9]⟩
theorem X2(k:Nat){w:Bool}{x:Str}{s:Sx}(h:aK S.K x=some (.ho w s))(j:Nat):∃h',run aD (k+12) "_law_touch" [fdP F,bM (.fG x),fY j ⟨"give",x,true,0,ml s,""⟩] []=some (.ok (.bl true),h'):=by
 obtain⟨g1,e1⟩:=aW (k+10) hS.l (by rw[<-hS.K];exact h)
 have f1:bH g1 (br (.ho w s))=some (br (.ho w s)):=aN (eI _);obtain⟨g2,e2⟩:=cm hS k (d:=.ho w s) h (ir s) (.int (j:Int)) (.str "give") (.bl true) (.str "");have f2:bH g2 (dW s)=some (dW s):=aN (gU s);have e4:∀h,qu false h (.str (w0 (.ho w s))) (.aj [.str "lent",.str "sole"])=some (.bl true):=λh=>fA
 have e3:∀h,qt h (.aj [.str "give",.str x]) (.aj [.str "give",.str x])=some (.bl true):=λh=>by
  show some (PV.bl ((Str.ofString "give"==Str.ofString "give")&&((x==x)&&true)))=_;simp
 rw[cS];unfold fY;simp only[↓aX,bM,e1,f1,e2,f2,e3,e4,gB,fw,dI];exact⟨_,rfl⟩
theorem X3(k:Nat){w:Bool}{x y:Str}{d:Kn}{p:List Nat}{f:Nat}{i:Sx}{s:Sp}(h:aK S.K x=some d)(hp:(p,f,i)∈eO (jd d))(hy:aK S.K y=some (.ho w i))(hw:w=true->iz d=true)(j:Nat):∃h',run aD (k+13) "_law_touch" [fdP F,bM (.fV w y s),fY j ⟨qY w,x,eU d,f,ml i,y⟩] []=some (.ok (.bl true),h'):=by
 obtain⟨g1,e1⟩:=aW (k+11) hS.l (by rw[<-hS.K];exact h)
 obtain⟨g1',U2⟩:=aW (k+10) hS.l (by rw[<-hS.K];exact h)
 have f1:∀g,bH g (br d)=some (br d):=λg=>aN (eI d)
 obtain⟨g3,e3⟩:=aW (k+10) hS.l (by rw[<-hS.K];exact hy)
 have f3:bH g3 (br (.ho w i))=some (br (.ho w i)):=aN (eI _);have f2:∀g,bH g (dW i)=some (dW i):=λg=>aN (gU i)
 have e6:∀k,run aD (k+9) "leaves" [d8 i] []=some (.ok (dW i),HZ i):=λk=>gT k i
 have e7:∀h,dX h (br (.ho w i)) (.int 1)=some (d8 i):=λh=>rfl
 cases w with
 | false =>
  obtain⟨g2,e2⟩:=cm hS (k+1) h hp (.int (j:Int)) (.str "lend") (.bl (eU d)) (.str y);obtain⟨g4,e4⟩:=cm hS k h hp (.int (j:Int)) (.str "lend") (.bl (eU d)) (.str y);have e5:run aD (k+12) "_law_lending" [fdP F,.aj [.str "lend",.str y,eG s],.aj [.int (j:Int),.str "lend",.str x,.bl (eU d),.int (f:Int),.int (ml i:Int),.str y]] []=some (.ok (.bl true),[]):=by
   rw[ij];have e8:∀h,dX h (br (.ho false i)) (.int 0)=some (.str "lent"):=λh=>rfl
   simp only[↓aX,U2,f1,e3,f3,e4,f2,e6,e7,e8,HG,L7]
  rw[cS];unfold fY;simp only[↓aX,bM,qY,b6,cN,e1,f1,e2,f2,e5,gB,fA,xK,fw,dI];exact⟨_,rfl⟩
 | true =>
  obtain⟨g2,e2⟩:=cm hS (k+1) h hp (.int (j:Int)) (.str "sole") (.bl (eU d)) (.str y);obtain⟨g4,e4⟩:=cm hS k h hp (.int (j:Int)) (.str "sole") (.bl (eU d)) (.str y);have hw:=hw rfl;have e5:run aD (k+12) "_law_lending" [fdP F,.aj [.str "sole",.str y,eG s],.aj [.int (j:Int),.str "sole",.str x,.bl (eU d),.int (f:Int),.int (ml i:Int),.str y]] []=some (.ok (.bl true),[]):=by
   rw[ij];have e8:∀h,dX h (br (.ho true i)) (.int 0)=some (.str "sole"):=λh=>rfl
   simp only[↓aX,U2,f1,e3,f3,e4,f2,e6,e7,e8,HG,L7]
  rw[cS];unfold fY;simp only[↓aX,bM,qY,dc,e1,f1,e2,f2,e5,gB,fA,xK,fw,dI,hw];exact⟨_,rfl⟩
end
end bS
set_option maxHeartbeats 2000000
namespace bS
open PySem L2 L2.U
theorem HH{α:Type}{f:α->Str}{h:List ai}{x:Str}{l:List α}:qu true h (.str x) (.lst (l.map λq=>.str (f q)))=some (.bl (!decide (x∈l.map f))):=by
 have e:=toT_strs (h:=h) (n:=999) (l.map f);rw[cC,cC]at e;show((aQ (toT h dP) (l.map λq=>.str (f q))).map λys=>ys.any λy=>eqT y (.str x)).map (λb=>PV.bl !b)=_
 rw[show dP=999+1 from rfl,show(λq=>PV.str (f q))=PV.str ∘ f from rfl,e]
 show some (PV.bl !((l.map (Tr.str ∘ f)).any λy=>eqT y (.str x)))=_
 congr 3
 rw[List.any_map,jQ,tH];simp only[Function.comp,eqT,lW,iO,cJ]
section
variable {F:Fd} {S:Sc} (hS:DK F S)
include hS
theorem qp(k:Nat){w:Bool}{x y g:Str}{as:List Str}{s:Sx}(h:aK S.K x=some (.ho w s)){i:Nat}(hi:as[i]?=some x)(hl:as.length<=100)(j:Nat):∃h',run aD (k+12) "_law_lending" [fdP F,bM (.call y g as),.aj [.int (j:Int),.str (qY w),.str x,.bl true,.int ((0:Nat):Int),.int (ml s:Int),.str (mC i)]] []=some (.ok (.bl true),h'):=by
 obtain⟨g1,e1⟩:=aW (k+10) hS.l (by rw[<-hS.K];exact h)
 have f1:∀g,bH g (br (.ho w s))=some (br (.ho w s)):=λg=>aN (eI _)
 have il:i<as.length:=(b9.mp hi).1;have e2:=λh=>iq (f:=PV.str) (L:=as) (h:=h)
 have e3:=xA (n:=as.length) (by lia)
 have e4:∀k∈List.range as.length,∀h,dX h (.aj (as.map PV.str)) (.int (k:Int))=some (.str (as.getD k "")):=λk hk h=>atI_nat (by
  have hk:=cH.mp hk;rw[bg,aR hk,iG,aR hk];rfl)
 have e5:∀j∈List.range as.length,∀h,Ck h [.int (j:Int)]=some (.str (mC j)):=λj hj h=>by
  have:=cH.mp hj;show(if 0<=(j:Int)/\(j:Int)<1000 then some (PV.str (toString (j:Int)))else none)=_
  rw[if_pos (by lia)]
  rfl
 have e6:(List.range as.length).length<=4000000:=by rw[eZ];lia
 have e7:∀h,qu true h (.str (mC i)) (.lst (((List.range as.length).filter λk=>as.getD k ""==x).map λk=>.str (mC k)))=some (.bl false):=λh=>by
  rw[HH (f:=mC),bf]
  ·rfl
  ·refine n4 (f:=mC) (cZ.mpr ⟨cH.mpr il,?_⟩);rw[iG,hi];simp
 have e8:∀k,run aD (k+9) "leaves" [d8 s] []=some (.ok (dW s),HZ s):=λk=>gT k s
 have f8:bH (HZ s) (dW s)=some (dW s):=aN (gU s);have e9:∀h,gH h [dW s]=some (.int (ml s:Int)):=λh=>iq
 have H0:∀h,dX h (br (.ho w s)) (.int 1)=some (d8 s):=λh=>rfl
 have X4:∀h,xP h (.aj [.int ((0:Nat):Int),.int (ml s:Int)]) (.aj [.int 0,.int (ml s:Int)])=some (.bl false):=λh=>XY
 have H9:∀h,dX h (br (.ho w s)) (.int 0)=some (.str (sy w)):=λh=>rfl
 rw[ij];cases w with
 | false =>
  have H9:∀h,dX h (br (.ho false s)) (.int 0)=some (.str "lent"):=H9
  simp only[↓aX,bM,qY,b6,cN,e1,f1,e2,e3,e4,e5,e6,e7,e8,f8,e9,H0,X4,H9,dy,ah];exact⟨_,rfl⟩
 | true =>
  have H9:∀h,dX h (br (.ho true s)) (.int 0)=some (.str "sole"):=H9
  simp only[↓aX,bM,qY,dc,e1,f1,e2,e3,e4,e5,e6,e7,e8,f8,e9,H0,X4,H9,dy,ah];exact⟨_,rfl⟩
theorem X5(k:Nat){w:Bool}{x y g:Str}{as:List Str}{s:Sx}(h:aK S.K x=some (.ho w s)){i:Nat}(hi:as[i]?=some x)(hl:as.length<=100)(j:Nat):∃h',run aD (k+13) "_law_touch" [fdP F,bM (.call y g as),fY j ⟨qY w,x,true,0,ml s,mC i⟩] []=some (.ok (.bl true),h'):=by
 obtain⟨g1,e1⟩:=aW (k+11) hS.l (by rw[<-hS.K];exact h)
 have f1:∀g,bH g (br (.ho w s))=some (br (.ho w s)):=λg=>aN (eI _)
 obtain⟨g2,e2⟩:=cm hS (k+1) (d:=.ho w s) h (ir s) (.int (j:Int)) (.str (qY w)) (.bl true) (.str (mC i));have f2:∀g,bH g (dW s)=some (dW s):=λg=>aN (gU s)
 obtain⟨g3,e3⟩:=qp hS k (y:=y) (g:=g) h hi hl j;have e4:∀h,qu false h (.str (w0 (.ho w s))) (.aj [.str "lent",.str "sole"])=some (.bl true):=λh=>fA
 have f3:∀g,bH g (.bl true)=some (.bl true):=λg=>aN rfl
 rw[cS];unfold fY;cases w with
 | false =>
  have e5:∀h,qt h (.str (w0 (.ho false s))) (.str "lent")=some (.bl true):=λh=>dI
  simp only[qY,b6,cN]at e2 e3;simp only[↓aX,qY,b6,cN,e1,f1,e2,f2,e3,e4,e5,f3,gB,fw];exact⟨_,rfl⟩
 | true =>
  have e5:∀h,qt h (.str (w0 (.ho true s))) (.str "lent")=some (.bl false):=λh=>dI
  simp only[qY,dc]at e2 e3;simp only[↓aX,qY,dc,e1,f1,e2,f2,e3,e4,e5,f3,gB,fw];exact⟨_,rfl⟩
end
theorem X6(k:Nat){r:Rw}(h:ko r=true)(j:Nat):∃h',run aD (k+1) "_law_untouched" [bM r,fY j HC] []=some (.ok (.bl true),h'):=by
 cases r with
 | call x g as =>
  rw[fU];unfold fY;simp only[↓aX,bM];exact⟨_,rfl⟩
 | _=>cases h
theorem X7(k:Nat)(r:Rw)(j:Nat):∃h',run aD (k+1) "_law_untouched" [bM r,fY j Zs] []=some (.ok (.bl true),h'):=by
 have e3:=λh=>mS (h:=h) (r:=r)
 rw[fU];unfold fY;simp only[↓aX,e3];exact⟨_,rfl⟩
theorem X8(k:Nat){x g:Str}{as:List Str}(j:Nat):∃h',run aD (k+1) "_law_untouched" [bM (.call x g as),fY j (PM x)] []=some (.ok (.bl true),h'):=by
 rw[fU];unfold fY PM;simp only[↓aX,bM,dy,iP];exact⟨_,rfl⟩
end bS
set_option maxHeartbeats 2000000
namespace bS
open PySem L2 L2.U
def HI(a:Ac):Bool:=a.w==("hand":Str)
theorem PX(K:List Ky)(x:Str)(j:Nat):HI (nD K x j)=false:=by
 unfold nD;cases aK K x with
 | none=>kernel_rfl
 | some d=>cases d with
  | ow s=>cases s<;>kernel_rfl
  | ho w s=>cases w<;>kernel_rfl
theorem PY(K:List Ky)(x:Str)(j:Nat):(nD K x j).x=x:=by
 unfold nD;cases aK K x with
 | none=>rfl
 | some d=>cases d<;>rfl
theorem Um{h:List ai}(A:List Ac):CQ h (.lst (A.map λa=>.str a.w)) [.str "hand"]=some (.int ((A.countP HI:Nat):Int)):=by
 have e:=toT_strs (h:=h) (n:=999) (A.map (·.w));rw[cC,cC]at e;show(aQ (toT h dP) (A.map λa=>.str a.w)).map (λys=>PV.int (ys.countP λy=>eqT y (.str "hand"):Nat))=_
 rw[show dP=999+1 from rfl,show(λa:Ac=>PV.str a.w)=PV.str ∘ (·.w)from rfl,e]
 show some (PV.int (((A.map (Tr.str ∘ (·.w))).countP λy=>eqT y (.str "hand"):Nat):Int))=_
 rw[List.countP_map];rfl
theorem BK{h:List ai}{l:List Str}:xP h (.lst (l.map .str)) (.lst (l.map .str))=some (.bl false):=by
 show(((aQ (toT h 999) (l.map .str)).bind (m6 .lst)).bind λx=>((aQ (toT h 999) (l.map .str)).bind (m6 .lst)).map λy=>eqT x y).map (λb=>PV.bl !b)=_
 rw[toT_strs];show some (PV.bl !(f9 (l.map .str) (l.map .str)))=_;rw[mz,bf rfl];rfl
theorem HJ{α:Type}{f:α->PV}{A B C:List α}{h:List ai}{n m:Nat}(hn:A.length=n)(hm:B.length=m):E9 h (some (n:Int)) (some ((n:Int)+(m:Int))) (.lst ((A++B++C).map f))=some (.lst (B.map f)):=by
 show some (PV.lst (iZ _ (some (n:Int)) (some ((n+m:Nat):Int))))=_;subst hn hm;unfold iZ;rw[HT.nF,HT.nF,ah,ox (by simp),ox (by simp),<-List.map_drop,<-t7]
 simp
theorem HK{α:Type}{f:α->PV}{A B:List α}{h:List ai}{n:Nat}(hn:A.length=n):E9 h none (some (n:Int)) (.lst ((A++B).map f))=some (.lst (A.map f)):=by
 show some (PV.lst (iZ _ none (some (n:Int))))=_;rw[Hb,<-t7,<-hn,List.take_left]
section
variable {F:Fd} {S:Sc} (hS:DK F S) (hN:∀q∈S.K,q.1≠"")
include hS hN
theorem HL(k:Nat){x g:Str}{as:List Str}{A:List Ac}(hA:HE S.K x as A)(hl:A.length<=200)(j:Nat):∃h',run aD (k+12) "_law_called" [fdP F,bM (.call x g as),.lst (A.map (fY j))] []=some (.ok (.bl true),h'):=by
 obtain⟨T,eA,hT⟩:=hA.e;obtain⟨B,hB⟩:∃B,B=(List.range as.length).map λj=>nD S.K (as.getD j "") j:=⟨_,rfl⟩
 rw[<-hB]at eA;have Bl:B.length=as.length:=by rw[hB];simp
 have Uo:A=B++[HC]++T:=by rw[eA];simp
 have Tl:T.length<=1/\T.countP HI=0:=by
  rcases hT with⟨rfl,_⟩ | ⟨w,s,rfl,_⟩ | ⟨s,rfl,_⟩
  ·exact⟨by simp,rfl⟩
  ·exact⟨by simp,by kernel_rfl⟩
  ·exact⟨by simp,by kernel_rfl⟩
 have cA:A.countP HI=1:=by
  rw[Uo,List.countP_append,List.countP_append,Tl.2];have:B.countP HI=0:=by
   rw[List.countP_eq_zero,hB];intro a ha;obtain⟨i,_,rfl⟩:=cJ.mp ha;rw[PX];exact dJ
  rw[this];kernel_rfl
 have Al:A.length=as.length+1+T.length:=by rw[Uo,cz,cz,Bl];rfl
 have e1:(A.map (fY j)).length<=4000000:=by rw[ah];lia
 have e2:∀h,CQ h (.lst (A.map λa=>.str a.w)) [.str "hand"]=some (.int 1):=λh=>by rw[Um,cA];rfl
 have H9:∀st,F9 (.lst (A.map λa=>.str a.w)) [.str "hand"] st=some (.ok (.int 1),st):=λst=>by
  show(CQ st.h _ _).map _=_;rw[e2];rfl
 have e3:=λh=>iq (f:=PV.str) (L:=as) (h:=h)
 have e4:∀h,E9 h (some (as.length:Int)) (some ((as.length:Int)+1)) (.lst (A.map λa=>.str a.w))=some (.lst [.str "hand"]):=λh=>by rw[Uo];exact HJ (f:=λa:Ac=>PV.str a.w) (m:=1) Bl rfl
 have e5:∀h,E9 h none (some (as.length:Int)) (.lst (A.map (fY j)))=some (.lst (B.map (fY j))):=λh=>by rw[eA];exact HK Bl
 have e6:(B.map (fY j)).length<=4000000:=by rw[ah];lia
 have e7:B.map (λa=>PV.str a.x)=as.map .str:=by
  rw[hB,cC];refine tx λi=>?_
  rw[bg,bg];by_cases hi:i<as.length
  ·rw[n0 hi,aR hi];simp only[tN,Function.comp,PY,iG,aR hi,yD]
  ·rw[gY (by simpa using jO hi),gY (jO hi)]
   rfl
 have e8:∀h,gH h [.lst (A.map (fY j))]=some (.int (A.length:Nat)):=λh=>bN
 have e9:∀h,xP h (.lst [.str "hand"]) (.lst [.str "hand"])=some (.bl false):=λh=>BK (l:=["hand"])
 have H0:=λh=>BK (h:=h) (l:=as)
 rw[xp];rcases hT with⟨rfl,rfl⟩ | ⟨w,s,rfl,hx⟩ | ⟨s,rfl,hx⟩
 ·have X4:((A.length:Nat):Int)==((as.length:Nat):Int)+1:=by rw[Al];simp
  simp only[↓aX,bM,e1,H9,e3,e4,e5,e6,e7,e8,e9,H0,dy,dm];exact⟨[],by simp[Al]⟩
 ·obtain⟨g1,k1⟩:=aW (k+10) hS.l (by rw[<-hS.K];exact hx)
  have f1:∀g,bH g (br (.ho w s))=some (br (.ho w s)):=λg=>aN (eI _)
  have nk:=d7 hS hN hx;have k2:∀h,qu false h (.str (w0 (.ho w s))) (.aj [.str "lent",.str "sole"])=some (.bl true):=λh=>fA
  have k3:∀h,dX h (.lst (A.map (fY j))) (.int (-1))=some (fY j (PM x)):=λh=>by
   show L2.mY (A.map (fY j)) (-1)=_;exact qd (by rw[Uo,bQ,List.getLast?_append];rfl)
  have k4:∀h,xP h (.int (A.length:Nat)) (.int ((as.length:Nat)+2))=some (.bl false):=λh=>by
   rw[Al];show some (PV.bl !(((as.length+1+1:Nat):Int)==((as.length:Int)+2)))=_;simp
   lia
  simp only[↓aX,bM,e1,H9,e3,e4,e5,e6,e7,e8,e9,H0,dy,nk,k1,f1,k2,k3,k4,gB];exact⟨_,rfl⟩
 ·obtain⟨g1,k1⟩:=aW (k+10) hS.l (by rw[<-hS.K];exact hx)
  have f1:∀g,bH g (br (.ow s))=some (br (.ow s)):=λg=>aN (eI _)
  have nk:=d7 hS hN hx;have k2:∀h,qu false h (.str (w0 (.ow s))) (.aj [.str "lent",.str "sole"])=some (.bl false):=λh=>fA
  have k3:∀h,dX h (.lst (A.map (fY j))) (.int (-1))=some (fY j (Qm x s)):=λh=>by
   show L2.mY (A.map (fY j)) (-1)=_;exact qd (by rw[Uo,bQ,List.getLast?_append];rfl)
  have k4:∀h,xP h (.int (A.length:Nat)) (.int ((as.length:Nat)+2))=some (.bl false):=λh=>by
   rw[Al];show some (PV.bl !(((as.length+1+1:Nat):Int)==((as.length:Int)+2)))=_;simp
   lia
  have k5:∀k,run aD (k+9) "leaves" [br (.ow s)] []=some (.ok (dW s),HZ s):=λk=>gT k s
  have f5:bH (HZ s) (dW s)=some (dW s):=aN (gU s);have k6:∀h,gH h [dW s]=some (.int (ml s:Int)):=λh=>iq
  simp only[↓aX,bM,e1,H9,e3,e4,e5,e6,e7,e8,e9,H0,dy,nk,k1,f1,k2,k3,k4,k5,f5,k6,gB];exact⟨[],by simp[eqT,f9,Qm]⟩
end
end bS
set_option maxHeartbeats 2000000
namespace bS
open PySem L2 L2.U
section
variable {F:Fd} {S:Sc} (hS:DK F S) (hN:∀q∈S.K,q.1≠"")
include hS hN
theorem HM(k:Nat){r:Rw}{a:Ac}(h:vk S.K r a)(hl:∀x g as,r=.call x g as->as.length<=100)(j:Nat):(a.x=="")=true/\(∃h',run aD (k+13) "_law_untouched" [bM r,fY j a] []=some (.ok (.bl true),h'))\/(a.x=="")=false/\∃h',run aD (k+13) "_law_touch" [fdP F,bM r,fY j a] []=some (.ok (.bl true),h'):=by
 cases h with
 | rd h1 h2 h3 h4=>exact .inr ⟨d7 hS hN h1,XW hS (k+1) h1 h2 h3 h4 j⟩
 | fl h1 h2 h3=>exact .inr ⟨d7 hS hN h1,XX hS (k+1) h1 h2 h3 j⟩
 | tn h1 h2 h3=>exact .inr ⟨d7 hS hN h1,XZ hS (k+1) h1 h2 h3 j⟩
 | em h1 h2 h3=>exact .inr ⟨d7 hS hN h1,X0 hS (k+1) h1 h2 h3 j⟩
 | ln h1 h2 h3 h4 h5=>subst h3;exact .inr ⟨d7 hS hN h1,X3 hS k h1 h2 h4 h5 j⟩
 | ca h1 h2 h3=>subst h2;exact .inr ⟨d7 hS hN h1,X5 hS k h1 h3 (hl _ _ _ rfl) j⟩
 | ow h1 h2=>exact .inr ⟨d7 hS hN h1,X1 hS (k+1) h1 h2 j⟩
 | gv h1 h2=>subst h2;exact .inr ⟨d7 hS hN h1,X2 hS (k+1) h1 j⟩
 | hd h1=>exact .inl ⟨rfl,X6 (k+12) h1 j⟩
 | rs=>exact .inl ⟨rfl,X7 (k+12) r j⟩
 | tk h1=>subst h1;exact .inl ⟨rfl,X8 (k+12) j⟩
theorem touch_loop(k:Nat){x0 x1 x3 x6 x7:Option PV}(hl:∀r∈F.rw,∀x g as,r=.call x g as->as.length<=100):∀(Z:List (Nat×Ac)) (x4 x5:Option PV),(∀z∈Z,∃r,F.rw[z.1]?=some r/\vk S.K r z.2)->∃DD Ag,dO (cg 4) (jE (run aD (k+13))) (Z.map sY) ⟨[x0,x1,some (fdP F),x3,x4,x5,x6,x7],[]⟩=some (.ok .nx,⟨[x0,x1,some (fdP F),x3,DD,Ag,x6,x7],[]⟩)
 | [],x4,x5,_=>⟨x4,x5,rfl⟩
 | z::Z,x4,x5,hz=>by
  obtain⟨r,hr,hf⟩:=hz z cy;obtain⟨y4,y5,h⟩:=touch_loop k hl (x0:=x0) (x1:=x1) (x3:=x3) (x6:=x6) (x7:=x7) Z (some (sY z)) (some (bM r)) λq hq=>hz q (bY _ hq)
  have e1:∀h,dX h (.aj (F.rw.map bM)) (.int (z.1:Int))=some (bM r):=λh=>atI_nat (by rw[bg,hr];rfl)
  refine⟨y4,y5,?_⟩;rw[aA];refine c9 ?_;unfold sY at h ⊢;rcases HM hS hN k hf (hl r (iK hr)) z.1 with⟨q1,g,q2⟩ | ⟨q1,g,q2⟩
  ·have fz:bH g (.bl true)=some (.bl true):=aN rfl;simp only[↓jF,e1,dy,q1,q2,fz,h]
  ·have fz:bH g (.bl true)=some (.bl true):=aN rfl;simp only[↓jF,e1,dy,q1,q2,fz,h]
end
end bS
set_option maxHeartbeats 2000000
namespace bS
open PySem L2 L2.U
theorem L8{h:List ai}{z:Nat×Ac}:dX h (sY z) (.int 0)=some (.int (z.1:Int)):=rfl
section
variable {F:Fd} {S:Sc} (hS:DK F S) (hN:∀q∈S.K,q.1≠"")
include hS hN
theorem mU(k:Nat){x0 x1 x4:Option PV}{T:List (List Ac)}(hl:(eJ 0 T).length<=9000):∀(rs:List Rw) (i:Nat) (x5 x6 x7:Option PV),(∀(j:Nat) r,rs[j]?=some r->∃A,T[i+j]?=some A/\K6 S.K r A)->∃Ag nQ xB,dO (kN 2 (dw (cg 6) (dw (cg 5) m4))) (gA (run aD (k+13))) (gi i (rs.map bM)) ⟨[x0,x1,some (fdP F),some (.lst ((eJ 0 T).map sY)),x4,x5,x6,x7],[]⟩=some (.ok .nx,⟨[x0,x1,some (fdP F),some (.lst ((eJ 0 T).map sY)),x4,Ag,nQ,xB],[]⟩)
 | [],i,x5,x6,x7,_=>⟨x5,x6,x7,rfl⟩
 | r::rs,i,x5,x6,x7,hz=>by
  obtain⟨A,hA,hR⟩:=hz 0 r rfl;obtain⟨y5,y6,y7,h⟩:=mU k (x0:=x0) (x1:=x1) (x4:=x4) hl rs (i+1) (some (bM r)) (some (.int (i:Int))) (some (.lst (A.map (fY i)))) λj q hq=>by
   obtain⟨B,b1,b2⟩:=hz (j+1) q hq;exact⟨B,by rw[show i+1+j=i+(j+1) by lia];exact b1,b2⟩
  have e1:((eJ 0 T).filter λz=>((z.1:Int)==(i:Int))).map sY=A.map (fY i):=by
   have:=mT T 0 i A (by simpa using hA)
   rw[show(λz:Nat×Ac=>((z.1:Int)==(i:Int)))=λz=>z.1==0+i by funext z;rw[jQ];simp only[lW];lia,this,cC]
   simp only[lS,fI,sY]
  have e2:((eJ 0 T).map sY).length<=4000000:=by rw[ah];lia
  have e3:∀h,dX h (bM r) (.int 0)=some (.str (K3 r)):=λh=>mS
  have st:gA (run aD (k+13)) ⟨[x0,x1,some (fdP F),some (.lst ((eJ 0 T).map sY)),x4,some (bM r),some (.int (i:Int)),x7],[]⟩=some (.ok .nx,⟨[x0,x1,some (fdP F),some (.lst ((eJ 0 T).map sY)),x4,some (bM r),some (.int (i:Int)),some (.lst (A.map (fY i)))],[]⟩):=by
   refine c9 ?_;cases hc:ko r with
   | false=>simp only[↓jF,e1,e2,e3,L8,dm,BG,hc]
   | true =>
    cases r with
    | call x g as =>
     obtain⟨h',hq⟩:=HL hS hN (k+1) (hR.c x g as rfl) hR.l i;have hq:run aD (k+13) "_law_called" [fdP F,bM (.call x g as),.lst (A.map (fY i))] []=some (.ok (.bl true),h'):=hq;have fz:bH h' (.bl true)=some (.bl true):=aN rfl;simp only[↓jF,e1,e2,e3,L8,dm,BG,hc,hq,fz]
    | _=>cases hc
  refine⟨y5,y6,y7,?_⟩;exact fC (s1:=⟨[x0,x1,some (fdP F),some (.lst ((eJ 0 T).map sY)),x4,some (bM r),some (.int (i:Int)),x7],[]⟩) rfl st h
end
theorem K9{a b:List Ky}(h:PV.aj (a.map cX)=PV.aj (b.map cX)):a.length=b.length:=by
 have h:a.map cX=b.map cX:=by injection h
 have:=eu List.length h;simpa using this
theorem HN{P:List Fd}(hP:∀F∈P,Ab F){F:Fd}{x g:Str}{as:List Str}(h:cF (Pp P F) (.call x g as)):as.length<=100:=by
 obtain⟨ps,res,q,l,r,_,h2,h3,_⟩:=h;obtain⟨G,hG,_,g2⟩:=Aq (λG:Fd=>G.nm) fdP h2
 have:=(hP G hG).p;unfold fdP at g2;simp only[PV.aj,PV.nd.injEq,ou,true_and,and_true]at g2;have e:=K9 (a:=G.ps) (b:=ps) (by show PV.nd _ _=PV.nd _ _;rw[g2.2.1])
 lia
theorem Av(k:Nat){P:List Fd}(ok:K2 P){i:Nat}{F:Fd}(hi:P[i]?=some F):∃h',run aD (k+18) "_law_acts_fit" [.aj (P.map fdP),.int (i:Int)] []=some (.ok (.bl true),h'):=by
 have hF:=ok.h F (iK hi);have a1:=hF.p;have a2:=hF.l;have a3:=hF.x;have hR:=ok.r F (iK hi);have hS:DK F (Pp P F):=⟨rfl,by lia⟩
 have hN:∀q∈(Pp P F).K,q.1≠"":=λq hq z=>by
  have:=(hF.n q hq).l;rw[z]at this;exact absurd this (by decide)
 have cf:∀r∈F.rw,∀x g as,r=.call x g as->as.length<=100:=λr hr x g as e=>HN ok.h (F:=F) (x:=x) (g:=g) (e▸hR r hr)
 obtain⟨T,y4,y5,y6,t1,t2,t3⟩:=sZ (run aD (k+16)) (x0:=some (.aj (P.map fdP))) (x1:=some (.int (i:Int))) (F:=F) (Pp P F).K F.rw 0 [] none none none (λr hr=>by
  obtain⟨A,p,h',b1,b2,b3⟩:=Au hS hN k (hR r hr) (cf r hr);refine⟨A,p,h',b1,?_,b2,b3⟩;have:=b1.l;unfold xV at this;split at this
  ·rename_i z;rw[yz.mp z];simp
  ·exact this) (by simp;lia)
 rw[et]at t3;have e1:∀h,dX h (.aj (P.map fdP)) (.int (i:Int))=some (fdP F):=λh=>atI_nat (by rw[bg,hi];rfl)
 have nk:aE ((eJ 0 T).map sY)=true:=cK (λz=>by simp[sY,fY,noRef,aE]) _
 have hT:∀A∈T,A.length<=200:=λA hA=>by
  obtain⟨j,hj⟩:=lH hA;have jl:=(b9.mp hj).1;exact(t2 j _ A (aR (by lia : j<F.rw.length)) hj).l
 have zl:(eJ 0 T).length<=9000:=by have:=xJ T 0 hT;lia
 have ra:run aD (k+17) "acts" [.aj (P.map fdP),.int (i:Int)] []=some (.ok (.ref 0),[⟨.lst,(eJ 0 T).map sY⟩]):=by
  rw[GY];unfold GX;simp only[↓aX,e1,t3]
 have fz:=dE nk;obtain⟨z4,z5,u1⟩:=touch_loop hS hN (k+4) (x0:=some (.aj (P.map fdP))) (x1:=some (.int (i:Int))) (x3:=some (.lst ((eJ 0 T).map sY))) (x6:=none) (x7:=none) cf (eJ 0 T) none none λz hz=>by
  obtain⟨j,A,j1,j2,j3⟩:=qm T 0 z hz;have jl:=(b9.mp j1).1;have hj:F.rw[j]?=some F.rw[j]:=aR (by lia)
  refine⟨F.rw[j],by rw[j2,lS];exact hj,(t2 j _ A hj j1).f z.2 j3⟩
 obtain⟨v5,v6,v7,u2⟩:=mU hS hN (k+4) (x0:=some (.aj (P.map fdP))) (x1:=some (.int (i:Int))) (x4:=z4) zl F.rw 0 z5 none none λj r hr=>by
  have jl:=(b9.mp hr).1;have hj:T[j]?=some T[j]:=aR (by lia)
  exact⟨T[j],by rw[lS];exact hj,t2 j r _ hr hj⟩
 delta jE jz at u1
 delta gA jz at u2
 have u1:dO _ _ _ _=_:=u1;rw[qW];refine⟨[],?_⟩;simp only[↓aX,e1,ra,fz,u1,u2]
end bS
set_option maxHeartbeats 4000000
namespace bS
open PySem L2 L2.U
theorem xM(k:Nat){x0 x1:Option PV}{P:List Fd}(ok:K2 P):∀(is:List Nat) (x3:Option PV),(∀i∈is,i<P.length)->∃T3,dO (cg 3) (Bw (run aD (k+18))) (is.map λi:Nat=>.int (i:Int)) ⟨[x0,x1,some (.aj (P.map fdP)),x3],[]⟩=some (.ok .nx,⟨[x0,x1,some (.aj (P.map fdP)),T3],[]⟩)
 | [],x3,_=>⟨x3,rfl⟩
 | i::is,x3,hi=>by
  obtain⟨h',h1⟩:=Av k ok (i:=i) (aR (hi i cy));obtain⟨y3,h⟩:=xM k ok (x0:=x0) (x1:=x1) is (some (.int (i:Int))) λj hj=>hi j (bY _ hj)
  have fz:bH h' (.bl true)=some (.bl true):=aN rfl;refine⟨y3,?_⟩;rw[aA];refine c9 ?_;simp only[↓jF,h1,fz,h]
theorem HP(ns:List Int)(h:ns.length<=63):UY (run aD 22 "law" [Bu ns] []):=by
 obtain⟨xs,Hs,x1,x2,x3,s1,s2,s3,s4⟩:=KZ 18 ns;obtain⟨cs,c1,c2⟩:∃cs:List Int,cs.length<=63/\∀h,E9 h (some 9) (some 72) (Bu ns)=some (.lst (cs.map .int)):=by
  refine⟨(ns.drop (HT.dz ns.length 0 (some 9))).take (HT.dz ns.length ns.length (some 72)-HT.dz ns.length 0 (some 9)),?_,λh=>?_⟩
  ·rw[lM,tJ];lia
  ·show some (PV.lst (iZ (ns.map .int) (some 9) (some 72)))=_;unfold iZ;rw[ah,t7,List.map_drop]
 obtain⟨f,h',f1,f3,f4⟩:=DJ 7 x1 x2 s2 s3 c1;obtain⟨P,hP⟩:∃P,P=(List.range Hs.length).map f:=⟨_,rfl⟩
 rw[<-hP]at f3 f4;have eP:(List.range Hs.length).map (λi=>fdP (f i))=P.map fdP:=by rw[hP,cC];rfl
 have ok:=Ui x1 x2 x3 s2 s3 f3 s1;have r0:run aD 21 "is_right" [.aj (P.map fdP)] []=some (.ok (.bl true),[]):=by
  have:=DG ok 4;rw[dY.mpr f4]at this;exact this
 have e8:∀h,Fc h [.lst ((List.range Hs.length).map λi=>fdP (f i))]=some (.aj (P.map fdP)):=λh=>by rw[<-eP];rfl
 have e1:=xA (n:=Hs.length) (by lia)
 have e2:(List.range Hs.length).length<=4000000:=by rw[eZ];lia
 have e3:∀i∈List.range Hs.length,run aD 21 "_law_function" [.lst (Hs.map fW),.int (i:Int),.lst (cs.map .int)] []=some (.ok (fdP (f i)),h' i):=λi hi=>f1 i (cH.mp hi)
 have e5:∀i,bH (h' i) (fdP (f i))=some (fdP (f i)):=λi=>aN (sP _)
 have e6:=λh=>iq (f:=fdP) (L:=P) (h:=h)
 have e7:=xA (n:=P.length) (by have:=ok.m;lia)
 obtain⟨y3,hl⟩:=xM 3 (x0:=some (Bu ns)) (x1:=some (.lst (Hs.map fW))) ok (List.range P.length) none λi hi=>cH.mp hi
 delta Bw jz at hl
 rw[show run aD 22 "law"=_ from Kv 21]
 have go:∀o:Option (Rs PV×List ai),o=some (.ok (.bl true),[])->UY o:=λo h=>⟨[],h⟩
 refine go _ ?_;simp only[↓aX,s4,c2,bN,ah,e1,e2,e3,e5,e6,e7,e8,r0,hl]
end bS
noncomputable section
open PySem PySem.W PyProof.Rows PySem.Calls
theorem PySem.Challenge.cw_lendrule_k19_whole_acts_fit_right_progra_holds : PySem.Challenge.rw_lendrule_k19_whole_acts_fit_right_progra.Holds := by
 exact bS.iU λd h1 h2=>L2.U.GV (P:=bS.aD) (N:=22) (st:=bS.TN) (x:="_law_script") (l:=PySem.Challenge.rw_lendrule_k19_whole_acts_fit_right_progra) (by kernel_rfl) (by kernel_rfl) rfl h1 h2 ⟨rfl,by decide,by decide⟩ (by kernel_rfl) (λw h Y=>Y) bS.HP
end
