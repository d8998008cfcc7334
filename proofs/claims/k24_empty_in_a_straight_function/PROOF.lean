import PyProof.Rows.All
import Wide.All
import Wide.FinOn
import PyProof.EqAt
import PyProof.EqKinds
import PyProof.TupleCall
import PyProof.NeKinds
import PySem.Challenge.RW_lendrule_k24_empty_in_a_straight_functio
import KE.KLam
import KE.KDictList
import KE.KRevIter
import KE.KSortTup
import PyProof.FactsAll.range_2
import PyProof.MeetsDict
import KE.KNestM
import KE.KSortedM
import KE.KFromBytes
import KE.KIsAll
import KE.KDictOf
import KE.KDictSum
import KE.KStateDown
set_option maxHeartbeats 0
set_option Elab.async false
set_option linter.all false
set_option maxRecDepth 100000
noncomputable section
section
open PySem PySem.Spec PyProof.Rows
def BF:=@List.findIdx?_eq_some_iff_getElem
def nI:=@PyProof.Rows.slot_tuple_getitem
def IB:=@List.eraseIdx_eq_take_drop_succ
def IC:=@PyProof.Rows.callWith_builtin1
def BG:=@wpAny_typeNameOfWhole_keyiter
def ID:=@List.mem_eraseIdx_iff_getElem
def nJ:=@List.eq_nil_of_length_eq_zero
def BH:=@F.slot_dict_keyiterator_next
def IE:=@PySem.F.slot_dict_setdefault
noncomputable def IF:=@F.args_tuple_iterator_next_1
def ir:=@PyProof.Rows.callWith_type1
def IG:=@F.entry_tuple_iterator_next
def IH:=@Calls.Name_function_global
def II:=@wpAny_newFunctionEnv_cells
def IJ:=@Array.perm_iff_toList_perm
def wc:=@F.slot_tuple_iterator_next
def je:=@List.getElem?_append_right
def lz:=@List.drop_eq_getElem_cons
def BI:=@F.slot_tuple_getattribute
def lA:=@Array.getElem?_eq_getElem
def bj:=@List.getElem?_eq_some_iff
def jS:=@List.getElem?_eq_none_iff
def c5:=@List.getElem?_append_left
def we:=@List.pairwise_iff_getElem
def bC:=@List.getElem?_eq_getElem
def BJ:=@wpAny_typeNameOf_keyiter
def BL:=@PySem.F.args_tuple_add_2
def jT:=@AutoSeq1.wpAny_loadPart'
def BM:=@PySem.F.entry_tuple_add
def BN:=@PySem.F.plainAttrs_dict
def lB:=@Option.bind_eq_some_iff
def wj:=@PySem.F.plainAttrs_list
def wm:=@List.getElem?_cons_succ
def lD:=@wpAny_callSpecial?_slot
def BO:=@PySem.F.slot_tuple_add
def qD:=@List.take_of_length_le
def f9:=@Option.map_eq_some_iff
def wq:=@Heap.get?_update_other
def BP:=@wpAny_pyIter_rangeiter
def jf:=@List.getElem?_set_self
def bf:=@Heap.get?_push_of_some
def wt:=@Array.getElem?_eq_none
def wu:=@Option.map_eq_none_iff
def de:=@List.mem_append_right
def BQ:=@Array.getElem?_toList
def wx:=@List.take_append_drop
def qE:=@List.mem_iff_getElem?
def qF:=@Heap.get?_update_self
def jg:=@List.getElem?_eq_none
def BR:=@F.slot_range_reversed
def BS:=@wpAny_notOrdered_dict
def BU:=@Obj.data_mapDictKeys
def gf:=@List.mem_append_left
def cH:=@List.mem_of_getElem?
def aH:=@List.mem_cons_of_mem
def BV:=@Around.under_plainId
def wz:=@List.getElem_eq_getD
def dR:=@Bool.and_eq_true_iff
def dy:=@List.getElem?_set_ne
def qG:=@Heap.SameBut.update
def nK:=@List.getElem?_range
def cP:=@Heap.get?_push_size
def fu:=@beq_eq_false_iff_ne
def lF:=@Int.toNat_of_nonneg
def BW:=@List.mergeSort_perm
def qH:=@List.getElem_of_mem
def iu:=@Array.length_toList
def BX:=@List.length_reverse
def eu:=@PySem.mem_of_lookup
def nL:=@List.filterMap_cons
def BY:=@Int.emod_lt_of_pos
def qI:=@tupleKind_room_in1
def jh:=@wpAny_Call_Name_kw
def dh:=@Bool.false_ne_true
def aD:=@List.mem_singleton
def b7:=@Nat.lt_of_lt_of_le
def nM:=@List.mem_filterMap
def BZ:=@of_decide_eq_false
def wA:=@Obj.data_mapFields
def aJ:=@List.mem_cons_self
def B0:=@wpAny_pyIter_tuple
def aV:=@List.length_append
def nN:=@Nat.lt_of_le_of_lt
def B2:=@Int.natCast_nonneg
def jU:=@Bool.false_eq_true
def B3:=@Nat.lt_succ_of_lt
def lG:=@List.map_inj_left
def qJ:=@Bool.not_eq_true'
def dF:=@of_decide_eq_true
def ez:=@List.length_range
def qK:=@List.nodup_append
def lH:=@wpAny_truthy_bool
def dG:=@List.append_assoc
def qL:=@wpAny_dictEntries
def gE:=@Int.toNat_natCast
def fw:=@List.flatMap_cons
def qM:=@Heap.get?_push_ne
def bz:=@List.getElem?_map
def wB:=@List.find?_append
def B4:=@List.pairwise_map
def wC:=@List.getElem?_inj
def wD:=@List.reverse_cons
def B5:=@Option.isSome_map
def gF:=@wpAny_newObj_type
def eA:=@List.size_toArray
def gG:=@decide_eq_true_eq
def qN:=@Nat.le_of_not_lt
def aN:=@List.length_cons
def qO:=@Nat.lt_succ_self
def B6:=@noFill_tuple_add
def wF:=@Around.in1_units
def qP:=@List.cons_append
def jV:=@List.length_take
def wG:=@Heap.size_update
def c6:=@List.mem_flatMap
def fH:=@beq_self_eq_true
def fx:=@List.not_mem_nil
def wH:=@List.isEmpty_iff
def nQ:=@Nat.le_add_right
def B7:=@Option.getD_none
def B8:=@List.drop_length
def gH:=@List.all_eq_true
def jW:=@List.lookup_cons
def cW:=@Option.bind_some
def qQ:=@List.getElem_inj
def iw:=@wpAny_call_entry
def aR:=@Bool.and_eq_true
def wI:=@Bool.or_eq_true
def dU:=@List.append_nil
def bI:=@Option.some.inj
def B9:=@List.cons.injEq
def bA:=@List.mem_append
def lI:=@wpAny_passesOwn
def wJ:=@wpAny_execs_nil
def gg:=@List.nodup_cons
def wK:=@List.of_mem_zip
def lJ:=@decide_eq_false
def qR:=@Int.emod_nonneg
def qS:=@List.length_set
def gh:=@Option.map_some
def Cc:=@List.foldl_cons
def Cd:=@codeAny_builtin
def gi:=@List.nil_append
def Cf:=@Nat.not_lt_zero
def aj:=@List.length_map
def Cg:=@size_of_entries
def cR:=@List.mem_filter
def wL:=@List.length_nil
def qT:=@List.find?_cons
def cw:=@List.map_append
def wM:=@wpAny_setField
def dW:=@decide_eq_true
def jX:=@List.nodup_nil
def c7:=@List.mem_range
def gI:=@Nat.lt_irrefl
def nR:=@Nat.add_assoc
def aK:=@List.mem_cons
def wN:=@Bool.and_true
def aM:=@List.map_cons
def lK:=@Prod.mk.injEq
def fI:=@wpAny_holding
def gj:=@List.all_cons
def wO:=@Bool.false_or
def ji:=@List.any_cons
def nU:=@Paired.length
def cJ:=@List.map_map
def wQ:=@Nat.ne_of_gt
def lL:=@Nat.lt_trans
def qU:=@wpAny_typeOf
def jY:=@Nat.le_of_eq
def aX:=@Heap.lt_size
def wR:=@Nat.sub_zero
def bD:=@Nat.ne_of_lt
def bP:=@Nat.le_trans
def nV:=@List.map_nil
def nW:=@codeAny_mono
def lM:=@Int.zero_add
def iy:=@Nat.zero_add
def nY:=@Nat.le_of_lt
def au:=@List.mem_map
def gJ:=@wpAny_of_eq
def wU:=@List.not_lt
def gK:=@wpAny_field
def az:=@Nat.le_refl
def wV:=@IsRange.new
def lN:=@sizeLine_eq
def fJ:=@Nat.zero_le
def lO:=@call_meets
def qV:=@boot_range
def jj:=@wpAny_mono
def ag:=@wpAny_bind
def aw:=@wpAny_pure
def qW:=@wpAny_rule
def aY:=@eq_of_beq
def fy:=@if_false
def fK:=@or_false
def cS:=@congrArg
def jZ:=@if_true
def dz:=@Ne.symm
end
namespace PSh
end PSh
section
namespace L2
open PySem PySem.Spec PyProof.Rows
abbrev bh:=Sum Int Str
inductive V where
 | bB | bl (b:Bool) | int (i:Int) | str (x:Str) | W0 (b:Array UInt8) | flt (b:UInt64) | ref (a:Addr) | ty (n:String)
 deriving DecidableEq
def RelV:V->Value->Prop
 | .bB,u=>u=Value.none
 | .bl b,u=>u=Value.bool b
 | .int i,u=>∃t,u=Value.int i t
 | .str x,u=>∃t,u=Value.str x t
 | .W0 b,u=>∃t,u=Value.bytes b t
 | .flt b,u=>∃t,u=Value.float b t
 | .ref a,u=>u=Value.ref a
 | .ty n,u=>u=Value.type n
abbrev Vals:List V->List Value->Prop:=Paired RelV
noncomputable def kV:bh->V
 | .inl i=>.int i
 | .inr x=>.str x
inductive HO where
 /-- a list -/
 | lst (xs:List V)
 /-- a tuple (never aaU) -/
 | aq (xs:List V)
 /-- a dict QQ keys are ints and Xr;one QQ keys are tuples of ints and Xr (QR empty one is af3) -/
 | dK (kvs:List (bh×V)) | dT (xs:List (List bh×Addr×Value))
 /-- a set of ints: aG aaV,aG size -/
 | set (S:Int->Bool) (n:Nat)
 /-- an instance of QR class at C,aG dict at dx,aG SD -/
 | oO (C dx:Addr) (fs:List (Str×V))
 /-- QR dict of QR instance at x -/
 | own (x:Addr)
 /-- QR dict of an W2 -/
 | xd (fs:List (Str×V))
 /-- a bound abQ,f of x -/
 | met (f x:Addr)
 /-- a range IK lo,lo+1,.. below hi -/
 | rng (lo hi:Int)
 /-- a Xs af4 is aez to QR IK (QR abR;a dict while a loop aeA it): af5,never written while it is so -/
 | oQ (o:Obj) (u:HO)
 /-- a code Xu table -/
 | Ci (q:Str)
 /-- any other Xs,by what is true of aG one IK (a def of aeB own: af6 a S n:=HO.ext λh=>..) -/
 | ext (φ:Heap->Prop)
abbrev Hp:=Addr->Option HO
def Rd(H:Hp)(a:Addr)(u:HO):Prop:=H a=some u\/∃o,H a=some (.oQ o u)
noncomputable def dA:List Str:=["arrivals","empties","needs","held"]
def gX(K:W.Frag)(H:Hp)(a:Addr)(xs:List V):Prop :=
 Rd H a (.aq xs) \/
  ∃(o:Obj) (b:Array Value) (n:Nat),K.lookup a=some o/\o.cls=.type "tuple"/\o.data=.seq b n/\b.size<=sizeLine/\Vals xs b.toList
noncomputable def k9(K:W.Frag)(H:Hp)(a:Addr)(xs:List V):Prop :=
 Rd H a (.lst xs)\/∃(b:List Value) (n:Nat),K.lookup a=some {cls:=.type "list",data:=.seq b.toArray n}/\b.length<=sizeLine/\Vals xs b
structure F8 (K:W.Frag) (C:Addr):Prop where
 pg:W.plainGet K C Str.empty=true
 hd:W.hasDictIn K C=true
 po:W.plainOver K C=true
 sa:W.findIn K (.ref C) "__setattr__"=some (some (.builtin "object.__setattr__"))
def jk(K:W.Frag)(C:Addr)(f:Str):Prop:=W.findIn K (.ref C) f=some none
section
variable {X:Cx} {CX:Ig} {k:Nat} {f C:Addr} {fd:FuncData} {ps:List Str} {sp:Sp} {QS:List V} {ds:List Value} {E:XK} {x m:Str} {p pos qX:Pos} {e o:Expr} {es:List Expr} {ta:TE} {t:TA}
structure Mk (K:W.Frag) (C f:Addr):Prop where
 makes:W.makesIn K C=true
 init:W.findIn K (.ref C) "__init__"=some (some (.ref f))
 fn:W.isFn K (.ref f)=true
 kp:W.keepIn K (.ref C)=true
end
structure dH (N P:List Str) (sc:Scope):Prop where
 kind:sc.kind=.function
 co:sc.isCoroutine=false
 gen:sc.isGenerator=false
 nd:N.Nodup
 pre:N.take P.length=P
 par:∀x∈P,sc.names.lookup x=some .local\/sc.names.lookup x=some .cell
 nofree:∀y∈sc.names,y.2≠.free
noncomputable def ia(s:Stmt):Arguments:=match s with
 | .FunctionDef _ a _ _ _ _ _ _ _ _=>a
 | _=>{posonlyargs:=[],args:=[],vararg:=none,kwonlyargs:=[],kw_defaults:=[],kwarg:=none,defaults:=[]}
def du(s:Stmt):List Stmt:=match s with
 | .FunctionDef _ _ b _ _ _ _ _ _ _=>b
 | _=>[]
def ax(s:Stmt):Scope:=match s with
 | .FunctionDef _ _ _ _ _ _ sc _ _ _=>sc
 | _=>{kind:=.function,names:=[],isGenerator:=false,isCoroutine:=false}
structure Cj (K:W.Frag) (x qual:Str) (st:Stmt) (f:Addr) (fd:FuncData):Prop where
 ex:∃(oc:Value) (od:Option Addr) (kV doc pm:Value) (an:Option Addr) (cZ ct:Value) (yU:Array (Option Value)),
  fd=W.fnOf x qual (ia st) (du st) (ax st) .none kV doc pm an cZ ct/\K.lookup f=some ⟨oc,od,.func fd,yU⟩/\W.codeIn K cZ qual=true
 kp:W.keepIn K (.ref f)=true
section
variable {P:Program} {w:World} {K:W.Frag} {mg:Str->Option Value} {base:Heap}
def IL{st:Stmt}{g:Value}{h d:Option Addr}{i:Array (Option Value)}{kV a e b ct:Value}(l:K.lookup f=some ⟨g,h,.func (W.fnOf x qual (ia st) (du st) (ax st) .none kV a e d b ct),i⟩)
  (c:W.codeIn K b qual=true) (k:W.keepIn K (.ref f)=true):Cj K x qual st f (W.fnOf x qual (ia st) (du st) (ax st) .none kV a e d b ct):=⟨⟨g,h,kV,a,e,d,b,ct,i,rfl,l,c⟩,k⟩
end
section
variable {X:Cx} {ae:List (Addr×Obj)} {σ:St} {H:Hp} {s:Shared} {a b:Addr} {k:List bh} {v:V} {r:Value} {A:Around} {E:Value->Shared->Prop} {xs:List (List bh×Addr×Value)}
def eQ(K:W.Frag)(H:Hp)(xs:List (List bh×Addr×Value)):Prop:=∀x∈xs,gX K H x.2.1 (x.1.map kV)
end
end L2
namespace L2.U
open PySem PySem.Spec PyProof.Rows
inductive Kd where
 | aq | lst | oO (C:Str) (ns:List Str) | eR (t:Bool) (ks:List (List bh))
inductive PV where
 | bB | bl (b:Bool) | int (i:Int) | str (x:Str) | ref (n:Nat) | fn (x:Str) | nd (k:Kd) (ps:List PV)
noncomputable abbrev PV.aq (ps:List PV):PV:=.nd .aq ps
structure Fz where
 F:Hp
 μ:List Addr
def ClsAt(K:W.Frag)(C:Str)(a:Value):Prop:=W.nsIn K mainGlobals C=some (some a)
def kL(K:W.Frag)(F H:Hp)(a:Addr)(x:Bool):Kd->List V->Prop
 | .aq,b=>x=false/\gX K H a b
 | .lst,b=>if x=true then H a=some (.lst b)else k9 K H a b
 | .oO C ns,b=>∃d g fs,ClsAt K C (.ref d)/\F8 K d/\(∀f∈ns,jk K d f)/\H a=some (.oO d g fs)/\fs.map (·.1)=ns/\fs.map (·.2)=b
 | .eR false ks,b=>∃c:List (bh×V),H a=some (.dK c)/\c.map (λy=>[y.1])=ks/\c.map (·.2)=b
 | .eR true ks,b=>∃e,H a=some (.dT e)/\eQ K F e/\e.map (·.1)=ks/\Vals b (e.map (·.2.2))
mutual
def bO(K:W.Frag)(F:Fz):PV->V->Prop
 | .bB,v=>v=.bB
 | .bl b,v=>v=.bl b
 | .int i,v=>v=.int i
 | .str x,v=>v=.str x
 | .ref n,v=>∃a,F.μ[n]?=some a/\v=.ref a
 | .fn x,v=>∃a,v=.ref a/\W.nsIn K mainGlobals x=some (some (.ref a))
 | .nd k d,v=>∃a c,v=.ref a/\kL K F.F F.F a false k c/\aA K F d c
def aA(K:W.Frag)(F:Fz):List PV->List V->Prop
 | [],a=>a=[]
 | p::b,a=>∃v r,a=v::r/\bO K F p v/\aA K F b r
end
section
variable {K:W.Frag} {F F':Fz}
def aA.nil:aA K F [] []:=by simp[aA]
def aA.cons(h:bO K F p v)(t:aA K F ps vs):aA K F (p::ps) (v::vs):=by
 simp only[aA];exact⟨v,vs,rfl,h,t⟩
def dv:bO K F .bB v↔v=.bB:=by simp only[bO]
def b8:bO K F (.bl b) v↔v=.bl b:=by simp only[bO]
def aE:bO K F (.int i) v↔v=.int i:=by simp only[bO]
def cO:bO K F (.str i) v↔v=.str i:=by simp only[bO]
def jl:bO K F (.nd k ps) v↔∃a vs,v=.ref a/\kL K F.F F.F a false k vs/\aA K F ps vs:=by simp only[bO]
def cg:bO K F (.aq ps) v↔∃a vs,v=.ref a/\gX K F.F a vs/\aA K F ps vs :=
 jl.trans ⟨(by rintro⟨a,vs,b,c,d⟩;exact⟨a,vs,b,c.2,d⟩),(by rintro⟨a,vs,b,c,d⟩;exact⟨a,vs,b,⟨rfl,c⟩,d⟩)⟩
end
end L2.U
namespace PySem.W
open PySem PyProof.Rows
end PySem.W
namespace L2.U
open PySem PySem.Spec PyProof.Rows
structure Pg where
 defs:List (Str×Stmt)
 cons:List (Str×PV):=[]
 dt:List Str:=[]
 tabs:List (Str×List (Str×Str)):=[]
 cls:List (Str×Stmt):=[]
 flds:List Str:=[]
 nZ:List Str:=[]
 Xv:List (Str×List (Str×Nat)):=[]
def params(st:Stmt):List Str:=(ia st).args.map λa=>a.arg
def Xw:NameKind->Bool
 | .local=>true
 | .cell=>true
 | _=>false
def cj(st:Stmt):List Str:=params st++((ax st).names.filter λy=>Xw y.2&&!(params st).contains y.1).map λy=>y.1
structure IM (K:W.Frag) (x:Str) (st:Stmt):Prop where
 ex:∃f fd,W.nsIn K mainGlobals x=some (some (.ref f))/\Cj K x x st f fd/\∀us:List Value,us.length=(params st).length->bindArgs fd ⟨us,[]⟩=pure ((params st).zip us)
 sc:dH (cj st) (params st) (ax st)
def F9(K:W.Frag)(P:Params)(T:Str)(rows:List (Str×Str)):Prop :=
 ∃a b n,W.nsIn K mainGlobals T=some (some (.ref a))/\K.lookup a=some ⟨.type "dict",none,.dict b n,#[]⟩/\W.KeysLit P b.toList/\∀d∈rows,∃f,W.nsIn K a d.1=some (some (.ref f))/\W.nsIn K mainGlobals d.2=some (some (.ref f))
def abT{K:W.Frag}{P:Params}{T:Str}{rows:List (Str×Str)}{a:Addr}{b:Array DictEntry}{n:Nat}(h1:W.nsIn K mainGlobals T=some (some (.ref a)))(c:K.lookup a=some ⟨.type "dict",none,.dict b n,#[]⟩)(e:W.KeysLit P b.toList)
  (g:∀d∈rows,∃f,W.nsIn K a d.1=some (some (.ref f))/\W.nsIn K mainGlobals d.2=some (some (.ref f))):F9 K P T rows:=⟨a,b,n,h1,c,e,g⟩
noncomputable def QT:PV->Value->Bool
 | .int i,.int j _=>i==j
 | .str x,.str y _=>x==y
 | .bl a,.bool b=>a==b
 | .bB,.none=>true
 | _,_=>false
def wW:List PV->List Value->Bool
 | [],[]=>true
 | p::r,u::q=>QT p u&&wW r q
 | _,_=>false
def SE{K:W.Frag}{p:PV}{u:Value}(h:QT p u=true):∃v,RelV v u/\∀F,bO K F p v:=by
 cases p<;>cases u<;>first | exact absurd h dh | skip
 ·exact⟨.bB,rfl,λF=>dv.mpr rfl⟩
 ·cases aY h;exact⟨.bl _,rfl,λF=>b8.mpr rfl⟩
 ·cases aY h;exact⟨.int _,⟨_,rfl⟩,λF=>aE.mpr rfl⟩
 ·cases aY h;exact⟨.str _,⟨_,rfl⟩,λF=>cO.mpr rfl⟩
def Nb{K:W.Frag}{ps:List PV}{c:List Value}(h:wW ps c=true):∃vs,Vals vs c/\∀F,aA K F ps vs:=by
 induction ps generalizing c with
 | nil=>cases c;exact⟨[],.nil,λ_=>.nil⟩;cases h
 | cons p r ih =>
  cases c with
  | nil=>cases h
  | cons u q =>
   have h:=dR.mp h;obtain⟨v,a,b⟩:=SE (K:=K) h.1;obtain⟨vs,d,e⟩:=ih h.2;exact⟨v::vs,.cons a d,λF=>.cons (b F) (e F)⟩
def Nc{K:W.Frag}{g:Addr}{x:Str}{a:Addr}{ps:List PV}{c:List Value}{n:Nat}{d:Option Addr}{e:Array (Option Value)}(h1:W.nsIn K g x=some (some (.ref a)))(f:K.lookup a=some ⟨.type "tuple",d,.seq c.toArray n,e⟩)(h:wW ps c=true)(i:c.length<=100) :
  ∃u v,W.nsIn K g x=some (some u)/\RelV v u/\∀F,bO K F (.aq ps) v:=by
 obtain⟨j,r,b⟩:=Nb h;exact⟨_,.ref a,h1,rfl,λF=>cg.mpr ⟨a,j,rfl,.inr ⟨_,c.toArray,n,f,rfl,rfl,by rw[eA];exact bP i (by decide),by grind⟩,b F⟩⟩
def Nd{K:W.Frag}{g:Addr}{x:Str}{y:Str}{t:Tok}(a:W.nsIn K g x=some (some (.str y t))):∃u v,W.nsIn K g x=some (some u)/\RelV v u/\∀F,bO K F (.str y) v:=⟨_,.str y,a,⟨t,rfl⟩,λF=>cO.mpr rfl⟩
def Nf{K:W.Frag}{g:Addr}{x:Str}{i:Int}{t:Tok}(a:W.nsIn K g x=some (some (.int i t))):∃u v,W.nsIn K g x=some (some u)/\RelV v u/\∀F,bO K F (.int i) v:=⟨_,.int i,a,⟨t,rfl⟩,λF=>aE.mpr rfl⟩
def SF(K:W.Frag)(C:Str)(st:Stmt)(a:List Str):Prop:=∃b f d,W.nsIn K mainGlobals C=some (some (.ref b))/\Mk K b f/\F8 K b/\(∀g∈a,jk K b g)/\Cj K "__init__" (C++".__init__") st f d/\(∀c:List Value,c.length=(params st).length->bindArgs d ⟨c,[]⟩=pure ((params st).zip c))/\dH (cj st) (params st) (ax st)
def SG(K:W.Frag)(x:Str):Prop:=x∈dA/\∃c T,W.tabIn K x=some (c,T)/\W.codeHdIn K c T=true
def IP(K:W.Frag):Prop:=∃a o,W.nsIn K mainGlobals "__builtins__"=some (some (.ref a))/\a≠builtinsNs/\a≠mainGlobals/\K.lookup a=some o/\o.cls=.type "module"/\o.dict=some builtinsNs/\o.data=.plain
structure mi (K:W.Frag) (h:Heap):Prop where
 at_:∀x∈dA,∀c T,W.tabIn K x=some (c,T)->W.codeHdIn K c T=true/\h.get? T=some {cls:=.none,data:=.fields #[]}/\K.lookup T=none
 nd:(dA.filterMap λx=>(W.tabIn K x).map (·.2)).Nodup
def mi.keeps{K:W.Frag}{h h':Heap}(t:mi K h)(k:∀b o,h.get? b=some o->h'.get? b=some o):mi K h':=⟨λx a c T e=>let ⟨d,f,g⟩:=t.at_ x a c T e;⟨d,k _ _ f,g⟩,t.nd⟩
structure IQ (P:Pg) (w:World) (K:W.Frag):Prop where
 hd:∀d∈P.defs,IM K d.1 d.2
 hc:∀d∈P.cons,∃u v,W.nsIn K mainGlobals d.1=some (some u)/\RelV v u/\∀F,bO K F d.2 v
 hb:∀x∈P.dt,W.nsIn K mainGlobals x=some none
 ht:∀d∈P.tabs,F9 K w.params d.1 d.2
 hcl:∀d∈P.cls,SF K d.1 d.2 P.flds
 hlm:∀x∈P.nZ,SG K x
 hbm:P.nZ≠[]->IP K
noncomputable def IS:Value->List Addr
 | .ref a=>[a]
 | _=>[]
def Eb:Option Obj->List Addr
 | some ⟨_,_,.dict a _,_⟩=>a.toList.flatMap λe=>IS e.val
 | some ⟨_,_,.func fd,_⟩=>IS fd.code
 | some ⟨_,_,.cls cd,_⟩=>cd.ns::cd.mro.flatMap IS
 | _=>[]
noncomputable def fragOf(h:Heap):List Addr->W.Frag
 | []=>[]
 | a::r=>match h.get? a with
  | some o=>(a,o)::fragOf h r
  | none=>fragOf h r
theorem n6(h:Heap):∀as:List Addr,(fragOf h as).In h
 | []=>λ_ _ e=>by cases e
 | a::r=>λb o e=>by
  unfold fragOf at e;split at e
  ·rename_i c ho;rw[jW]at e;cases z:b==a with
   | true =>
    rw[z]at e;cases e;rw[aY z];exact ho
   | false =>
    rw[z]at e;exact n6 h r b o e
  ·exact n6 h r b o e
def nsO:Option Obj->List Addr
 | some ⟨_,_,.cls cd,_⟩=>[cd.ns]
 | _=>[]
def abV(h:Heap)(a:Addr):List Addr:=a::(Eb (h.get? a)++(nsO (h.get? a)).flatMap λb=>(Eb (h.get? b)).flatMap λc=>c::Eb (h.get? c))
def fz(h:Heap):W.Frag:=fragOf h (mainGlobals::(Eb (h.get? mainGlobals)).flatMap (abV h))
noncomputable def chFn(K:W.Frag)(x:Str):Option FuncData:=match W.nsIn K mainGlobals x with
 | some (some (.ref f))=>(match K.lookup f with
  | some ⟨_,_,.func fd,_⟩=>(match W.codeIn K fd.code x with
   | true=>some {fd with kwdefaults:=.none,doc:=.none,pyModule:=.none,annotations:=none,code:=.none,closureTuple:=.none}
   | false=>none)
  | _=>none)
 | _=>none
def jF(x:Str)(st:Stmt):FuncData:=W.fnOf x x (ia st) (du st) (ax st) .none .none .none .none none .none .none
def Ng{K:W.Frag}{x:Str}{st:Stmt}(h:chFn K x=some (jF x st)):∃f a,W.nsIn K mainGlobals x=some (some (.ref f))/\Cj K x x st f a:=by
 unfold chFn at h;split at h
 ·rename_i f d;split at h
  ·rename_i u v a w c;split at h
   ·rename_i hc;have h:=bI h;obtain⟨y,B,C,D,E,H,I,J,L,M,e,g,i,j,k⟩:=a;unfold jF at h;simp only[FuncData.mk.injEq]at h;obtain⟨e1,l,m,o,p,q,r,t,-,-,-,-,-,-,b⟩:=h;subst e1 l m o p q r t b;exact⟨f,_,d,IL c hc (by unfold W.keepIn;dsimp only;rw[c])⟩
   ·cases h
  ·cases h
 ·cases h
def za(K:W.Frag)(g:Addr)(d:Str×PV):Bool:=match W.nsIn K g d.1 with
 | some (some (.int j _))=>(match d.2 with | .int i=>i==j | _=>false)
 | some (some (.str y _))=>(match d.2 with | .str x=>x==y | _=>false)
 | some (some (.ref a))=>(match K.lookup a with
  | some ⟨.type t,_,.seq us _,_⟩=>(match d.2 with | .nd .aq b=>(t=="tuple")&&(wW b us.toList&&decide (us.toList.length<=100)) | _=>false)
  | _=>false)
 | _=>false
def IT{K:W.Frag}{g:Addr}{x:Str}{p:PV}(h:za K g (x,p)=true):∃u v,W.nsIn K g x=some (some u)/\RelV v u/\∀F,bO K F p v:=by
 unfold za at h;dsimp only at h
 split at h
 ·rename_i j t b;split at h
  ·obtain rfl:=aY h;exact Nf b
  ·cases h
 ·rename_i y t b;split at h
  ·obtain rfl:=aY h;exact Nd b
  ·cases h
 ·rename_i a b;split at h
  ·rename_i t k c n l d;split at h
   ·rw[aR,aR]at h;obtain⟨e,f,i⟩:=h;obtain rfl:=aY e;obtain⟨c⟩:=c;exact Nc b d f (dF i)
   ·cases h
  ·cases h
 ·cases h
def zb(K:W.Frag)(x:Str):Bool:=match W.nsIn K mainGlobals x with
 | some none=>true
 | _=>false
def IU{K:W.Frag}{x:Str}(h:zb K x=true):W.nsIn K mainGlobals x=some none:=by
 unfold zb at h;split at h
 ·assumption
 ·cases h
abbrev OV:=Option (Option Value)
noncomputable def IV(e:DictEntry):Option Str×Int:=(match e.key with
 | .str x _=>some x
 | _=>none,e.hash)
noncomputable def IW(K:W.Frag)(a:Addr)(d:Str×Str):Bool:=match W.nsIn K a d.1,W.nsIn K mainGlobals d.2 with
 | some (some (.ref f)),some (some (.ref g))=>f==g
 | _,_=>false
def zc(K:W.Frag)(T:Str)(rows:List (Str×Str)):Option (Value×Option Addr×Array (Option Value)×List (Option Str×Int)×Bool):=match W.nsIn K mainGlobals T with
 | some (some (.ref a))=>(match K.lookup a with
  | some ⟨c,b,.dict d _,e⟩=>some (c,b,e,d.toList.map IV,rows.all (IW K a))
  | _=>none)
 | _=>none
noncomputable def qY(P:Params)(rows:List (Str×Str)):Option (Value×Option Addr×Array (Option Value)×List (Option Str×Int)×Bool):=some (.type "dict",none,#[],rows.map (λd=>(some d.1,PyData.keyHash P d.1)),true)
theorem zd{f:Type}{P:Params}:∀{a:List DictEntry} {rows:List (Str×f)},a.map IV=rows.map (λd=>(some d.1,PyData.keyHash P d.1))->W.KeysLit P a
 | [],_,_=>trivial
 | _::_,[],h=>by cases h
 | e::a,d::rows,h=>by
  rw[aM,aM,B9]at h;obtain⟨b,g⟩:=h;refine⟨?_,zd g⟩;unfold IV at b;rw[lK]at b;obtain⟨c,i⟩:=b;split at c
  ·grind
  ·cases c
def IX{K:W.Frag}{a:Addr}{d:Str×Str}(h:IW K a d=true):∃f,W.nsIn K a d.1=some (some (.ref f))/\W.nsIn K mainGlobals d.2=some (some (.ref f)):=by
 unfold IW at h;split at h
 ·grind
 ·cases h
def IY{K:W.Frag}{P:Params}{T:Str}{rows:List (Str×Str)}(h:zc K T rows=qY P rows):F9 K P T rows:=by
 unfold zc qY at h;split at h
 ·rename_i a b;split at h
  ·rename_i c i j n k e;have h:=bI h;simp only[lK]at h;obtain⟨rfl,rfl,rfl,f,g⟩:=h;exact abT b e (zd f) λd hd=>IX (gH.mp g d hd)
  ·cases h
 ·cases h
abbrev abX:=Option (Value×Option Addr×Array (Option Value)×List (Option Str×Int)×Bool)
noncomputable def Ck(K:W.Frag)(f:Addr)(qual:Str):Option FuncData:=match K.lookup f with
 | some ⟨_,_,.func fd,_⟩=>(match W.codeIn K fd.code qual with
  | true=>some {fd with kwdefaults:=.none,doc:=.none,pyModule:=.none,annotations:=none,code:=.none,closureTuple:=.none}
  | false=>none)
 | _=>none
def IZ(x qual:Str)(st:Stmt):FuncData:=W.fnOf x qual (ia st) (du st) (ax st) .none .none .none .none none .none .none
def Ga{K:W.Frag}{x qual:Str}{st:Stmt}{f:Addr}(h:Ck K f qual=some (IZ x qual st)):∃a,Cj K x qual st f a:=by
 unfold Ck at h;split at h
 ·rename_i t u a v c;split at h
  ·rename_i hc;have h:=bI h;obtain⟨w,y,B,C,D,E,H,I,J,L,d,e,g,i,j⟩:=a;unfold IZ at h;simp only[FuncData.mk.injEq]at h;obtain⟨e1,k,l,m,o,p,q,r,-,-,-,-,-,-,b⟩:=h;subst e1 k l m o p q r b;exact⟨_,IL c hc (by unfold W.keepIn;dsimp only;rw[c])⟩
  ·cases h
 ·cases h
abbrev SH:=Option (Bool×OV×List OV×Option FuncData)
def zf(K:W.Frag)(b:List Str)(C:Str):SH:=match W.nsIn K mainGlobals C with
 | some (some (.ref a))=>(match W.findIn K (.ref a) "__init__" with
  | some (some (.ref f))=>some (W.makesIn K a&&(W.isFn K (.ref f)&&(W.keepIn K (.ref a)&&(W.plainGet K a Str.empty&&(W.hasDictIn K a&&W.plainOver K a)))),W.findIn K (.ref a) "__setattr__",b.map (λg=>W.findIn K (.ref a) g),Ck K f (C++".__init__"))
  | _=>none)
 | _=>none
def qZ(a:List Str)(C:Str)(st:Stmt):SH:=some (true,some (some (.builtin "object.__setattr__")),a.map (λ_=>some none),some (IZ "__init__" (C++".__init__") st))
def wX:List Str->Bool
 | []=>true
 | x::r=>!r.contains x&&wX r
theorem uK:∀{l:List Str},wX l=true->l.Nodup
 | [],_=>jX
 | x::r,h=>by
  simp only[wX,aR,qJ,List.contains_eq_mem,decide_eq_false_iff_not]at h;exact gg.mpr ⟨h.1,uK h.2⟩
def abY:Option NameKind->Bool
 | some .local=>true
 | some .cell=>true
 | _=>false
def Xx:NameKind->Bool
 | .free=>false
 | _=>true
def Xy:ScopeKind->Bool
 | .function=>true
 | _=>false
def Nh(st:Stmt):Bool:=Xy (ax st).kind&&(!(ax st).isCoroutine&&(!(ax st).isGenerator&&(wX (cj st)&&((params st).all (λx=>abY ((ax st).names.lookup x))&&(ax st).names.all λy=>Xx y.2))))
def Ja{st:Stmt}(h:Nh st=true):dH (cj st) (params st) (ax st):=by
 unfold Nh at h;rw[aR,aR,aR,aR,aR]at h;obtain⟨a,i,j,c,d,e⟩:=h;refine⟨?_,by grind,by grind,uK c,?_,λx f=>?_,λy g=>?_⟩
 ·cases z:(ax st).kind<;>rw[z]at a<;>first | rfl | cases a
 ·exact List.take_left
 ·have k:=gH.mp d x f;cases z:(ax st).names.lookup x with
  | none=>rw[z]at k;cases k
  | some b =>
   rw[z]at k;cases b<;>first | exact .inl rfl | exact .inr rfl | cases k
 ·have k:=gH.mp e y g;intro z;rw[z]at k;cases k
def Ec(P:Pg):Prop:=∀(kV a b:Value) (an:Option Addr) (c ct:Value) (u:Nat->Value),
 P.defs.map (λd=>bindArgs (W.fnOf d.1 d.1 (ia d.2) (du d.2) (ax d.2) .none kV a b an c ct) ⟨(List.range (params d.2).length).map u,[]⟩)=P.defs.map λd=>pure ((params d.2).zip ((List.range (params d.2).length).map u))
def zg{a:List Value}{n:Nat}(h:a.length=n):(List.range n).map (λi=>a.getD i .none)=a:=by
 subst h;apply List.ext_getElem
 ·simp
 ·intro i c b;simp[b]
def SJ{K:W.Frag}{x:Str}{st:Stmt}{f:Addr}{c:FuncData}{P:Pg}(d:Ec P)(hd:(x,st)∈P.defs)(F:Cj K x x st f c)(a:List Value)(e:a.length=(params st).length):bindArgs c ⟨a,[]⟩=pure ((params st).zip a):=by
 obtain⟨l,m,kV,b,g,h,j,ct,o,rfl,p,q⟩:=F.ex;have k:=lG.mp (d kV b g h j ct λi=>a.getD i .none) (x,st) hd
 dsimp only at k
 rw[zg e]at k;exact k
def Ni(P:Pg):Prop:=∀(kV a b:Value) (an:Option Addr) (c ct:Value) (u:Nat->Value),
 P.cls.map (λd=>bindArgs (W.fnOf "__init__" (d.1++".__init__") (ia d.2) (du d.2) (ax d.2) .none kV a b an c ct) ⟨(List.range (params d.2).length).map u,[]⟩)=P.cls.map λd=>pure ((params d.2).zip ((List.range (params d.2).length).map u))
def Jb{K:W.Frag}{P:Pg}{C:Str}{st:Stmt}(SK:Nh st=true)(c:Ni P)(hd:(C,st)∈P.cls)(h:zf K P.flds C=qZ P.flds C st):SF K C st P.flds:=by
 unfold zf qZ at h;split at h
 ·rename_i a d;split at h
  ·rename_i f e;have h:=bI h;simp only[lK,aR]at h;obtain⟨⟨j,l,m,o,p,q⟩,r,t,u⟩:=h;obtain⟨v,F⟩:=Ga u;refine⟨a,f,v,d,⟨j,e,l,m⟩,⟨o,p,q,r⟩,λg w=>lG.mp t g w,F,λx y=>?_,Ja SK⟩
   obtain⟨H,I,kV,b,B,D,E,ct,J,rfl,L,M⟩:=F.ex;have k:=lG.mp (c kV b B D E ct λi=>x.getD i .none) (C,st) hd
   dsimp only at k
   rw[zg y]at k;exact k
  ·cases h
 ·cases h
noncomputable def Cn(K:W.Frag)(h:Heap)(x:Str):Bool:=match W.tabIn K x with
 | none=>true
 | some (c,T)=>W.codeHdIn K c T&&((K.lookup T).isNone&&(match h.get? T with
  | some ⟨.none,none,.fields a,b⟩=>a.isEmpty&&b.isEmpty
  | _=>false))
noncomputable def SM(K:W.Frag):Bool:=match W.nsIn K mainGlobals "__builtins__" with
 | some (some (.ref bm))=>!(bm==builtinsNs)&&(!(bm==mainGlobals)&&(match K.lookup bm with
  | some ⟨.type m,some d,.plain,_⟩=>(m=="module")&&(d==builtinsNs)
  | _=>false))
 | _=>false
def zh(P:Pg)(K:W.Frag)(h:Heap):Bool:=dA.all (Cn K h)&&(decide (dA.filterMap λx=>(W.tabIn K x).map (·.2)).Nodup&&((P.nZ.isEmpty || SM K)&&P.nZ.all λx=>dA.contains x&&(W.tabIn K x).isSome))
def uL{K:W.Frag}{h:Heap}{x:Str}{c T:Addr}(e:Cn K h x=true)(t:W.tabIn K x=some (c,T)):W.codeHdIn K c T=true/\h.get? T=some {cls:=.none,data:=.fields #[]}/\K.lookup T=none:=by
 unfold Cn at e;rw[t]at e;simp only[aR]at e;obtain⟨b,d,a⟩:=e;refine⟨b,?_,by simpa using d⟩
 split at a
 ·grind
 ·cases a
def Nj{K:W.Frag}(e:SM K=true):IP K:=by
 unfold SM at e;split at e
 ·rename_i b c;simp only[aR]at e;obtain⟨f,g,a⟩:=e;split at a
  ·rename_i m d h z;rw[aR]at a;obtain rfl:=aY a.1;obtain rfl:=aY a.2;exact⟨b,_,c,by grind,by grind,z,rfl,rfl,rfl⟩
  ·cases a
 ·cases e
def Jc{P:Pg}{K:W.Frag}{h:Heap}(e:zh P K h=true):mi K h/\(∀x∈P.nZ,SG K x)/\(P.nZ≠[]->IP K):=by
 unfold zh at e;simp only[aR]at e;obtain⟨f,g,i,j⟩:=e;have all:=gH.mp f;refine⟨⟨λx a c T t=>uL (all x a) t,dF g⟩,λx a=>?_,λz=>?_⟩
 ·have:=gH.mp j x a;rw[aR]at this;have b:x∈dA:=by grind
  cases t:W.tabIn K x with
  | none=>rw[t]at this;cases this.2
  | some d=>exact⟨b,d.1,d.2,t,(uL (all x b) t).1⟩
 ·rcases Bool.or_eq_true_iff.mp i with y | y
  ·grind
  ·exact Nj y
abbrev SN:=List (Option FuncData)×List (Option FuncData)×Bool×List abX×List SH
def Co(P:Pg)(K:W.Frag)(hp:Heap):SN:=((P.defs.take 26).map (λd=>chFn K d.1),(P.defs.drop 26).map (λd=>chFn K d.1),P.cons.all (za K mainGlobals)&&(P.dt.all (zb K)&&zh P K hp),P.tabs.map (λd=>zc K d.1 d.2),P.cls.map (λd=>zf K P.flds d.1))
def Cp(P:Pg)(w:World):SN:=((P.defs.take 26).map (λd=>some (jF d.1 d.2)),(P.defs.drop 26).map (λd=>some (jF d.1 d.2)),true,P.tabs.map (λd=>qY w.params d.2),P.cls.map (λd=>qZ P.flds d.1 d.2))
def Gb{P:Pg}{w:World}{K:W.Frag}(SK:P.defs.all (λd=>Nh d.2)=true)(Xz:Ec P)(Jd:P.cls.all (λd=>Nh d.2)=true)(Je:Ni P){hp:Heap}(h:Co P K hp=Cp P w):IQ P w K/\mi K hp:=by
 unfold Co Cp at h;simp only[lK]at h;obtain⟨e,g,b,i,j⟩:=h;rw[aR,aR]at b;obtain⟨k,l,m⟩:=Jc b.2.2;refine⟨⟨λd hd=>?_,λd hd=>IT (gH.mp b.1 d hd),λx o=>IU (gH.mp b.2.1 x o),λd hd=>IY (lG.mp i d hd),λd hd=>Jb (gH.mp Jd d hd) Je hd (lG.mp j d hd),l,m⟩,k⟩
 obtain⟨f,p,a,F⟩:=Ng (by
  have c:=hd;rw[<-wx 26 P.defs]at c;rcases bA.mp c with z | z
  ·exact lG.mp e d z
  ·exact lG.mp g d z)
 exact⟨⟨f,p,a,F,λq r=>SJ Xz hd F q r⟩,Ja (gH.mp SK d hd)⟩
def iK{c d e:Type}{o:Option c}{f:c->d}{g:c->e}{a:d}{b:e}(h1:o.map f=some a)(h:o.map g=some b):o.map (λs=>(f s,g s))=some (a,b):=by
 cases o with
 | none=>cases h1
 | some s=>cases h1;cases h;rfl
def Nk(P:Pg)(SK:P.defs.all (λd=>Nh d.2)=true)(Xz:Ec P)(Jd:P.cls.all (λd=>Nh d.2)=true)(Je:Ni P):W.Hook :=
 ⟨SN,λs=>Co P (fz s.heap) s.heap,λw=>Cp P w,λw h=>∃K:W.Frag,K.In h/\IQ P w K/\mi K h,λw s e=>⟨_,n6 _ _,Gb SK Xz Jd Je e⟩,λ_ _ _ ⟨K,a,b,c⟩ k=>⟨K,a.keeps k,b,c.keeps k⟩⟩
noncomputable def iL(p:Program)(c:String)(b:Bool)(N:Nat)(w:World):Option Shared:=(W.fencedOpening treeTable p w N).bind λa=>W.topFrom treeTable p (w.withFollow c b) N a
def Ge{p q:Program}{loose:List Str}{Xt:Shared->Bool}{c:Type}{Yf:Shared->c}{Ya:World->c}{N:Nat}{b:Bool}(a:String)
  (h1:∀w,(iL p a false N w).map (W.openSeen q loose (importedModules p.main.body) Xt b)=some (W.openGood q loose)) (j:∀w,(iL p a true N w).map (W.openSeen q loose (importedModules p.main.body) Xt b)=some (W.openGood q loose))
  (k:∀w,(iL p a false N w).map Yf=some (Ya (w.withFollow a false))) (l:∀w,(iL p a true N w).map Yf=some (Ya (w.withFollow a true))):W.LeftO p q loose Xt Yf Ya N b:=by
 refine W.LeftO.of_split a λw=>?_
 obtain⟨t,d,m⟩:=f9.mp (h1 w);obtain⟨u,e,b2⟩:=f9.mp (j w);obtain⟨v,f,o⟩:=f9.mp (k w);obtain⟨x,g,r⟩:=f9.mp (l w);rw[d]at f;rw[e]at g;cases f;cases g;obtain⟨y,h,tA⟩:=lB.mp d;obtain⟨B,i,tB⟩:=lB.mp e;rw[h]at i;cases i;rw[h,gh,tA,tB,gh,gh,m,b2,o,r]
end L2.U
namespace cq
open PySem L2 L2.U
noncomputable def top(i:Nat):Stmt:=PySem.Challenge.pw_lendrule_k24_empty_in_a_straight_functio.main.body.getD i (.Pass ⟨0,0,0,0⟩)
noncomputable def jm:List (Str×Str):=[("put","put_acts"),("set","set_acts"),("fill","put_acts"),("copy","copy_acts"),("move","move_acts"),("drop","drop_acts"),("lend","lend_acts"),("sole","lend_acts"),("call","call_acts"),("if","if_acts"),("go","go_acts"),("say","say_acts"),("give","give_acts")]
def txt:Pg where
 defs:=([("leaves",5),("check_part",6),("part",7),("first",8),("is_copied",9),("kind_of",12),("is_holder",13),("shape_of",14),("spread",16),("tell_new",17),("row_nexts",28),("acts",29),("nexts",30),("come_to",31),("arrivals",32),("touched",33),("touches",34),("touch",35),("touch_whole",36),("at_acts",37),("operand_acts",38),("target_acts",39),("put_acts",40),("set_acts",41),("copy_acts",42),("move_acts",43),("drop_acts",44),("lend_acts",45),("call_acts",46),("arg_act",47),("owner_act",48),("if_acts",49),("go_acts",50),("say_acts",51),("give_acts",52),("empties",55),("empty_at_first",56),("emptied",57),("stays_empty",58),("fills",59),("_law_cell_at",61),("_law_mixed",62),("_law_names",63),("_law_shape",64),("_law_leaves",65),("_law_parts",66),("_law_lets",67),("_law_spots",68),("_law_numbers",69),("_law_operand",70),("_law_carried",71),("_law_lending",72),("_law_call",73),("_law_small_row",74),("_law_row",75),("_law_program",76),("_law_first",77),("_law_starts",78),("_law_touched",79),("_law_emptied",80),("_law_filled",81),("_law_at_first",82),("law",83)]:List (String×Nat)).map λd=>(d.1,top d.2)
 cons:=[("HOLDER_WORDS",.aq [(.str "lent"),(.str "sole")]),("ROW",.int 0),("ACT",.int 1),("NAME",.int 2),("THROUGH",.int 3),("FIRST",.int 4),("MANY",.int 5),("TAKER",.int 6),("REST",.aq [(.str "rest"),(.str ""),(.bl false),(.int 0),(.int 0),(.str "")]),("HAND",.aq [(.str "hand"),(.str ""),(.bl false),(.int 0),(.int 0),(.str "")])]
 dt:=["dict","enumerate","int","isinstance","len","list","range","set","sorted","str","sum","tuple"]
 tabs:=[("MAKERS",jm)]
 cls:=[]
 flds:=[]
 nZ:=["arrivals","empties"]
 Xv:=[("leaves",[("told",1)]),("spread",[("known",10),("told",1)]),("tell_new",[("known",10),("told",1)]),("acts",[("told",1)]),("nexts",[("firsts",1),("told",1)]),("call_acts",[("told",1)]),("empties",[("firsts",1)]),("empty_at_first",[("told",1),("[return]",1)]),("emptied",[("told",1)]),("_law_names",[("_law_named",1)]),("_law_lets",[("_law_lets_here",1)]),("_law_spots",[("_law_found",1)]),("_law_numbers",[("_law_found",1)]),("_law_call",[("_law_args",1)]),("_law_program",[("_law_params",1),("_law_heads",1)]),("_law_starts",[("_law_starts_here",1)]),("_law_at_first",[("_law_empty",10),("[return]",10)]),("law",[("_law_ahead",2),("_law_empty",10)])]
section
end
theorem qb{b a c:Type}{E:Option b}{l:List a}{f:b->a->c}{g:a->c}(n:Nat)(h1:E.map (λs=>(l.take n).map (f s))=some ((l.take n).map g))(d:E.map (λs=>(l.drop n).map (f s))=some ((l.drop n).map g)):E.map (λs=>l.map (f s))=some (l.map g):=by
 cases E with
 | none=>cases h1
 | some s=>exact cS some (show l.map (f s)=l.map g by rw[<-wx n l,cw,cw,show(l.take n).map (f s)=_ from bI h1,show(l.drop n).map (f s)=_ from bI d])
theorem SK:txt.defs.all (λd=>Nh d.2)=true:=by kernel_rfl
theorem Xz:Ec txt:=by
 intro kV a b c d ct u;kernel_rfl
theorem Jd:txt.cls.all (λd=>Nh d.2)=true:=by kernel_rfl
theorem Je:Ni txt:=by
 intro kV a b c d ct u;kernel_rfl
noncomputable def qv:Program:=W.view (W.OpenLaw.prog PySem.Challenge.rw_lendrule_k24_empty_in_a_straight_functio) [83]
noncomputable def lo:List Str:=(W.OpenLaw.prog PySem.Challenge.rw_lendrule_k24_empty_in_a_straight_functio).boundNames.filter (· != "law")
def Xt(s:Shared):Bool:=W.xlAt qv [] s&&W.recOk (W.RowW.records (W.OpenRow.toRowW (W.OpenLaw.row PySem.Challenge.rw_lendrule_k24_empty_in_a_straight_functio))) s
abbrev hk:W.Hook:=Nk txt SK Xz Jd Je
theorem kq1(w:World):(iL (W.OpenLaw.prog PySem.Challenge.rw_lendrule_k24_empty_in_a_straight_functio) "special-get-raises" false 5000 w).map (W.openSeen qv lo (importedModules (W.OpenLaw.prog PySem.Challenge.rw_lendrule_k24_empty_in_a_straight_functio).main.body) Xt true)=some (W.openGood qv lo):=by kernel_rfl
theorem kq2(w:World):(iL (W.OpenLaw.prog PySem.Challenge.rw_lendrule_k24_empty_in_a_straight_functio) "special-get-raises" true 5000 w).map (W.openSeen qv lo (importedModules (W.OpenLaw.prog PySem.Challenge.rw_lendrule_k24_empty_in_a_straight_functio).main.body) Xt true)=some (W.openGood qv lo):=by kernel_rfl
theorem XA(w:World):(iL (W.OpenLaw.prog PySem.Challenge.rw_lendrule_k24_empty_in_a_straight_functio) "special-get-raises" false 5000 w).map (λs:Shared=>(txt.defs.take 26).map (λd=>chFn (fz s.heap) d.1))=some ((txt.defs.take 26).map (λd=>some (jF d.1 d.2))):=by kernel_rfl
theorem SO(w:World):(iL (W.OpenLaw.prog PySem.Challenge.rw_lendrule_k24_empty_in_a_straight_functio) "special-get-raises" false 5000 w).map (λs:Shared=>((txt.defs.drop 26).take 15).map (λd=>chFn (fz s.heap) d.1))=some (((txt.defs.drop 26).take 15).map (λd=>some (jF d.1 d.2))):=by kernel_rfl
theorem SQ(w:World):(iL (W.OpenLaw.prog PySem.Challenge.rw_lendrule_k24_empty_in_a_straight_functio) "special-get-raises" false 5000 w).map (λs:Shared=>(((txt.defs.drop 26).drop 15).take 15).map (λd=>chFn (fz s.heap) d.1))=some ((((txt.defs.drop 26).drop 15).take 15).map (λd=>some (jF d.1 d.2))):=by kernel_rfl
theorem SR(w:World):(iL (W.OpenLaw.prog PySem.Challenge.rw_lendrule_k24_empty_in_a_straight_functio) "special-get-raises" false 5000 w).map (λs:Shared=>(((txt.defs.drop 26).drop 15).drop 15).map (λd=>chFn (fz s.heap) d.1))=some ((((txt.defs.drop 26).drop 15).drop 15).map (λd=>some (jF d.1 d.2))):=by kernel_rfl
theorem SS(w:World):(iL (W.OpenLaw.prog PySem.Challenge.rw_lendrule_k24_empty_in_a_straight_functio) "special-get-raises" false 5000 w).map (λs:Shared=>txt.cons.all (za (fz s.heap) mainGlobals)&&(txt.dt.all (zb (fz s.heap))&&zh txt (fz s.heap) s.heap))=some true:=by kernel_rfl
theorem SU(w:World):(iL (W.OpenLaw.prog PySem.Challenge.rw_lendrule_k24_empty_in_a_straight_functio) "special-get-raises" false 5000 w).map (λs:Shared=>(txt.tabs.map (λd=>zc (fz s.heap) d.1 d.2),txt.cls.map (λd=>zf (fz s.heap) txt.flds d.1)))=some (txt.tabs.map (λd=>qY (w.withFollow "special-get-raises" false).params d.2),txt.cls.map (λd=>qZ txt.flds d.1 d.2)):=by kernel_rfl
theorem kq3(w:World):(iL (W.OpenLaw.prog PySem.Challenge.rw_lendrule_k24_empty_in_a_straight_functio) "special-get-raises" false 5000 w).map (W.Hook.obs hk)=some (W.Hook.val hk (w.withFollow "special-get-raises" false)):=iK (XA w) (iK (qb 15 (SO w) (qb 15 (SQ w) (SR w))) (iK (SS w) (SU w)))
theorem XB(w:World):(iL (W.OpenLaw.prog PySem.Challenge.rw_lendrule_k24_empty_in_a_straight_functio) "special-get-raises" true 5000 w).map (λs:Shared=>(txt.defs.take 26).map (λd=>chFn (fz s.heap) d.1))=some ((txt.defs.take 26).map (λd=>some (jF d.1 d.2))):=by kernel_rfl
theorem SW(w:World):(iL (W.OpenLaw.prog PySem.Challenge.rw_lendrule_k24_empty_in_a_straight_functio) "special-get-raises" true 5000 w).map (λs:Shared=>((txt.defs.drop 26).take 15).map (λd=>chFn (fz s.heap) d.1))=some (((txt.defs.drop 26).take 15).map (λd=>some (jF d.1 d.2))):=by kernel_rfl
theorem SX(w:World):(iL (W.OpenLaw.prog PySem.Challenge.rw_lendrule_k24_empty_in_a_straight_functio) "special-get-raises" true 5000 w).map (λs:Shared=>(((txt.defs.drop 26).drop 15).take 15).map (λd=>chFn (fz s.heap) d.1))=some ((((txt.defs.drop 26).drop 15).take 15).map (λd=>some (jF d.1 d.2))):=by kernel_rfl
theorem SY(w:World):(iL (W.OpenLaw.prog PySem.Challenge.rw_lendrule_k24_empty_in_a_straight_functio) "special-get-raises" true 5000 w).map (λs:Shared=>(((txt.defs.drop 26).drop 15).drop 15).map (λd=>chFn (fz s.heap) d.1))=some ((((txt.defs.drop 26).drop 15).drop 15).map (λd=>some (jF d.1 d.2))):=by kernel_rfl
theorem S2(w:World):(iL (W.OpenLaw.prog PySem.Challenge.rw_lendrule_k24_empty_in_a_straight_functio) "special-get-raises" true 5000 w).map (λs:Shared=>txt.cons.all (za (fz s.heap) mainGlobals)&&(txt.dt.all (zb (fz s.heap))&&zh txt (fz s.heap) s.heap))=some true:=by kernel_rfl
theorem S3(w:World):(iL (W.OpenLaw.prog PySem.Challenge.rw_lendrule_k24_empty_in_a_straight_functio) "special-get-raises" true 5000 w).map (λs:Shared=>(txt.tabs.map (λd=>zc (fz s.heap) d.1 d.2),txt.cls.map (λd=>zf (fz s.heap) txt.flds d.1)))=some (txt.tabs.map (λd=>qY (w.withFollow "special-get-raises" true).params d.2),txt.cls.map (λd=>qZ txt.flds d.1 d.2)):=by kernel_rfl
theorem kq4(w:World):(iL (W.OpenLaw.prog PySem.Challenge.rw_lendrule_k24_empty_in_a_straight_functio) "special-get-raises" true 5000 w).map (W.Hook.obs hk)=some (W.Hook.val hk (w.withFollow "special-get-raises" true)):=iK (XB w) (iK (qb 15 (SW w) (qb 15 (SX w) (SY w))) (iK (S2 w) (S3 w)))
theorem ws:W.OpenLaw.wellSaid PySem.Challenge.rw_lendrule_k24_empty_in_a_straight_functio=true:=by kernel_rfl
end cq
open PySem PySem.W PyProof.Rows PySem.Calls
set_option maxRecDepth 100000 in
set_option maxHeartbeats 0 in
theorem cq.la(hc:∀d:DefRec,d.name="law"->d.params.defaults=[]->W.WalkO cq.qv cq.lo (XL cq.qv []) (Hook.says cq.hk) (W.OpenRow.toRowW (W.OpenLaw.row PySem.Challenge.rw_lendrule_k24_empty_in_a_straight_functio)) d [] (λf vs=>PySem.call f vs)):PySem.Challenge.rw_lendrule_k24_empty_in_a_straight_functio.Holds:=by
 w_on;refine W.holds_law cq.ws λa=>?_
 refine W.holds_open (q:=cq.qv) (loose:=cq.lo) (Xt:=cq.Xt) (XP:=XL cq.qv []) (Yf:=Hook.obs cq.hk) (Ya:=Hook.val cq.hk) (YP:=Hook.says cq.hk) (N:=5000) (L2.U.Ge "special-get-raises" cq.kq1 cq.kq2 cq.kq3 cq.kq4) (Hook.of _) (Hook.keeps _) (λs e=>xl_of s (dR.mp e).1) XL.keeps (by rfl) (by rfl) (by rfl) (λs e=>recFacts_of (dR.mp e).2) (by rfl) (by first | assumption | decide +kernel) (by decide +kernel) ⟨rfl,rfl,rfl,rfl,rfl,by decide +kernel⟩ ?hw (hc _ rfl rfl)
 case hw=>w_witness2
end
namespace L2
open PySem PySem.Spec PyProof.Rows
noncomputable def uM:bh->Value->Bool
 | .inl k,v=>Value.isInt k v
 | .inr x,v=>Value.isStrOf x v
def abZ(w:World):bh->Int
 | .inl k=>hashInt k
 | .inr x=>hashStr w x
theorem dj:∀{k:bh} {v:Value},uM k v=true->(∃i t,k=Sum.inl i/\v=Value.int i t)\/(∃x t,k=Sum.inr x/\v=Value.str x t)
 | .inl i,v,h=>by
  obtain⟨t,e⟩:=Value.isInt_shape h;exact .inl ⟨i,t,rfl,e⟩
 | .inr x,v,h=>by
  obtain⟨t,e⟩:=Value.isStrOf_shape h;exact .inr ⟨x,t,rfl,e⟩
def Gf(i:Int)(t:Tok):uM (.inl i) (.int i t)=true:=by simp[uM,Value.isInt]
def Gg(x:Str)(t:Tok):uM (.inr x) (.str x t)=true:=by simp[uM,Value.isStrOf]
def S4(a b:Int):decide ((Sum.inl a:bh)=Sum.inl b)=(a==b):=by
 grind
def S5(a b:Str):decide ((Sum.inr a:bh)=Sum.inr b)=decide (a=b):=by
 grind
def S6(a:Int)(b:Str):decide ((Sum.inl a:bh)=Sum.inr b)=false:=by grind
def S7(a:Str)(b:Int):decide ((Sum.inr a:bh)=Sum.inl b)=false:=by grind
def b9(prog:Program)(w:World):PySem.KeyKind prog w bh where
 is:=uM
 hash:=abZ w
 inj:=λv a b f d=>by
  rcases dj f with⟨i,t,rfl,rfl⟩ | ⟨x,t,rfl,rfl⟩
  ·rcases dj d with⟨j,u,rfl,e⟩ | ⟨y,u,rfl,e⟩
   ·injection e with e1 _;rw[e1]
   ·exact nomatch e
  ·rcases dj d with⟨j,u,rfl,e⟩ | ⟨y,u,rfl,e⟩
   ·exact nomatch e
   ·injection e with e1 _;rw[e1]
 byValue:=λk v h=>by
  rcases dj h with⟨i,t,rfl,rfl⟩ | ⟨x,t,rfl,rfl⟩<;>rfl
 pyHash:=λc h=>by
  rcases dj c with⟨i,t,rfl,rfl⟩ | ⟨x,t,rfl,rfl⟩
  ·exact wpAny_pyHash_int h
  ·exact wpAny_pyHash_str h
 eqBool:=λg c h=>by
  rcases dj g with⟨i,t,rfl,rfl⟩ | ⟨x,t,rfl,rfl⟩
  ·rcases dj c with⟨j,u,rfl,rfl⟩ | ⟨y,u,rfl,rfl⟩
   ·rw[S4]at h;exact wpAny_eqBool_int h
   ·rw[S6]at h;exact SeqAt.EqAt.int_str i t y u _ _ _ _ h
  ·rcases dj c with⟨j,u,rfl,rfl⟩ | ⟨y,u,rfl,rfl⟩
   ·rw[S7]at h;exact SeqAt.EqAt.str_int x t j u _ _ _ _ h
   ·rw[S5]at h;exact wpAny_eqBool_str h
 «strs» := λk x t v h=>by
  rcases dj h with⟨i,u,rfl,e⟩ | ⟨y,u,rfl,e⟩
  ·exact nomatch e
  ·injection e with e1 _
   subst e1;cases v<;>rfl
def zi(prog:Program)(w:World)(i:Int)(t:Tok):(b9 prog w).is (.inl i) (.int i t)=true:=Gf i t
def zj(prog:Program)(w:World)(x:Str)(t:Tok):(b9 prog w).is (.inr x) (.str x t)=true:=Gg x t
def Vals.length(r:Vals xs us):xs.length=us.length:=nU r
theorem Vals.get:∀{xs:List V} {us:List Value} {i:Nat} {x:V},Vals xs us->xs[i]?=some x->∃u,us[i]?=some u/\RelV x u
 | _,_,_,_,.nil,e=>by simp at e
 | _,_,0,_,.cons r _,e=>by grind
 | _,_,i+1,x,.cons _ t,e=>by
  obtain⟨u,b,a⟩:=Vals.get t (by simpa using e)
  exact⟨u,by grind,a⟩
theorem Vals.set(r:RelV x u):∀{xs:List V} {us:List Value} (i:Nat),Vals xs us->Vals (xs.set i x) (us.set i u)
 | _,_,_,.nil=>.nil
 | _,_,0,.cons _ t=>.cons r t
 | _,_,i+1,.cons q t=>.cons q (Vals.set r i t)
theorem Vals.append:∀{xs a:List V} {us ws:List Value},Vals xs us->Vals a ws->Vals (xs++a) (us++ws)
 | _,_,_,_,.nil,s=>s
 | _,_,_,_,.cons r t,s=>.cons r (Vals.append t s)
theorem Vals.take:∀{xs:List V} {us:List Value} (n:Nat),Vals xs us->Vals (xs.take n) (us.take n)
 | _,_,0,_=>.nil
 | _,_,_+1,.nil=>.nil
 | _,_,n+1,.cons r t=>.cons r (Vals.take n t)
theorem Vals.drop:∀{xs:List V} {us:List Value} (n:Nat),Vals xs us->Vals (xs.drop n) (us.drop n)
 | _,_,0,r=>r
 | _,_,_+1,.nil=>.nil
 | _,_,n+1,.cons _ t=>Vals.drop n t
def q9:Option V->Option Value->Prop
 | some v,some u=>RelV v u
 | none,none=>True
 | _,_=>False
def KV{a:Type}:List (a×V)->List (a×Value)->Prop:=Paired fun(p:a×V) (q:a×Value)=>p.1=q.1/\RelV p.2 q.2
noncomputable def cu(H:Hp)(a:Addr)(o:HO):Hp:=λb=>if b=a then some o else H b
def aB:cu H a o a=some o:=by unfold cu;rw[if_pos rfl]
def aI(h:b≠a):cu H a o b=H b:=by unfold cu;rw[if_neg h]
def bZ{H:Hp}{a b:Addr}{o:HO}(h:H a=some o)(h':H b=none):a≠b:=by
 grind
section
variable (P:Program) (w:World)
def fG(H:Hp)(h:Heap)(a:Addr):HO->Prop
 | .lst xs=>xs.length<=sizeLine/\∃(d:List Value) (n:Nat),Vals xs d/\h.get? a=some {cls:=.type "list",data:=.seq d.toArray n}
 | .aq xs=>xs.length<=sizeLine/\∃d:List Value,Vals xs d/\IsTup h a d.toArray
 | .dK e=>e.length<=sizeLine/\(a==sysModules)=false/\∃g,KV e g/\h.DictOf (b9 P w) a g
 | .dT xs=>xs.length<=sizeLine/\(a==sysModules)=false/\∃o l B,h.get? a=some o/\o.ExactDict/\o.data=.dict l B/\l.toList=xs.map (entryOfKey (tupleKind (b9 P w)))/\(xs.map (·.1)).Nodup
 | .set S n=>h.SetOf (intKind P w) a S n
 | .oO C i fs=>H i=some (.own a)/\fs.length<=1000/\i≠a/\h.get? a=some (W.instObj C i) /\
   ∃b,h.Ns1 i b/\(∀f,q9 (fs.lookup f) (b f))/\PySem.Within b (fs.map (·.1))
 | .own _=>∃o,h.get? a=some o
 | .xd fs=>∃b,h.Ns1 a b/\∀f,q9 (fs.lookup f) (b f)
 | .rng lo D=>∃t u v,h.get? a=some {cls:=.type "range",data:=.fields #[.int lo t,.int D u,.int 1 v]}
 | .oQ o u=>h.get? a=some o/\fG H h a u
 | .Ci q=>∃j:Array Value,h.get? a=some {cls:=.none,data:=.fields j}/\TriplesOk j.toList/\∀(pos:Pos) (m:Value),codeAmong pos j.toList=some m ->
   ∃(c:Addr) (p:Obj) (u:HO) (g:Array Value) (t:Tok),m=.ref c/\H c=some (.oQ p u)/\p.data=.fields g/\g[1]?=some (.str q t)
 | .met f x=>h.get? a=some (W.methodObj (.ref f) (.ref x))
 | .ext k=>k h/\(∃o,h.get? a=some o)/\∀r y:Heap,k r->(∀o,r.get? a=some o->y.get? a=some o)->k y
def lP(H:Hp)(h:Heap):Prop:=∀a o,H a=some o->fG P w H h a o
end
section
variable {P:Program} {w:World} {H H':Hp} {h h':Heap} {a:Addr} {o:HO}
def fG.lt(x:fG P w H h a o):a<h.objs.size:=by
 cases o with
 | lst xs=>obtain⟨_,_,_,_,e⟩:=x;exact aX e
 | aq xs=>obtain⟨_,_,_,p⟩:=x;exact p.lt
 | dK b=>obtain⟨_,_,_,_,o,_,_,e,_⟩:=x;exact aX e
 | dT b=>obtain⟨_,_,o,_,_,e,_⟩:=x;exact aX e
 | set S n=>obtain⟨o,_,_,_,e,_⟩:=x;exact aX e
 | oO C c fs=>obtain⟨_,_,_,e,_⟩:=x;exact aX e
 | own y=>obtain⟨_,e⟩:=x;exact aX e
 | xd fs=>obtain⟨_,⟨_,_,_,e,_⟩,_⟩:=x;exact aX e
 | rng lo d=>obtain⟨_,_,_,e⟩:=x;exact aX e
 | oQ g u=>obtain⟨e,_⟩:=x;exact aX e
 | Ci q=>obtain⟨_,e,_⟩:=x;exact aX e
 | met f y=>exact aX (x)
 | ext i=>obtain⟨_,⟨_,e⟩,_⟩:=x;exact aX e
def fG.wY(x:fG P w H h a o)(k:∀b u,(b=a\/H b=some (.own a))->h.get? b=some u->h'.get? b=some u)
  (ho:∀b,H b=some (.own a)->H' b=some (.own a)) (ht:∀b xs,H b=some (.aq xs)->H' b=some (.aq xs)) (hz:∀b g u,H b=some (.oQ g u)->H' b=some (.oQ g u)):fG P w H' h' a o:=by
 induction o with
 | lst xs=>obtain⟨z,l,n,r,e⟩:=x;exact⟨z,l,n,r,k _ _ (.inl rfl) e⟩
 | aq xs=>obtain⟨z,l,r,g,e,c⟩:=x;exact⟨z,l,r,g,k _ _ (.inl rfl) e,c⟩
 | dK m=>obtain⟨z,y,B,r,g,i,j,e,c⟩:=x;exact⟨z,y,B,r,g,i,j,k _ _ (.inl rfl) e,c⟩
 | dT m=>obtain⟨z,y,g,i,j,e,c⟩:=x;exact⟨z,y,g,i,j,k _ _ (.inl rfl) e,c⟩
 | set S n=>obtain⟨g,i,j,t,e,c⟩:=x;exact⟨g,i,j,t,k _ _ (.inl rfl) e,c⟩
 | oO C Y fs =>
  obtain⟨d,z,ne,e,D,⟨E,i,j,J,c⟩,r⟩:=x;exact⟨ho _ d,z,ne,k _ _ (.inl rfl) e,D,⟨E,i,j,k _ _ (.inr d) J,c⟩,r⟩
 | own y=>obtain⟨g,e⟩:=x;exact⟨g,k _ _ (.inl rfl) e⟩
 | xd fs=>obtain⟨D,⟨E,i,j,e,c⟩,r⟩:=x;exact⟨D,⟨E,i,j,k _ _ (.inl rfl) e,c⟩,r⟩
 | rng lo Z=>obtain⟨t,u,v,e⟩:=x;exact⟨t,u,v,k _ _ (.inl rfl) e⟩
 | oQ g u ih=>obtain⟨e,q⟩:=x;exact⟨k _ _ (.inl rfl) e,ih q⟩
 | Ci q =>
  obtain⟨L,e,t,c⟩:=x;exact⟨L,k _ _ (.inl rfl) e,t,λpos M z=>let ⟨c,N,u,B,Q,R,T,X⟩:=c pos M z;⟨c,N,u,B,Q,R,hz _ _ _ T,X⟩⟩
 | met f y =>
  have e:=x;exact k a _ (.inl rfl) e
 | ext φ=>obtain⟨p,⟨o,e⟩,I⟩:=x;exact⟨I _ _ p λo q=>k _ _ (.inl rfl) q,⟨o,k _ _ (.inl rfl) e⟩,I⟩
def lP.lt(x:lP P w H h)(e:H a=some o):a<h.objs.size:=(x a o e).lt
def lP.fresh(x:lP P w H h)(e:h.objs.size<=a):H a=none:=by
 cases q:H a with
 | none=>rfl
 | some u=>exact absurd (b7 (x.lt q) e) (gI _)
def lP.kept(x:lP P w H h)(k:∀b u,h.get? b=some u->h'.get? b=some u):lP P w H h':=λa o e =>
 (x a o e).wY (λb u _ q=>k b u q) (λ_ q=>q) (λ_ _ q=>q) λ_ _ _ q=>q
def lP.laid(x:lP P w H h)(k:∀b u,h.get? b=some u->h'.get? b=some u)(hp:h.objs.size<=a)(d:fG P w (cu H a o) h' a o):lP P w (cu H a o) h':=λb u e=>by
 have f:=x.fresh hp;by_cases g:b=a
 ·subst g;rw[aB]at e;cases e;exact d
 ·rw[aI g]at e;exact(x b u e).wY (λc v _ q=>k c v q) (λc q=>by rw[aI (bZ q f)];exact q) (λc i q=>by rw[aI (bZ q f)];exact q) λc j v q=>by rw[aI (bZ q f)];exact q
end
def Rd.ok(r:Rd H a u)(x:lP P w H h):fG P w H h a u:=by
 rcases r with r | ⟨o,r⟩
 ·exact x a u r
 ·obtain⟨_,q⟩:=x a _ r;exact q
def Mut:Option HO->Prop
 | some (.lst _)=>True
 | some (.dK _)=>True
 | some (.dT _)=>True
 | some (.set _ _)=>True
 | some (.oO _ _ _)=>True
 | some (.ext _)=>True
 | _=>False
section
variable {P:Program} {w:World} {H:Hp} {h h':Heap} {x e:Addr} {o':HO}
def lP.write(ok:lP P w H h)(a:Mut (H x))(he:e=x\/H e=some (.own x))(k:∀b u,b≠e->h.get? b=some u->h'.get? b=some u)(t:∃u,h'.get? e=some u)
  (j:fG P w (cu H x o') h' x o'):lP P w (cu H x o') h':=λb u q=>by
 have o:∀c y,H c=some (.own y)->c≠x:=λc y r z=>by subst z;rw[r]at a;exact a
 have l:∀c d,H c=some (.aq d)->c≠x:=λc d r z=>by subst z;rw[r]at a;exact a
 have m:∀c f v,H c=some (.oQ f v)->c≠x:=λc f v r z=>by subst z;rw[r]at a;exact a
 by_cases g:b=x
 ·subst g;rw[aB]at q;cases q;exact j
 ·rw[aI g]at q;by_cases i:b=e
  ·have p:H b=some (.own x):=by
    rcases he with z | z
    ·exact absurd (i.trans z) g
    ·rw[i];exact z
   rw[q]at p;cases p;obtain⟨v,B⟩:=t;exact⟨v,by rw[i];exact B⟩
  ·refine(ok b u q).wY (λc v hc r=>k c v ?_ r) (λc r=>by rw[aI (o c b r)];exact r) (λc d r=>by rw[aI (l c d r)];exact r) λc f v r=>by rw[aI (m c f v r)];exact r
   rcases hc with rfl | hc
   ·exact i
   ·rintro rfl
    rcases he with z | z
    ·exact o c b hc z
    ·rw[hc]at z;cases z;exact g rfl
end
structure Un (fs ex:List Addr) (H H':Hp) (h h':Heap):Prop where
 keep:∀b o,h.get? b=some o->H b=none->b∉fs->b∉ex->h'.get? b=some o
 slot:∀b o,h.get? b=some o->H b=none->b∈fs->b∉ex->∃sl,h'.get? b=some {o with slots:=sl}
 free:∀b o,h.get? b=some o->H b=none->b∉ex->H' b=none
 there:∀b o,h.get? b=some o->b∉ex->∃o',h'.get? b=some o'
 tups:∀b xs,H b=some (.aq xs)->H' b=some (.aq xs)
 frzs:∀b o u,H b=some (.oQ o u)->H' b=some (.oQ o u)
 tbls:∀b q,H b=some (.Ci q)->H' b=some (.Ci q)
section
variable {fs QU ex ex':List Addr} {H H1 H2:Hp} {h h1 h2 h':Heap} {a x e:Addr} {o:HO}
def Un.any(u:Un fs ex H H1 h h1)(q:h.get? b=some c)(n:H b=none)(d:b∉ex):∃g,h1.get? b=some {c with slots:=g}:=by
 by_cases f:b∈fs
 ·exact u.slot b c q n f d
 ·exact⟨c.slots,u.keep b c q n f d⟩
def Un.trans(a:Un fs ex H H1 h h1)(b:Un fs ex H1 H2 h1 h2):Un fs ex H H2 h h2 where
 keep:=λc d q n hc f=>b.keep c d (a.keep c d q n hc f) (a.free c d q n f) hc f
 slot:=λc d q n hc f=>by
  obtain⟨l,e1⟩:=a.slot c d q n hc f;obtain⟨j,k⟩:=b.slot c _ e1 (a.free c d q n f) hc f;exact⟨j,k⟩
 free:=λc d q n f=>by
  obtain⟨i,e1⟩:=a.there c d q f;exact b.free c i e1 (a.free c d q n f) f
 there:=λc d q f=>by
  obtain⟨i,e1⟩:=a.there c d q f;exact b.there c i e1 f
 tups:=λc g q=>b.tups c g (a.tups c g q)
 frzs:=λc d g q=>b.frzs c d g (a.frzs c d g q)
 tbls:=λc q e=>b.tbls c q (a.tbls c q e)
def Un.kept(k:∀b u,h.get? b=some u->h'.get? b=some u):Un fs ex H H h h' :=
 ⟨λb c q _ _ _=>k b c q,λb c q _ _ _=>⟨c.slots,k b c q⟩,λ_ _ _ n _=>n,λb c q _=>⟨c,k b c q⟩,λ_ _ q=>q,λ_ _ _ q=>q,λ_ _ q=>q⟩
def Un.refl:Un fs ex H H h h:=Un.kept λ_ _ q=>q
def Un.laid(k:∀b u,h.get? b=some u->h'.get? b=some u)(hp:h.objs.size<=a)(c:H a=none):Un fs ex H (cu H a o) h h' where
 keep:=λb u q _ _ _=>k b u q
 slot:=λb u q _ _ _=>⟨u.slots,k b u q⟩
 free:=λb u q n _=>by rw[aI (bD (b7 (aX q) hp))];exact n
 there:=λb u q _=>⟨u,k b u q⟩
 tups:=λb d q=>by rw[aI (bZ q c)];exact q
 frzs:=λb u d q=>by rw[aI (bZ q c)];exact q
 tbls:=λb f q=>by rw[aI (bZ q c)];exact q
def Un.write(c:Mut (H x))(he:e=x\/H e=some (.own x))(k:∀b u,b≠e->h.get? b=some u->h'.get? b=some u)(j:∃u,h'.get? e=some u):Un fs ex H (cu H x o) h h':=by
 have f:∀b,H b=none->b≠x:=λb n z=>by subst z;rw[n]at c;exact c
 have g:∀b,H b=none->b≠e:=λb n z=>by
  subst z;rcases he with r | r
  ·exact f b n r
  ·rw[n]at r;cases r
 have d:∀b u,H b=some u->¬Mut (some u)->b≠x:=λb u q nm z=>by subst z;rw[q]at c;exact nm c
 refine⟨λb u q n _ _=>k b u (g b n) q,λb u q n _ _=>⟨u.slots,k b u (g b n) q⟩,λb u q n _=>by rw[aI (f b n)];exact n,λb u q _=>?_,
  λb l q=>by rw[aI (d b _ q λz=>z)];exact q,λb u l q=>by rw[aI (d b _ q λz=>z)];exact q,λb m q=>by rw[aI (d b _ q λz=>z)];exact q⟩
 by_cases i:b=e
 ·subst i;exact j
 ·exact⟨u,k b u i q⟩
end
noncomputable def trk(h:Heap)(H:Hp):List Addr:=(List.range h.objs.size).filter λa=>(H a).isSome
def zm(h:Heap)(H:Hp):Heap:=W.hideAll h (trk h H)
def Gh(h:Heap)(H:Hp):(zm h H).objs.size=h.objs.size:=W.hideAll_size _ _
def hidT_get(e:h.get? b=some o)(n:H b=none):(zm h H).get? b=some o :=
 W.hideAll_get _ e λa=>by
  have q:=(cR.mp a).2;rw[n]at q;simp at q
def of_hidT(e:(zm h H).get? b=some o):h.get? b=some o/\H b=none:=by
 have a:=W.of_hideAll (trk h H) e;refine⟨a,?_⟩;cases q:H b with
 | none=>rfl
 | some x =>
  have c:b∈trk h H:=cR.mpr ⟨c7.mpr (aX a),by simp[q]⟩
  have z:(zm h H).get? b=none:=W.hideAll_none (trk h H) c;rw[z]at e;cases e
structure Mod (K:W.Frag) (mg:Str->Option Value) (base:Heap):Prop where
 kin:K.In base
 glob:base.Ns mainGlobals mg
 blt:∃mb,base.Ns builtinsNs mb/\∀x:Str,x≠"__name__"->mb x=bootBuiltins x
 nolimit:base.NoLimit
structure Cx where
 prog:Program
 w:World
 K:W.Frag
 mg:Str->Option Value
 base:Heap
 A:Around
 N:List Str
 s₀:Shared
 aa:Hp
 env:Env
 ay:List Env
 stack:List Env
 ex:List Addr
 fn:Str->Bool
 calm:Bool
 pn:List (Addr×Obj)
 xe:Value->Shared->Prop
noncomputable def oe(l:List Env):List Addr:=l.filterMap (·.frame)
abbrev Cx.fs(X:Cx):List Addr:=oe X.ay
def XE(a:Scope)(x:Str):Prop:=a.names.lookup x=some .local\/a.names.lookup x=some .cell\/a.names.lookup x=some .free
def QV(a:Scope)(x:Str):Prop:=a.names.lookup x=some .local\/a.names.lookup x=some .cell
def ab2(a:Env)(h:Heap)(m:Str->Option Value)(x:Str)(u:Value):Prop :=
 (a.kindOf x=some .local/\m x=some u)\/((a.kindOf x=some .cell\/a.kindOf x=some .free)/\∃c,a.cells.lookup x=some c/\h.IsCell c (some u))
def zq(x:Str):Str:=x++".<locals>."++"<lambda>"
def rf(K:W.Frag)(H:Hp):Prop:=∀x∈dA,∀c T,W.tabIn K x=some (c,T)->H T=some (.Ci (zq x))
structure Cx.Ok (X:Cx):Prop where
 mod:Mod X.K X.mg X.base
 kind:X.env.scope.kind=.function
 glob:X.env.globals=mainGlobals
 blt:X.env.builtins=builtinsNs
 above:X.s₀.heap.objs.size<=X.env.locals
 inj:∀x y c,X.env.cells.lookup x=some c->X.env.cells.lookup y=some c->x=y
 has:∀x,(X.env.kindOf x=some .cell\/X.env.kindOf x=some .free)->∃c,X.env.cells.lookup x=some c
 cab:∀x c,X.fn x=true->X.env.cells.lookup x=some c->X.s₀.heap.objs.size<=c
 hd:X.calm=true->X.A.handled=none
 frames:X.A.frames=some X.stack
 stk:X.stack=X.ay\/(X.stack=X.env::X.ay/\X.env.frame=some X.env.locals)
 exf:∀b∈X.ex,b≠X.env.locals/\∀x c,X.env.cells.lookup x=some c->c≠b
 bs:∀b o,X.base.get? b=some o->X.s₀.heap.get? b=some o/\X.aa b=none
 bsz:X.base.objs.size<=X.s₀.heap.objs.size
 noex:∀b o,X.base.get? b=some o->b∉X.ex
 exfs:∀b∈X.ex,b∉X.fs
 funs:X.s₀.heap.FunFrames X.base X.ay
 frf:∀b∈X.fs,X.aa b=none
 tabs:rf X.K X.aa
structure Inv (X:Cx) (ae:List (Addr×Obj)) (σ:List (Option V)) (H:Hp) (s:Shared):Prop where
 ok:X.Ok
 os:s.os=X.s₀.os
 bare:AllBare s.gens
 base:Un X.fs X.ex X.aa H X.s₀.heap s.heap
 loc:∃m,s.heap.Ns X.env.locals m/\∀(i:Nat) (x:Str) (v:V),X.N[i]?=some x->σ[i]?=some (some v)->XE X.env.scope x->∃u,RelV v u/\ab2 X.env s.heap m x u
 cell:∀x c,X.env.cells.lookup x=some c->∃v,s.heap.IsCell c v
 free:H X.env.locals=none
 freeC:∀x c,X.env.cells.lookup x=some c->H c=none
 pin:∀p∈X.pn++ae,s.heap.get? p.1=some p.2/\H p.1=none/\p.1≠X.env.locals/\p.1∉X.fs/\∀v,p.2.data≠.cell v
 hok:lP X.prog X.w H s.heap
 len:σ.length=X.N.length
section
variable {X:Cx} {ae:List (Addr×Obj)} {σ:List (Option V)} {H H':Hp} {s:Shared} {h':Heap}
def Cx.Ok.ab3(ok:X.Ok)(e:X.base.get? b=some o):b∉X.fs:=λa=>by
 have:=(ok.funs.mem a).1;rw[e]at this;cases this
def Inv.bs(I:Inv X ae σ H s):∀b o,X.base.get? b=some o->s.heap.get? b=some o/\H b=none:=λb o e =>
 ⟨I.base.keep b o (I.ok.bs b o e).1 (I.ok.bs b o e).2 (I.ok.ab3 e) (I.ok.noex b o e),I.base.free b o (I.ok.bs b o e).1 (I.ok.bs b o e).2 (I.ok.noex b o e)⟩
def Inv.bk(I:Inv X ae σ H s):∀b o,X.base.get? b=some o->s.heap.get? b=some o:=λb o e=>(I.bs b o e).1
def Inv.mod(I:Inv X ae σ H s):Mod X.K X.mg X.base:=I.ok.mod
def Inv.rg(I:Inv X ae σ H s):X.K.In s.heap:=I.ok.mod.kin.keeps I.bk
def Inv.lt(I:Inv X ae σ H s):X.env.locals<s.heap.objs.size:=let ⟨_,a,_⟩:=I.loc;a.lt
def Inv.sz(I:Inv X ae σ H s):X.s₀.heap.objs.size<=s.heap.objs.size:=bP I.ok.above (nY I.lt)
def Inv.ab4(I:Inv X ae σ H s){a:Addr}(h:s.heap.objs.size<=a):a∉X.fs:=λb=>by
 obtain⟨_,o,ho,_⟩:=I.ok.funs.mem b;exact absurd (b7 (aX ho) (bP I.sz h)) (gI _)
def Inv.S9(I:Inv X ae σ H s):∀x c,X.env.cells.lookup x=some c->c≠X.env.locals:=λx c e z=>by
 obtain⟨v,o,ho,hd⟩:=I.cell x c e;obtain⟨m,⟨d,f,g,a,b,_⟩,_⟩:=I.loc;rw[z,a]at ho;cases ho;rw[b]at hd;cases hd
def Inv.funs(I:Inv X ae σ H s):s.heap.FunFrames X.base X.ay:=by
 have all:∀l,(∀b∈oe l,b∈X.fs)->X.s₀.heap.FunFrames X.base l->s.heap.FunFrames X.base l:=by
  intro l;induction l with
  | nil=>intro _ _;trivial
  | cons env r ih =>
   intro f g;obtain⟨hk,⟨L,o,a,h,ho,hd⟩,j⟩:=g;have c:=f L (by unfold oe;rw[nL,a];exact aJ)
   obtain⟨k,e⟩:=I.base.slot L o ho (I.ok.frf L c) c λz=>I.ok.exfs L z c
   exact⟨hk,⟨L,_,a,h,e,hd⟩,ih (λb d=>f b (by unfold oe;rw[nL,a];exact aH _ d)) j⟩
 exact all X.ay (λ_ d=>d) I.ok.funs
def Inv.stack(I:Inv X ae σ H s):s.heap.FunFrames X.base X.stack:=by
 rcases I.ok.stk with e | ⟨e,hf⟩
 ·rw[e];exact I.funs
 ·rw[e];obtain⟨m,a,_⟩:=I.loc;refine .cons (by rw[I.ok.kind];decide) hf a ?_ I.funs
  exact Heap.get?_none_of_le (bP I.ok.bsz I.ok.above)
def Inv.wZ(I:Inv X ae σ H s):∀b∈oe X.stack,b∈X.env.locals::X.fs:=λb a=>by
 rcases I.ok.stk with e | ⟨e,hf⟩
 ·rw[e]at a;exact aH _ a
 ·rw[e]at a;unfold oe at a;rw[nL,hf]at a;exact a
def Inv.w6(I:Inv X ae σ H s):∀b∈oe X.stack,H b=none:=λb a=>by
 rcases aK.mp (I.wZ b a)with e | a
 ·rw[e];exact I.free
 ·obtain⟨_,o,ho,_⟩:=I.ok.funs.mem a;exact I.base.free b o ho (I.ok.frf b a) λz=>I.ok.exfs b z a
def Inv.tabs(I:Inv X ae σ H s):rf X.K H:=λx a c T e=>I.base.tbls T _ (I.ok.tabs x a c T e)
def Inv.step{M:Array GenState}{t':Nat}{R:Drawn}{ch:List Addr}(I:Inv X ae σ H s)
  (D:∀b∈ch,(b∈X.ex\/X.s₀.heap.objs.size<=b)/\b≠X.env.locals/\(∀x c,X.env.cells.lookup x=some c->c≠b)/\∀p∈X.pn++ae,p.1≠b)
  (keep:∀b o,b≠X.env.locals->b∉X.fs->b∉ch->s.heap.get? b=some o->H b=none->h'.get? b=some o)
  (slot:∀b o,b≠X.env.locals->b∈X.fs->b∉ch->s.heap.get? b=some o->H b=none->∃E,h'.get? b=some {o with slots:=E}) (free:∀b o,b∉ch->s.heap.get? b=some o->H b=none->H' b=none)
  (h:∀b o,b∉ch->s.heap.get? b=some o->∃t,h'.get? b=some t)
  (tups:∀b xs,H b=some (.aq xs)->H' b=some (.aq xs)) (frzs:∀b o u,H b=some (.oQ o u)->H' b=some (.oQ o u)) (y:∀b q,H b=some (.Ci q)->H' b=some (.Ci q))
  (T:∀m,s.heap.Ns X.env.locals m->h'.Ns X.env.locals m) (J:lP X.prog X.w H' h') (Y:AllBare M) :
  Inv X ae σ H' {s with heap:=h',gens:=M,drawn:=R,toks:=t'}:=by
 have B:∀b o,X.s₀.heap.get? b=some o->b≠X.env.locals:=λb o e=>bD (b7 (aX e) I.ok.above)
 have g:∀b o,X.s₀.heap.get? b=some o->b∉X.ex->b∉ch:=λb o e a j=>by
  rcases(D b j).1 with z | z
  ·exact a z
  ·exact absurd (b7 (aX e) z) (gI _)
 have f:∀x c,X.env.cells.lookup x=some c->∀v,s.heap.IsCell c v->h'.IsCell c v:=by
  rintro x c e v ⟨o,ho,hd⟩
  have C:c∉ch:=by grind
  by_cases hc:c∈X.fs
  ·obtain⟨E,q⟩:=slot c o (I.S9 x c e) hc C ho (I.freeC x c e);exact⟨_,q,hd⟩
  ·exact⟨o,keep c o (I.S9 x c e) hc C ho (I.freeC x c e),hd⟩
 refine⟨I.ok,I.os,Y,⟨λb o e n j a=>?_,λb o e n j a=>?_,λb o e n a=>?_,λb o e a=>?_,λb xs e=>tups b xs (I.base.tups b xs e),λb o xs e=>frzs b o xs (I.base.frzs b o xs e),λb N e=>?_⟩,?_,λx c e=>?_,?_,λx c e=>?_,λp hp=>?_,J,I.len⟩
 ·exact keep b o (B b o e) j (g b o e a) (I.base.keep b o e n j a) (I.base.free b o e n a)
 ·obtain⟨E,e1⟩:=I.base.slot b o e n j a;obtain⟨Z,L⟩:=slot b _ (B b o e) j (g b o e a) e1 (I.base.free b o e n a);exact⟨Z,L⟩
 ·obtain⟨t,e1⟩:=I.base.there b o e a;exact free b t (g b o e a) e1 (I.base.free b o e n a)
 ·obtain⟨t,e1⟩:=I.base.there b o e a;exact h b t (g b o e a) e1
 ·exact y b N (I.base.tbls b N e)
 ·obtain⟨m,hn,hl⟩:=I.loc;refine⟨m,T m hn,λi x v e1 L e3=>?_⟩
  obtain⟨u,r,l⟩:=hl i x v e1 L e3;refine⟨u,r,?_⟩;rcases l with l | ⟨k,c,e,z⟩
  ·exact .inl l
  ·exact .inr ⟨k,c,e,f x c e _ z⟩
 ·obtain⟨v,z⟩:=I.cell x c e;exact⟨v,f x c e v z⟩
 ·obtain⟨m,⟨o,_,_,ho,_⟩,_⟩:=I.loc;exact free _ o (λz=>(D _ z).2.1 rfl) ho I.free
 ·obtain⟨v,o,ho,hd⟩:=I.cell x c e;exact free c o (λz=>(D c z).2.2.1 x c e rfl) ho (I.freeC x c e)
 ·obtain⟨e,n,ne,Q,d⟩:=I.pin p hp;have C:p.1∉ch:=by grind
  exact⟨keep p.1 p.2 ne Q C e n,free p.1 p.2 C e n,ne,Q,d⟩
def Inv.un{t':Nat}(I:Inv X ae σ H s)(u:Un X.fs [] H H' s.heap h')(a:lP X.prog X.w H' h'):Inv X ae σ H' {s with heap:=h',toks:=t'}:=by
 obtain⟨m,⟨o,l,p,ho,r⟩,_⟩:=id I.loc;obtain⟨q,h⟩:=u.any ho I.free (by simp)
 exact I.step (ch:=[]) (λ_ z=>nomatch z) (λb o _ c _ e n=>u.keep b o e n c (by simp)) (λb o _ c _ e n=>u.slot b o e n c (by simp)) (λb o _ e n=>u.free b o e n (by simp)) (λb o _ e=>u.there b o e (by simp)) u.tups u.frzs u.tbls (λt j=>by
  obtain⟨y,d,f,g,k⟩:=j;rw[ho]at g;cases g;exact⟨_,d,f,h,k⟩) a I.bare
def Inv.call{h:Array GenState}{t':Nat}{l:Drawn}{ch:List Addr}(I:Inv X ae σ H s)(u:Un (oe X.stack) ch H H' s.heap h')(a:lP X.prog X.w H' h')(q:AllBare h)
  (j:∀b∈ch,(b∈X.ex\/X.s₀.heap.objs.size<=b)/\b≠X.env.locals/\(∀x c,X.env.cells.lookup x=some c->c≠b)/\∀p∈X.pn++ae,p.1≠b) :
  Inv X ae σ H' {s with heap:=h',gens:=h,drawn:=l,toks:=t'}:=by
 obtain⟨m,⟨o,C,D,ho,r⟩,_⟩:=id I.loc;obtain⟨E,d⟩:=u.any ho I.free λz=>(j _ z).2.1 rfl
 exact I.step j (λb o d t hc e n=>u.keep b o e n (λz=>(aK.mp (I.wZ b z)).elim d t) hc) (λb o _ _ hc e n=>u.any e n hc) (λb o hc e n=>u.free b o e n hc) (λb o hc e=>u.there b o e hc) u.tups u.frzs u.tbls (λJ y=>by
  obtain⟨L,f,g,k,B⟩:=y;rw[ho]at k;cases k;exact⟨_,f,g,d,B⟩) a q
def Inv.turned{t':Nat}(I:Inv X ae σ H s)(k:∀b o,b≠it->s.heap.get? b=some o->h'.get? b=some o)(f:H it=none)(a:it≠X.env.locals)
  (h1:it∈X.ex\/X.s₀.heap.objs.size<=it) (g:∀x c,X.env.cells.lookup x=some c->c≠it) (h:∀p∈X.pn++ae,p.1≠it):Inv X ae σ H {s with heap:=h',toks:=t'}:=by
 have d:∀b u,H b=some u->b≠it:=λb u e z=>by rw[z,f]at e;cases e
 refine I.step (ch:=[it]) (λb j=>?_) (λb o _ _ hc e _=>k b o (λz=>hc (by simp[z])) e) (λb o _ _ hc e _=>⟨o.slots,k b o (λz=>hc (by simp[z])) e⟩) (λ_ _ _ _ n=>n)
  (λb o hc e=>⟨o,k b o (λz=>hc (by simp[z])) e⟩) (λ_ _ e=>e) (λ_ _ _ e=>e) (λ_ _ e=>e) (λm l=>?_) (λb u e=>?_) I.bare
 ·have e:b=it:=by simpa using j
  subst e;exact⟨h1,a,g,h⟩
 ·obtain⟨o,t,w,ho,r⟩:=l;exact⟨o,t,w,k _ o (dz a) ho,r⟩
 ·refine(I.hok b u e).wY (λc v hc q=>k c v ?_ q) (λ_ q=>q) (λ_ _ q=>q) λ_ _ _ q=>q
  rcases hc with z | z
  ·rw[z];exact d b u e
  ·exact d c _ z
def Inv.tok(I:Inv X ae σ H s)(t:Nat):Inv X ae σ H {s with toks:=t}:=I.un Un.refl I.hok
def Inv.kept(I:Inv X ae σ H s)(k:∀b u,s.heap.get? b=some u->h'.get? b=some u):Inv X ae σ H {s with heap:=h',toks:=t'}:=I.un (Un.kept k) (I.hok.kept k)
def Inv.laid{a:Addr}{o:HO}{t':Nat}(I:Inv X ae σ H s)(k:∀b u,s.heap.get? b=some u->h'.get? b=some u)(hp:s.heap.objs.size<=a)(c:fG X.prog X.w (cu H a o) h' a o) :
  Inv X ae σ (cu H a o) {s with heap:=h',toks:=t'}:=I.un (Un.laid k hp (I.hok.fresh hp)) (I.hok.laid k hp c)
def Inv.write(I:Inv X ae σ H s)(c:Mut (H x))(he:e=x\/H e=some (.own x))(k:∀b u,b≠e->s.heap.get? b=some u->h'.get? b=some u)(d:∃u,h'.get? e=some u)
  (a:fG X.prog X.w (cu H x o) h' x o):Inv X ae σ (cu H x o) {s with heap:=h',toks:=t'}:=I.un (Un.write c he k d) (I.hok.write c he k d a)
def Inv.mj(I:Inv X ae σ H s)(h:∀p∈a,s.heap.get? p.1=some p.2/\H p.1=none/\p.1≠X.env.locals/\p.1∉X.fs/\∀v,p.2.data≠.cell v):Inv X a σ H s :=
 ⟨I.ok,I.os,I.bare,I.base,I.loc,I.cell,I.free,I.freeC,λp hp=>(bA.mp hp).elim (λz=>I.pin p (gf _ z)) (h p),I.hok,I.len⟩
def zu{N:List Str}(hN:N.Nodup){i j:Nat}(a:N[i]?=some x)(b:N[j]?=some x):i=j:=by
 obtain⟨d,e1⟩:=bj.mp a;obtain⟨e,c⟩:=bj.mp b;exact(qQ hN).mp (e1.trans c.symm)
def store_ok2{M:Model}{A:Around}{E:Value->Shared->Prop}{i:Nat}{v:V}{u:Value}{Q:Unit->Shared->Prop}(I:Inv X ae σ H s)(hN:X.N.Nodup)(C:X.N[i]?=some x)(g:QV X.env.scope x)(r:RelV v u)
  (h:∀R,Inv X ae (σ.set i (some v)) H R->(∃a,Heap.SameBut a s.heap R.heap/\(a=X.env.locals\/X.env.cells.lookup x=some a))->Q () R) (hf:X.fn x=true\/X.env.scope.names.lookup x=some .local:=by first | exact .inl rfl | exact .inr rfl | assumption):wpAny M A (storeName X.env x u) Q E s:=by
 obtain⟨m,T,hl⟩:=id I.loc;have Y:(X.env.scope.kind==.class || (X.env.scope.kind==.module&&X.env.locals != X.env.globals))=false:=by rw[I.ok.kind];rfl
 have XI:i<σ.length:=by rw[I.len];exact(bj.mp C).1
 have S9:=I.S9;have Ee:∀{a:Addr} {h':Heap},(∃o,s.heap.get? a=some o/\H a=none)->Heap.SameBut a s.heap h'->lP X.prog X.w H h':=λ{a h'} ha f b ob e=>by
  obtain⟨_,_,zw⟩:=ha;refine(I.hok b ob e).wY (λc J hc q=>(f.2 c ?_).trans q) (λ_ q=>q) (λ_ _ q=>q) λ_ _ _ q=>q
  rintro rfl
  rcases hc with rfl | hc
  ·grind
  ·grind
 rcases g with hk | hk
 ·refine wpAny_storeName_local hk T (λh' QX f=>?_) Y
  obtain⟨oL,_,_,XJ,_⟩:=id T;refine h _ ⟨I.ok,I.os,I.bare,⟨λb o e n t g=>?_,λb o e n t g=>?_,I.base.free,λb o e g=>?_,I.base.tups,I.base.frzs,I.base.tbls⟩,⟨_,QX,λj y Z e1 l e3=>?_⟩,λy c e=>?_,I.free,I.freeC,λp hp=>?_,Ee ⟨oL,XJ,I.free⟩ f,by simpa using I.len⟩ ⟨_,f,.inl rfl⟩
  ·exact(f.2 b (bD (b7 (aX e) I.ok.above))).trans (I.base.keep b o e n t g)
  ·obtain⟨sl,e1⟩:=I.base.slot b o e n t g;exact⟨sl,(f.2 b (bD (b7 (aX e) I.ok.above))).trans e1⟩
  ·obtain⟨o',e1⟩:=I.base.there b o e g;exact⟨o',(f.2 b (bD (b7 (aX e) I.ok.above))).trans e1⟩
  ·by_cases B:j=i
   ·subst B;rw[C]at e1;cases e1;rw[jf XI]at l;cases l;exact⟨u,r,.inl ⟨hk,by simp⟩⟩
   ·rw[dy (dz B)]at l;obtain⟨u',r',q⟩:=hl j y Z e1 l e3;refine⟨u',r',?_⟩;rcases q with⟨k,e⟩ | ⟨k,c,e,z⟩
    ·refine .inl ⟨k,?_⟩;have:y≠x:=λe=>B (zu hN e1 (e▸C))
     simp[this,e]
    ·exact .inr ⟨k,c,e,z.sameBut f (S9 y c e)⟩
  ·obtain⟨J,z⟩:=I.cell y c e;exact⟨J,z.sameBut f (S9 y c e)⟩
  ·obtain⟨e,n,ne,nf,d⟩:=I.pin p hp;exact⟨(f.2 p.1 ne).trans e,n,ne,nf,d⟩
 ·have Ef:X.fn x=true:=by
   grind
  obtain⟨c,hc⟩:=I.ok.has x (.inl hk);obtain⟨J,z⟩:=I.cell x c hc;refine wpAny_storeName_cell I.ok.kind hk hc z (λh' Cq f=>?_)
  obtain⟨oc,D,agi⟩:=id z;refine h {s with heap:=h'} ⟨I.ok,I.os,I.bare,⟨λb o e n t g=>?_,λb o e n t g=>?_,I.base.free,λb o e g=>?_,I.base.tups,I.base.frzs,I.base.tbls⟩,⟨m,T.sameBut f (dz (S9 x c hc)),λj y Z e1 l e3=>?_⟩,λy L e=>?_,I.free,I.freeC,λp hp=>?_,Ee ⟨oc,D,I.freeC x c hc⟩ f,by simpa using I.len⟩ ⟨c,f,.inr hc⟩
  ·exact(f.2 b (bD (b7 (aX e) (I.ok.cab x c Ef hc)))).trans (I.base.keep b o e n t g)
  ·obtain⟨sl,e1⟩:=I.base.slot b o e n t g;exact⟨sl,(f.2 b (bD (b7 (aX e) (I.ok.cab x c Ef hc)))).trans e1⟩
  ·obtain⟨o',e1⟩:=I.base.there b o e g;exact⟨o',(f.2 b (bD (b7 (aX e) (I.ok.cab x c Ef hc)))).trans e1⟩
  ·by_cases B:j=i
   ·subst B;rw[C]at e1;cases e1;rw[jf XI]at l;cases l;exact⟨u,r,.inr ⟨.inl hk,c,hc,Cq⟩⟩
   ·rw[dy (dz B)]at l;obtain⟨u',r',q⟩:=hl j y Z e1 l e3;refine⟨u',r',?_⟩;rcases q with q | ⟨k,L,e,z'⟩
    ·exact .inl q
    ·refine .inr ⟨k,L,e,z'.sameBut f ?_⟩
     rintro rfl
     exact B (zu hN e1 (I.ok.inj _ _ _ e hc▸C))
  ·by_cases W4:L=c
   ·grind
   ·obtain⟨w2,z2⟩:=I.cell y L e;exact⟨w2,z2.sameBut f W4⟩
  ·obtain⟨e,n,ne,nf,d⟩:=I.pin p hp;refine⟨(f.2 p.1 ?_).trans e,n,ne,nf,d⟩;intro q;rw[q,D]at e;have q':=bI e;exact d J (by grind)
def rh(I:Inv X ae σ H s)(hN:X.N.Nodup)(b:X.N[i]?=some x)(c:QV X.env.scope x)(r:RelV v u)
  (h:∀a,Inv X ae (σ.set i (some v)) H a->Q () a) (d:X.fn x=true\/X.env.scope.names.lookup x=some .local:=by first | exact .inl rfl | exact .inr rfl | assumption):wpAny M A (storeName X.env x u) Q E s :=
 store_ok2 I hN b c r (λa e _=>h a e) d
def Inv.QY(I:Inv X ae σ H s)(ho:a.os=s.os)(u:Un (oe X.stack) ch H H' s.heap a.heap)(d:lP X.prog X.w H' a.heap)(f:AllBare a.gens)
  (g:∀b∈ch,(b∈X.ex\/X.s₀.heap.objs.size<=b)/\b≠X.env.locals/\(∀x c,X.env.cells.lookup x=some c->c≠b)/\∀p∈X.pn++ae,p.1≠b):Inv X ae σ H' a:=by
 obtain⟨h',h,j,k,l⟩:=a;have e:=ho;subst e;exact I.call u d f g
end
abbrev XK:=Value->Option Addr->Hp->Prop
abbrev St:=List (Option V)
abbrev VK:=V->Hp->Prop
abbrev TE:=St->Hp->VK->Prop
abbrev TT:=St->Hp->(Bool->Hp->Prop)->Prop
abbrev TA:=St->Hp->(List V->Hp->Prop)->Prop
structure ua where
 nx:St->Hp->Prop
 rt:VK
 bk:St->Hp->Prop:=λ_ _=>False
 ct:St->Hp->Prop:=λ_ _=>False
abbrev TS:=ua->St->Hp->Prop
def EP(X:Cx)(b:List (Addr×Obj))(c:St)(Q:VK)(u:Value)(d:Shared):Prop:=∃v a,Inv X b c a d/\RelV v u/\Q v a
def TP(X:Cx)(c:List (Addr×Obj))(d:St)(Q:Bool->Hp->Prop)(b:Bool)(e:Shared):Prop:=∃a,Inv X c d a e/\Q b a
def AP(X:Cx)(c:List (Addr×Obj))(d:St)(Q:List V->Hp->Prop)(e:List Value)(f:Shared):Prop:=∃a b,Inv X c d b f/\Vals a e/\Q a b
def SP(X:Cx)(c:List (Addr×Obj))(D:ua)(f:Flow)(d:Shared):Prop :=
 match f with
 | .next=>∃b a,Inv X c b a d/\D.nx b a
 | .brk=>∃b a,Inv X c b a d/\D.bk b a
 | .cont=>∃b a,Inv X c b a d/\D.ct b a
 | .ret u=>∃v b a,Inv X c b a d/\RelV v u/\D.rt v a
def PE(X:Cx)(e:Expr)(t:TE):Prop :=
 ∀(a:List (Addr×Obj)) (s:Shared) (σ:St) (H:Hp) (Q:VK),Inv X a σ H s->t σ H Q->wpAny (model X.prog X.w) X.A (eval e X.env) (EP X a σ Q) X.xe s
def PT(X:Cx)(e:Expr)(t:TT):Prop :=
 ∀(a:List (Addr×Obj)) (s:Shared) (σ:St) (H:Hp) (Q:Bool->Hp->Prop),Inv X a σ H s->t σ H Q->wpAny (model X.prog X.w) X.A (isTrue e X.env (eval e X.env)) (TP X a σ Q) X.xe s
def PW(X:Cx)(e:Expr)(t:TT):Prop :=
 ∀(b:Sem Value) (a:List (Addr×Obj)) (s:Shared) (σ:St) (H:Hp) (Q:Bool->Hp->Prop),Inv X a σ H s->t σ H Q->wpAny (model X.prog X.w) X.A (isTrue e X.env b) (TP X a σ Q) X.xe s
def PW.pt(h:PW X e t):PT X e t:=h _
def PA(X:Cx)(b:List Expr)(t:TA):Prop :=
 ∀(pos:Pos) (a:List (Addr×Obj)) (s:Shared) (σ:St) (H:Hp) (Q:List V->Hp->Prop),Inv X a σ H s->t σ H Q->wpAny (model X.prog X.w) X.A (spliced (backTo pos (starEach b X.env))) (AP X a σ Q) X.xe s
def PS(X:Cx)(st:Stmt)(t:TS):Prop :=
 ∀(a:List (Addr×Obj)) (s:Shared) (σ:St) (H:Hp) (D:ua),Inv X a σ H s->t D σ H->wpAny (model X.prog X.w) X.A (exec st X.env) (SP X a D) X.xe s
def PSs(X:Cx)(st:List Stmt)(t:TS):Prop :=
 ∀(a:List (Addr×Obj)) (s:Shared) (σ:St) (H:Hp) (D:ua),Inv X a σ H s->t D σ H->wpAny (model X.prog X.w) X.A (execs st X.env) (SP X a D) X.xe s
def thn{b:Type}{t:Sem b}{Q c:b->Shared->Prop}{M:Model}{A:Around}{E:Value->Shared->Prop}(h:wpAny M A t Q E s)(d:∀a s,Q a s->c a s):wpAny M A t c E s:=jj h d λ_ _ x=>x
section
variable {X:Cx}
def Nl(i:Nat):TE:=λa H Q=>∃v,a[i]?=some (some v)/\Q v H
def tC(v:V):TE:=λ_ H Q=>Q v H
def pe_var{i:Nat}{x:Str}{pos:Pos}(hN:X.N[i]?=some x)(b:XE X.env.scope x)(hd:(x==("__debug__":Str))=false:=by decide)(d:(x==("__classdict__":Str))=false:=by decide):PE X (.Name x pos) (Nl i):=by
 intro f s g H Q I h;obtain⟨v,e,h⟩:=h;obtain⟨m,j,k⟩:=I.loc;obtain⟨u,r,l⟩:=k i x v hN e b;have la:EP X f g Q u s:=⟨v,H,I,r,h⟩;rcases l with⟨hk,hm⟩ | ⟨hk,c,hc,a⟩
 ·exact wpAny_Name (wpAny_loadName_local I.ok.kind hk j hm la) hd
 ·rcases hk with hk | hk
  ·exact wpAny_Name (wpAny_loadName_cell I.ok.kind hk hc a la) hd
  ·exact wpAny_Name (wpAny_loadName_free I.ok.kind hk hc a la d) hd
def Ta{i j pos}:PE X (.Constant (.int i) j pos) (tC (.int i)):=λ_ _ _ H _ I h=>wpAny_Constant_int ⟨.int i,H,I.tok _,⟨_,rfl⟩,h⟩
def XM{b j pos}:PE X (.Constant (.bool b) j pos) (tC (.bl b)):=λ_ _ _ H _ I h=>Constant_bool ⟨.bl b,H,I,rfl,h⟩
def Tb{j pos}:PE X (.Constant .none j pos) (tC .bB):=λ_ _ _ H _ I h=>Constant_none ⟨.bB,H,I,rfl,h⟩
def Tc{x j pos}:PE X (.Constant (.str x) j pos) (tC (.str x)):=λ_ _ _ H _ I h=>Calls.Constant_str ⟨.str x,H,I.tok _,⟨_,rfl⟩,h⟩
def Gl(X:Cx)(x:Str):Prop:=X.env.kindOf x=some .globalImplicit
def ld_glob{E:Value->Shared->Prop}{a:List (Addr×Obj)}{s:Shared}{b:St}{H:Hp}{x:Str}{u:Value}{pos:Pos}{Q:Value->Shared->Prop}(I:Inv X a b H s)(c:Gl X x)(d:X.mg x=some u)(h:Q u s)
  (hd:(x==("__debug__":Str))=false:=by decide):wpAny (model X.prog X.w) X.A (eval (.Name x pos) X.env) Q E s :=
 IH I.ok.kind c (Calls.loadGlobal_global (by rw[I.ok.glob];exact I.mod.glob.keeps I.bk) d h) hd
def ld_blt{E:Value->Shared->Prop}{a:List (Addr×Obj)}{s:Shared}{b:St}{H:Hp}{x:Str}{u:Value}{pos:Pos}{Q:Value->Shared->Prop}(I:Inv X a b H s)(c:Gl X x)(d:X.mg x=none)(e:bootBuiltins x=some u)(h:Q u s)
  (f:x≠"__name__":=by decide) (hd:(x==("__debug__":Str))=false:=by decide):wpAny (model X.prog X.w) X.A (eval (.Name x pos) X.env) Q E s:=by
 obtain⟨j,g,i⟩:=I.mod.blt;exact IH I.ok.kind c (Calls.loadGlobal_builtin (by rw[I.ok.glob];exact I.mod.glob.keeps I.bk) d (by rw[I.ok.blt];exact g.keeps I.bk) ((i x f).trans e) h) hd
def Eg(a:Gl X x)(b:X.mg x=some u)(r:RelV v u)(hd:(x==("__debug__":Str))=false:=by decide):PE X (.Name x pos) (tC v) :=
 λ_ _ _ H _ I h=>ld_glob I a b ⟨v,H,I,r,h⟩ hd
def Nm{x:Str}{v:V}{u:Value}{pos:Pos}(a:Gl X x)(b:X.mg x=none)(c:bootBuiltins x=some u)(r:RelV v u)(d:x≠"__name__":=by decide)(hd:(x==("__debug__":Str))=false:=by decide):PE X (.Name x pos) (tC v) :=
 λ_ _ _ H _ I h=>ld_blt I a b c ⟨v,H,I,r,h⟩ d hd
variable {a b:Expr} {ta tb:TE} {pos:Pos}
variable {tA tB':TT} {rest:List Expr}
def ab7(t u:TT):TT:=λd H Q=>t d H λc e=>if c=true then u d e Q else Q false e
def tOr(t u:TT):TT:=λd H Q=>t d H λc e=>if c=true then Q true e else u d e Q
def ab8(t:TT):TT:=λd H Q=>t d H λc e=>Q (!c) e
def Nn(d:PT X a tA):PW X (.BoolOp .And [a] pos) tA:=by
 intro i f s g H Q I h;refine isTrue_and (thn (d f s g H Q I h) λc j e=>?_)
 cases c with
 | true=>exact isTrue_and_nil e
 | false=>exact e
def Td(d:PT X a tA):PW X (.BoolOp .Or [a] pos) tA:=by
 intro i f s g H Q I h;refine isTrue_or (thn (d f s g H Q I h) λc j e=>?_)
 cases c with
 | false=>exact isTrue_or_nil e
 | true=>exact e
def Te(i:PT X a tA)(j:PW X (.BoolOp .And (b::rest) pos) tB'):PW X (.BoolOp .And (a::b::rest) pos) (ab7 tA tB'):=by
 intro k d s e H Q I h;refine isTrue_and (thn (i d s e H _ I h) λc s1 ⟨H1,f,g⟩=>?_)
 cases c with
 | true=>exact j k d s1 e H1 Q f g
 | false=>exact⟨H1,f,g⟩
def XN(i:PT X a tA)(j:PW X (.BoolOp .Or (b::rest) pos) tB'):PW X (.BoolOp .Or (a::b::rest) pos) (tOr tA tB'):=by
 intro k d s e H Q I h;refine isTrue_or (thn (i d s e H _ I h) λc s1 ⟨H1,f,g⟩=>?_)
 cases c with
 | true=>exact⟨H1,f,g⟩
 | false=>exact j k d s1 e H1 Q f g
def Tf(d:PT X a tA):PT X (.UnaryOp .Not a pos) (ab8 tA):=by
 intro e s f H Q I h;exact isTrue_not (d e s f H (λc g=>Q (!c) g) I h)
def XO(ta:TE):TE:=λd H Q=>ta d H λx e=>∃c,x=.bl c/\Q (.bl (!c)) e
def Jf{op}(h:PE X a t):PE X (.BoolOp op [a] pos) t:=λc s d H Q I hw=>BoolOp_one (h c s d H Q I hw)
def Th(e:PE X a ta):PE X (.UnaryOp .Not a pos) (XO ta):=by
 intro f s g H Q I h;refine UnaryOp_ (thn (e f s g H _ I h) λv s1 ⟨x,H1,i,j,d⟩=>?_)
 obtain⟨c,rfl,d⟩:=d;cases j;exact not_of (lH ⟨.bl (!c),H1,i,rfl,d⟩)
def tIf(t:TT)(ta tb:TE):TE:=λd H Q=>t d H λc e=>if c=true then ta d e Q else tb d e Q
def Jg(hc:PT X c tA)(j:PE X a ta)(k:PE X b tb):PE X (.IfExp c a b pos) (tIf tA ta tb):=by
 intro e s f H Q I h;refine wpAny_IfExp (thn (hc e s f H _ I h) λd s1 ⟨H1,g,i⟩=>?_)
 cases d with
 | true=>exact j e s1 f H1 Q g i
 | false=>exact k e s1 f H1 Q g i
end
def w9(K:W.Frag)(H:Hp)(a:Addr)(xs:List V):Prop :=
 Rd H a (.lst xs) \/
  ∃(o:Obj) (b:Array Value) (n:Nat),K.lookup a=some o/\o.cls=.type "list"/\o.dict=none/\o.data=.seq b n/\b.size<=sizeLine/\Vals xs b.toList
def k9.sq{K:W.Frag}{H:Hp}{a:Addr}{xs:List V}(h:k9 K H a xs):w9 K H a xs:=by
 rcases h with h | ⟨b,n,e,z,r⟩
 ·exact .inl h
 ·exact .inr ⟨_,b.toArray,n,e,rfl,rfl,rfl,by grind,by grind⟩
noncomputable def ab9:Value->Option V
 | .none=>some .bB
 | .bool b=>some (.bl b)
 | .int i _=>some (.int i)
 | .str x _=>some (.str x)
 | .bytes b _=>some (.W0 b)
 | .float b _=>some (.flt b)
 | .ref a=>some (.ref a)
 | .type n=>some (.ty n)
 | _=>none
def RelV.abs(r:RelV x u):ab9 u=some x:=by
 cases x with
 | bB=>cases r;rfl
 | bl _=>cases r;rfl
 | int _=>obtain⟨t,rfl⟩:=r;rfl
 | str _=>obtain⟨t,rfl⟩:=r;rfl
 | W0 _=>obtain⟨t,rfl⟩:=r;rfl
 | flt _=>obtain⟨t,rfl⟩:=r;rfl
 | ref _=>cases r;rfl
 | ty _=>cases r;rfl
def RelV.inj(r:RelV x u)(q:RelV y u):x=y:=bI (r.abs.symm.trans q.abs)
theorem Vals.inj:∀{xs a:List V} {us:List Value},Vals xs us->Vals a us->xs=a
 | _,_,_,.nil,.nil=>rfl
 | _,_,_,.cons r t,.cons b c=>by rw[r.inj b,Vals.inj t c]
section
variable {X:Cx} {ae:List (Addr×Obj)} {σ:St} {H:Hp} {s:Shared} {a:Addr} {xs ys:List V}
def gX.of{K:W.Frag}(h:H a=some (.aq xs)):gX K H a xs:=.inl (.inl h)
def Inv.list(I:Inv X ae σ H s)(h:w9 X.K H a xs):∃b:List Value,Vals xs b/\PlainL s.heap a b.toArray/\xs.length<=sizeLine:=by
 rcases h with h | ⟨o,b,n,hk,hc,hd,c,d,r⟩
 ·obtain⟨z,b,n,r,e⟩:=h.ok I.hok;exact⟨b,r,⟨_,n,e,rfl,rfl,rfl⟩,z⟩
 ·refine⟨b.toList,r,⟨o,n,I.rg a o hk,hc,hd,by simp_all⟩,?_⟩
  have e:=r.length;simp only[iu]at e
  lia
def Inv.tuple(I:Inv X ae σ H s)(h:gX X.K H a xs):∃b:List Value,Vals xs b/\IsTup s.heap a b.toArray/\xs.length<=sizeLine:=by
 rcases h with h | ⟨o,b,n,hk,hc,c,d,r⟩
 ·obtain⟨z,b,r,p⟩:=h.ok I.hok;exact⟨b,r,p,z⟩
 ·refine⟨b.toList,r,⟨o,I.rg a o hk,hc,n,by simp_all⟩,?_⟩
  have e:=r.length;simp only[iu]at e
  lia
def Inv.mn(I:Inv X ae σ H s)(h:w9 X.K H a xs)(h':w9 X.K H a ys):xs=ys:=by
 obtain⟨f,r,⟨o,n,e,_,_,d⟩,_⟩:=I.list h;obtain⟨g,j,⟨k,l,b,_,_,c⟩,_⟩:=I.list h';rw[e]at b;cases b;rw[d]at c;injection c with m _
 have:f=g:=by grind
 subst this;exact r.inj j
def Inv.kz(I:Inv X ae σ H s)(h:gX X.K H a xs)(h':gX X.K H a ys):xs=ys:=by
 obtain⟨f,r,⟨o,e,_,n,d⟩,_⟩:=I.tuple h;obtain⟨g,j,⟨k,b,_,l,c⟩,_⟩:=I.tuple h';rw[e]at b;cases b;rw[d]at c;injection c with m _
 have:f=g:=by grind
 subst this;exact r.inj j
end
section
variable {X:Cx} {st:Stmt} {rest:List Stmt} {t u:TS} {e:Expr} {te:TE} {pos:Pos}
def QZ:TS:=λD a H=>D.nx a H
def aca(t u:TS):TS:=λD a H=>t {D with nx:=u D} a H
def Np:PSs X [] QZ:=λ_ _ a H _ I h=>wJ ⟨a,H,I,h⟩
def Jh(h1:PS X st t)(b:PSs X rest u):PSs X (st::rest) (aca t u):=by
 intro a s c H D I h;refine wpAny_execs_cons (thn (h1 a s c H {D with nx:=u D} I h) λf d q=>?_)
 cases f with
 | next =>
  obtain⟨g,i,j,q⟩:=q;exact b a d g i D j q
 | ret v=>exact q
 | brk=>exact q
 | cont=>exact q
def Nq(h1:PS X st t):PSs X [st] t:=by
 intro a s b H D I h;refine wpAny_execs_cons (thn (h1 a s b H D I h) λf c q=>?_)
 cases f with
 | next=>exact wJ q
 | ret v=>exact q
 | brk=>exact q
 | cont=>exact q
def Ti:TS:=λD a H=>D.bk a H
def XQ:TS:=λD a H=>D.ct a H
def Nr:PS X (.Pass pos) QZ:=λ_ _ a H _ I h=>wpAny_Pass ⟨a,H,I,h⟩
def Ji:PS X (.Break pos) Ti:=λ_ _ a H _ I h=>wpAny_Break ⟨a,H,I,h⟩
def zx:PS X (.Continue pos) XQ:=λ_ _ a H _ I h=>wpAny_Continue ⟨a,H,I,h⟩
def Inv.quiet{a:List (Addr×Obj)}{σ:St}{H:Hp}{s:Shared}(I:Inv X a σ H s):interactive X.env=false:=by simp[interactive,I.ok.kind]
def XR(te:TE):TS:=λD a H=>te a H λ_ b=>D.nx a b
def Nt(he:PE X e te)(b:swapsWith e none pos.line X.env=pure false:=by rfl):PS X (.Expr e pos) (XR te):=by
 intro c s a H D I h;exact wpAny_Expr_any (thn (he c s a H _ I h) (by rintro v s1 ⟨x,H1,d,g,f⟩;exact⟨a,H1,d,f⟩)) I.quiet b
def acb(te:TE):TS:=λD a H=>te a H D.rt
def Tj(he:PE X e te):PS X (.Return (some e) pos) (acb te):=by
 intro b s a H D I h;exact wpAny_Return_some (thn (he b s a H _ I h) (by rintro v s1 ⟨x,H1,c,d,f⟩;exact⟨x,a,H1,c,d,f⟩))
def XS:TS:=λD _ H=>D.rt .bB H
def Nu:PS X (.Return none pos) XS:=λ_ _ a H _ I h=>wpAny_Return_none ⟨.bB,a,H,I,rfl,h⟩
def acd(c:TT)(t u:TS):TS:=λD a H=>c a H λb d=>if b=true then t D a d else u D a d
def XT(hc:PT X c k)(l:PSs X a t)(m:PSs X b u):PS X (.If c a b pos) (acd k t u):=by
 intro f s g H D I h;refine wpAny_If (thn (hc f s g H _ I h) λd s1 ⟨H1,i,j⟩=>?_)
 cases d with
 | true=>exact l f s1 g H1 D i j
 | false=>exact m f s1 g H1 D i j
end
abbrev TG:=V->St->Hp->(St->Hp->Prop)->Prop
abbrev Tn:=List V->St->Hp->(St->Hp->Prop)->Prop
def PG(X:Cx)(a:Expr)(t:TG):Prop :=
 ∀(b:List (Addr×Obj)) (s:Shared) (σ:St) (H:Hp) (v:V) (u:Value) (Q:St->Hp->Prop),Inv X b σ H s->RelV v u->t v σ H Q ->
  wpAny (model X.prog X.w) X.A (assign a X.env u) (λ_ e=>∃c d,Inv X b c d e/\Q c d) X.xe s
def PGs(X:Cx)(e:List Expr)(t:Tn):Prop :=
 ∀(a:List (Addr×Obj)) (s:Shared) (σ:St) (H:Hp) (b:List V) (us:List Value) (Q:St->Hp->Prop),Inv X a σ H s->Vals b us->t b σ H Q ->
  wpAny (model X.prog X.w) X.A (assignInOrder ((assignEach e X.env).map (·.2)) us) (λ_ f=>∃c d,Inv X a c d f/\Q c d) X.xe s
abbrev Jj:=V->V->V->Hp->(Hp->Prop)->Prop
def Jk(X:Cx)(t:Jj):Prop :=
 ∀(a:List (Addr×Obj)) (s:Shared) (σ:St) (H:Hp) (o i v:V) (b c u:Value) (Q:Hp->Prop),Inv X a σ H s->RelV o b->RelV i c->RelV v u->t o i v H Q ->
  wpAny (model X.prog X.w) X.A (setItem b c u) (λ_ e=>∃d,Inv X a σ d e/\Q d) X.xe s
abbrev TIp:=V->V->Hp->VK->Prop
def PIp(X:Cx)(b:Operator)(t:TIp):Prop :=
 ∀(a:List (Addr×Obj)) (s:Shared) (σ:St) (H:Hp) (x y:V) (v u:Value) (Q:VK),Inv X a σ H s->RelV x v->RelV y u->t x y H Q ->
  wpAny (model X.prog X.w) X.A (inplaceOp b v u) (EP X a σ Q) X.xe s
section
variable {X:Cx} {pos:Pos}
def gName(i:Nat):TG:=λv a H Q=>Q (a.set i (some v)) H
def Nv(hN:X.N.Nodup)(a:X.N[i]?=some x)(b:QV X.env.scope x)(c:X.fn x=true\/X.env.scope.names.lookup x=some .local:=by first | exact .inl rfl | exact .inr rfl | assumption):PG X (.Name x pos) (gName i):=by
 intro e s f H v u Q I r h;exact wpAny_assign_Name (rh I hN a b r (λg d=>⟨_,H,d,h⟩) c)
def ace:Tn:=λa b H Q=>a=[]/\Q b H
def XU(t:TG)(u:Tn):Tn:=λa b H Q=>∃v r,a=v::r/\t v b H λc d=>u r c d Q
def Nw:PGs X [] ace:=by
 intro b s a H c d Q I r h;obtain⟨e,h⟩:=h;subst e;cases r;exact assignInOrder_nil ⟨a,H,I,h⟩
def Jl(h1:PG X e t)(c:PGs X a u)
  (d:(assignEach (e::a) X.env).map (·.2)=assign e X.env::(assignEach a X.env).map (·.2):=by rfl):PGs X (e::a) (XU t u):=by
 intro b s f H l m Q I r h;obtain⟨v,o,e1,h⟩:=h;subst e1;cases r with
 | cons r g =>
  rw[d];refine assignInOrder_cons (thn (h1 b s f H _ _ _ I r h) λ_ s1 ⟨i,H1,j,k⟩=>?_)
  exact c b s1 i H1 _ _ Q j g k
def acf(K:W.Frag)(n:Nat)(t:Tn):TG:=λv c H Q=>∃a b,v=.ref a/\gX K H a b/\b.length=n/\t b c H Q
def To{c:List Expr}{k:Nat}{t:Tn}{n:Nat}(hc:X.calm=true)(h:PGs X c t)
  (d:(assignEach c X.env).length=n:=by rfl) (f:(assignEach c X.env).findIdx? (·.1)=none:=by rfl):PG X (.Tuple c k pos) (acf X.K n t):=by
 intro g s i H v u Q I r hw;obtain⟨a,j,e1,l,m,hw⟩:=hw;subst e1;cases r;obtain⟨x,p,ht,y⟩:=I.tuple l;refine assign_Tuple_tuple (I.ok.hd hc) ht (by simp[d,<-m,p.length]) f λB q=>?_
 have w:=I.kept (t':=s.toks) λb o e=>q b o (bD (aX e)) e
 exact h g _ i H j _ Q w (by grind) hw
def acg(to b:TE)(t:Jj):TG:=λv a H Q=>to a H λo c=>b a c λi d=>t o i v d λe=>Q a e
def Tp(ho:PE X o to)(e:PE X i f)(g:Jk X t)
  (j:∀v,assign (.Subscript o i pos) X.env v=(do
   let a <-holding [v] (eval o X.env)
   let b <-holding [v,a] (eval i X.env)
   standAt pos
   holding [v,a,b] (setItem a b v)
   release [v,a,b] []):=by intro _;rfl):PG X (.Subscript o i pos) (acg to f t):=by
 intro d s c H v u Q I r h;rw[j];refine ag (fI (thn (ho d s c H _ I h) λa s1 ⟨x,H1,k,l,m⟩=>?_))
 refine ag (fI (thn (e d s1 c H1 _ k m) λb s2 ⟨y,p,q,w,B⟩=>?_))
 refine ag (wpAny_standAt (ag (fI (thn (g d s2 c p x y v a b u _ q l w r B) λ_ s3 ⟨C,D,E⟩=>?_))))
 exact wpAny_release ⟨c,C,D,E⟩
def Nx(b:TE)(g:TG):TS:=λD a H=>b a H λx c=>g x a c D.nx
def Jm(he:PE X e d)(f:PG X a g)(i:swapsWithSole [a] e pos.line X.env=pure false:=by rfl)(hw:swappedStores [a] e X.env=pure none:=by rfl)
  (h1:(assignEach [a] X.env).map (·.2)=[assign a X.env]:=by rfl):PS X (.Assign [a] e pos) (Nx d g):=by
 intro b s c H D I h;refine wpAny_Assign_stores (thn (he b s c H _ I h) λv s1 ⟨x,H1,j,k,l⟩=>?_) i hw
 rw[h1];exact thn (f b s1 c H1 x v _ j k l) λ_ m q=>q
def Tq(hN:X.N.Nodup)(a:X.N[i]?=some x)(b:QV X.env.scope x)(he:PE X e c)(d:swapsWith e (some (.Name x f)) pos.line X.env=pure false:=by rfl)(g:X.fn x=true\/X.env.scope.names.lookup x=some .local:=by first | exact .inl rfl | exact .inr rfl | assumption) :
  PS X (.Assign [.Name x f] e pos) (Nx c (gName i)):=by
 intro j s k H D I h;refine wpAny_Assign_Name (thn (he j s k H _ I h) λv s1 ⟨y,H1,l,m,o⟩=>?_) d
 exact rh l hN a b m (λq p=>⟨_,H1,p,o⟩) g
def ach(i:Nat)(b:TE)(c:TIp):TS:=λD a H=>∃x,a[i]?=some (some x)/\b a H λy d=>c x y d λz e=>D.nx (a.set i (some z)) e
def Ts(hN:X.N.Nodup)(f:X.N[i]?=some x)(a:QV X.env.scope x)(he:PE X e o)(ho:PIp X op p)(q:X.fn x=true\/X.env.scope.names.lookup x=some .local:=by first | exact .inl rfl | exact .inr rfl | assumption) :
  PS X (.AugAssign (.Name x ub) op e pos) (ach i o p):=by
 intro b s g H D I h;obtain⟨v,e1,h⟩:=h;obtain⟨m,t,B⟩:=I.loc;have Ny:XE X.env.scope x:=by rcases a with k | k;exact .inl k;exact .inr (.inl k)
 obtain⟨u,r,l⟩:=B i x v f e1 Ny;refine wpAny_AugAssign_Name ?_;have j:wpAny (model X.prog X.w) X.A (eval e X.env) (λw C=>wpAny (model X.prog X.w) X.A (inplaceOp op u w) (λr d=>wpAny (model X.prog X.w) X.A (storeName X.env x r) (λ_=>SP X b D .next) X.xe d) X.xe C) X.xe s:=by
  refine thn (he b s g H _ I h) λw s1 ⟨y,H1,E,J,L⟩=>?_
  refine thn (ho b s1 g H1 v y u w _ E r J L) λz s2 ⟨zv,M,Q,R,T⟩=>?_
  exact rh Q hN f a R (λs3 Y=>⟨_,M,Y,T⟩) q
 rcases l with⟨hk,hm⟩ | ⟨hk,c,hc,Z⟩
 ·exact wpAny_loadName_local I.ok.kind hk t hm j
 ·rcases hk with hk | hk
  ·exact wpAny_loadName_cell I.ok.kind hk hc Z j
  ·rcases a with k | k
   ·have:X.env.scope.names.lookup x=some .free:=hk;rw[k]at this;cases this
   ·have:X.env.scope.names.lookup x=some .free:=hk;rw[k]at this;cases this
end
section
variable {X:Cx} {pos:Pos}
def Tu(c:TT)(h:TS):TS:=λD a H=>∃W:Nat->St->Hp->Prop,(∃m,W m a H)/\∀m a H,W m a H ->
 c a H λb d=>if b=true then ∃N:St->Hp->Prop,(∀e f,N e f->∃g,g<m/\W g e f)/\h {D with nx:=N,ct:=N,bk:=D.nx} a d else D.nx a d
def Jn(hp:PassesOwn (model X.prog X.w) X.A X.env X.xe)(hc:PT X c x)(y:PSs X body B):PS X (.While c body [] pos) (Tu x B):=by
 intro j s C H D I h;obtain⟨W,⟨E,J⟩,lQ⟩:=h;refine wpAny_While (codeAny_whileLoop (λn L=>∃q r,Inv X j q r L/\W n q r) ?_ E ⟨C,H,I,J⟩)
 rintro n s1 ⟨e,H1,M,Q⟩
 refine lI hp (thn (hc j s1 e H1 _ M (lQ n e H1 Q)) λb s2 ⟨t,u,g⟩=>?_)
 cases b with
 | true =>
  obtain⟨N,hN,g⟩:=g;rw[if_pos rfl];refine lI hp (thn (y j s2 e t _ u g) λf R i=>?_)
  cases f with
  | next =>
   obtain⟨a,d,k,l⟩:=i;obtain⟨m,o,p⟩:=hN a d l;exact⟨m,o,a,d,k,p⟩
  | cont =>
   obtain⟨a,d,k,l⟩:=i;obtain⟨m,o,p⟩:=hN a d l;exact⟨m,o,a,d,k,p⟩
  | brk=>exact i
  | ret v=>exact i
 | false =>
  rw[if_neg dh];exact wJ ⟨e,t,u,g⟩
end
structure It where
 go:Nat->Hp->Prop
 yld:Nat->Hp->V->Hp->Prop
 stop:Nat->Hp->Prop
def xb(X:Cx)(a:List (Addr×Obj))(H:Hp)(b:Addr):Prop :=
 H b=none/\b≠X.env.locals/\b∉X.fs/\(b∈X.ex\/X.s₀.heap.objs.size<=b)/\(∀x c,X.env.cells.lookup x=some c->c≠b)/\∀p∈X.pn++a,p.1≠b
def Inv.Cr{X:Cx}{d:List (Addr×Obj)}{σ:St}{H H':Hp}{s:Shared}{b:Addr}(I:Inv X d σ H s)(a:s.heap.objs.size<=b)(f:H' b=none):xb X d H' b:=by
 refine⟨f,wQ (b7 I.lt a),I.ab4 a,.inr (bP I.sz a),λx c e z=>?_,λp hp z=>?_⟩
 ·obtain⟨v,q⟩:=I.cell x c e;exact absurd (b7 q.lt (by grind)) (gI _)
 ·exact absurd (b7 (aX (I.pin p hp).1) (by grind)) (gI _)
structure Turn (P:Program) (w:World) (K:W.Frag) (tg:Expr) (J:It) (fp:List Addr) (it:Addr) (tn:Nat->Heap->Prop):Prop where
 mem:it∈fp
 obj:∀i h,tn i h->∀b∈fp,∃o,h.get? b=some o/\∀v,o.data≠.cell v
 keep:∀i h h',tn i h->(∀b∈fp,∀o,h.get? b=some o->h'.get? b=some o)->tn i h'
 item:∀(X:Cx),X.prog=P->X.w=w->X.K=K->X.calm=true->∀(i:Nat) (ae:List (Addr×Obj)) (s:Shared) (σ:St) (H:Hp) (E:Value->Shared->Prop),Inv X ae σ H s->(∀b∈fp,xb X ae H b)->tn i s.heap->J.go i H ->
  wpAny (model P w) X.A (pyNext (.ref it)) (λr s1=>∃u,r=some u /\
   wpAny (model P w) X.A (letOwnedTupleGo tg (.ref it) u) (λ_ s2=>∃x H',Inv X ae σ H' s2/\RelV x u/\J.yld i H x H'/\tn (i+1) s2.heap/\∀b∈fp,H' b=none) E s1) E s
 done:∀(X:Cx),X.prog=P->X.w=w->X.K=K->X.calm=true->∀(i:Nat) (ae:List (Addr×Obj)) (s:Shared) (σ:St) (H:Hp) (E:Value->Shared->Prop),Inv X ae σ H s->(∀b∈fp,xb X ae H b)->tn i s.heap->J.stop i H ->
  wpAny (model P w) X.A (pyNext (.ref it)) (λr s1=>r=none/\Inv X ae σ H s1) E s
 self:∀(A:Around) (i:Nat) (s:Shared) (Q:Value->Shared->Prop) (E:Value->Shared->Prop),tn i s.heap->Q (.ref it) s->wpAny (model P w) A (pyIter (.ref it)) Q E s
abbrev TI:=St->Hp->(It->Hp->Prop)->Prop
def PIE(X:Cx)(d:List (Addr×Obj))(g:St)(h:Expr)(R:It->Hp->Prop)(a:Value)(s2:Shared):Prop :=
 ∃(it:Addr) (e:List Addr) (f:Nat->Heap->Prop) (J:It) (c:Hp),a=.ref it/\Inv X d g c s2/\Turn X.prog X.w X.K h J e it f/\f 0 s2.heap/\(∀b∈e,xb X d c b)/\R J c
def PI(X:Cx)(c a:Expr)(d:TI):Prop :=
 ∀(b:List (Addr×Obj)) (s:Shared) (σ:St) (H:Hp) (R:It->Hp->Prop),Inv X b σ H s->d σ H R ->
  wpAny (model X.prog X.w) X.A (eval a X.env) (λv e=>wpAny (model X.prog X.w) X.A (pyIter v) (PIE X b σ c R) X.xe e) X.xe s
def zy(ho:s.heap.get? it=some o)(hc:o.cls=.type n)(hd:o.data=.fields vs)
  (c:["enumerate","zip","dict_itemiterator","dict_reverseitemiterator","odict_iterator","itertools.zip_longest","itertools.pairwise"].contains n=false) (a:Q () s):wpAny M A (letOwnedTupleGo b (.ref it) u) Q E s:=by
 unfold letOwnedTupleGo;cases b<;>first
  | exact aw a
  | (cases u<;>first
    | exact aw a
    | (refine ag (wpAny_load ho ?_)
       rw[hc,hd];show wpAny M A (if(["enumerate","zip","dict_itemiterator","dict_reverseitemiterator","odict_iterator","itertools.zip_longest","itertools.pairwise"].contains n&&vs[0]?==some (rawInt _))=true then _ else _) Q E s
       rw[if_neg (by grind)]
       exact aw a))
def Itl(K:W.Frag)(a:Addr):It :=
 ⟨λi H=>∃b x,w9 K H a b/\b[i]?=some x,λi H x c=>c=H/\∀b,w9 K H a b->b[i]?=some x,λi H=>∃b,w9 K H a b/\b.length<=i⟩
def Itt(K:W.Frag)(a:Addr):It :=
 ⟨λi H=>∃b x,gX K H a b/\b[i]?=some x,λi H x c=>c=H/\∀b,gX K H a b->b[i]?=some x,λi H=>∃b,gX K H a b/\b.length<=i⟩
def XW(lo:Int)(n:Nat):It:=⟨λi _=>i<n,λi H x a=>a=H/\x=.int (lo+i),λi _=>n<=i⟩
def Gi{P:Program}{w:World}{K:W.Frag}{Q:Expr}(a it:Addr):Turn P w K Q (Itl K a) [it] it (λi h=>h.IsListIter it a i) where
 mem:=by simp
 obj:=λi h f b g=>by
  have e:b=it:=by grind
  subst e;obtain⟨o,e,c,d⟩:=f;exact⟨o,e,λv z=>by grind⟩
 keep:=λi h M f k=>f.at λo e=>k it (by simp) o e
 item:=by
  intro X m hw q hc i R s T H E I j f r;subst m hw q;obtain⟨Y,x,l,t⟩:=r;obtain⟨Z,y,p,hz⟩:=I.list l;obtain⟨u,hu,ru⟩:=y.get t;obtain⟨B,C,f2,D,J,L⟩:=j it (by simp)
  refine wpAny_pyNext_list_item f p.isList (by simpa using hu) λM N sb=>?_
  have I1:=I.turned (t':=s.toks) (λb o g e=>(sb.2 b g).trans e) B C D J L
  obtain⟨o,e,c,d⟩:=id N;exact⟨u,rfl,zy e c d (by decide) ⟨x,H,I1,ru,⟨rfl,λys hy=>by rw[I.mn hy l];exact t⟩,N,λb g=>(j b g).1⟩⟩
 done:=by
  intro X m hw q hc i R s T H E I j f r;subst m hw q;obtain⟨Y,l,t⟩:=r;obtain⟨Z,y,p,hz⟩:=I.list l;obtain⟨B,C,f2,D,J,L⟩:=j it (by simp)
  have hl:=y.length;exact wpAny_pyNext_list_end (I.ok.hd hc) f p.isList (by simp;lia) λM eb=>⟨rfl,I.turned (λb o g e=>eb b o g e) B C D J L⟩
 self:=λ_ _ _ _ _ f h=>wpAny_pyIter_listiter f h
def Ct{P:Program}{w:World}{K:W.Frag}{Q:Expr}(a it:Addr):Turn P w K Q (Itt K a) [it] it (λi h=>h.IsTupleIter it a i) where
 mem:=by simp
 obj:=λi h f b g=>by
  have e:b=it:=by grind
  subst e;obtain⟨o,e,c,d⟩:=f;exact⟨o,e,λv z=>by grind⟩
 keep:=λi h M f k=>f.at λo e=>k it (by simp) o e
 item:=by
  intro X m hw q hc i R s T H E I j f r;subst m hw q;obtain⟨Y,x,l,t⟩:=r;obtain⟨Z,y,p,hz⟩:=I.tuple l;obtain⟨u,hu,ru⟩:=y.get t;obtain⟨B,C,f2,D,J,L⟩:=j it (by simp)
  refine wpAny_pyNext_tuple_item f (p) (by simpa using hu) λM N sb=>?_
  have I1:=I.turned (t':=s.toks) (λb o g e=>(sb.2 b g).trans e) B C D J L
  obtain⟨o,e,c,d⟩:=id N;exact⟨u,rfl,zy e c d (by decide) ⟨x,H,I1,ru,⟨rfl,λys hy=>by rw[I.kz hy l];exact t⟩,N,λb g=>(j b g).1⟩⟩
 done:=by
  intro X m hw q hc i R s T H E I j f r;subst m hw q;obtain⟨Y,l,t⟩:=r;obtain⟨Z,y,p,hz⟩:=I.tuple l;obtain⟨B,C,f2,D,J,L⟩:=j it (by simp)
  have hl:=y.length;exact wpAny_pyNext_tuple_end (I.ok.hd hc) f (p) (by simp;lia) λM eb=>⟨rfl,I.turned (λb o g e=>eb b o g e) B C D J L⟩
 self:=λ_ _ _ _ _ f h=>wpAny_pyIter_tupleiter f h
def Cu{P:Program}{w:World}{K:W.Frag}{C:Expr}(it:Addr)(lo:Int)(n:Nat):Turn P w K C (XW lo n) [it] it (λi h=>IsRangeIter h it (lo+(i:Nat)*1) ((n:Int)-(i:Nat)) 1) where
 mem:=by simp
 obj:=λi h a b c=>by
  grind
 keep:=λi h f a k=>k it (by simp) _ a
 item:=by
  intro X g hw j hc i x s y H E I d a l;subst g hw j;obtain⟨m,p,D,q,r,u⟩:=d it (by simp)
  have W:=Walks.range (prog:=X.prog) (w:=X.w) (I.ok.hd hc) it lo 1 n;refine W.item i s _ _ l a λv f J L B kk=>?_
  obtain⟨t,rfl⟩:=L;have M:Inv X x y H {s with heap:=f,toks:=J}:=I.turned (λb o c e=>kk b o (by grind) e) m p q r u
  refine⟨_,rfl,zy B rfl rfl (by decide) ⟨.int (lo+i),H,M,⟨t,?_⟩,⟨rfl,rfl⟩,B,λb c=>(d b c).1⟩⟩
  rw[Int.mul_one]
 done:=by
  intro X g hw j hc i x s y H E I d a l;subst g hw j;obtain⟨m,p,D,q,r,u⟩:=d it (by simp)
  exact wpAny_pyNext_range_end (I.ok.hd hc) a (by have:n<=i:=l;lia) λf N=>⟨rfl,I.turned (λb o c e=>N b o c e) m p q r u⟩
 self:=λ_ _ _ _ _ a h=>BP a h
section
variable {X:Cx} {tg:Expr}
def XX(K:W.Frag)(c:TE):TI:=λd H R=>c d H λx b=>∃a,x=.ref a/\(∃e,w9 K b a e)/\R (Itl K a) b
def acm(K:W.Frag)(c:TE):TI:=λd H R=>c d H λx b=>∃a,x=.ref a/\(∃e,gX K b a e)/\R (Itt K a) b
def Eh{l:Expr}{d:TE}(f:PE X l d):PI X tg l (XX X.K d):=by
 intro g s i H R I h;refine thn (f g s i H _ I h) λv s1 ⟨x,H1,c,j,k⟩=>?_
 obtain⟨a,e,⟨r,m⟩,q⟩:=k;subst e;cases j;obtain⟨t,u,p,w⟩:=c.list m;refine wpAny_pyIter_list p.isList ?_;refine⟨s1.heap.objs.size,[s1.heap.objs.size],_,_,H1,rfl,c.kept λb o e=>bf _ e,Gi a _,⟨_,cP _ rfl,rfl,rfl⟩,λb y=>?_,q⟩
 have e:b=s1.heap.objs.size:=by grind
 subst e;exact c.Cr (az _) (c.hok.fresh (az _))
def Jo{l:Expr}{d:TE}(f:PE X l d):PI X tg l (acm X.K d):=by
 intro g s i H R I h;refine thn (f g s i H _ I h) λv s1 ⟨x,H1,c,j,k⟩=>?_
 obtain⟨a,e,⟨r,m⟩,q⟩:=k;subst e;cases j;obtain⟨t,u,p,w⟩:=c.tuple m;refine B0 (p) ?_;refine⟨s1.heap.objs.size,[s1.heap.objs.size],_,_,H1,rfl,c.kept λb o e=>bf _ e,Ct a _,⟨_,cP _ rfl,rfl,rfl⟩,λb y=>?_,q⟩
 have e:b=s1.heap.objs.size:=by grind
 subst e;exact c.Cr (az _) (c.hok.fresh (az _))
def zA{c:List (Addr×Obj)}{d:St}{H:Hp}{s:Shared}{R:It->Hp->Prop}{E:Value->Shared->Prop}{lo a:Int}{t u v:Tok}{tk:Nat}(I:Inv X c d H s)(h1:-(2^62)<=lo)(g:lo<2^62)(h:-(2^62)<=a)(i:a<2^62)
  (q:R (XW lo (a-lo).toNat) H):wpAny (model X.prog X.w) X.A (pyIter (.ref s.heap.objs.size)) (PIE X c d tg R) E {s with heap:=s.heap.push {cls:=.type "range",data:=.fields #[.int lo t,.int a u,.int 1 v]},toks:=tk}:=by
 refine wpAny_pyIter_range (wV ..) (small_one h1 g h i) ?_;have f:Inv X c d H {s with heap:=s.heap.push {cls:=.type "range",data:=.fields #[.int lo t,.int a u,.int 1 v]},toks:=tk}:=I.kept λb o e=>bf _ e
 refine⟨(s.heap.push {cls:=.type "range",data:=.fields #[.int lo t,.int a u,.int 1 v]}).objs.size,[(s.heap.push {cls:=.type "range",data:=.fields #[.int lo t,.int a u,.int 1 v]}).objs.size],_,_,H,rfl,
  f.kept λb o e=>bf _ e,Cu _ lo (a-lo).toNat,?_,λb k=>?_,q⟩
 ·have e1:lo+(0:Nat)*1=lo:=by simp
  have j:(((a-lo).toNat:Nat):Int)-(0:Nat)=Builtin.Range.rangeSize lo a 1:=by rw[rangeSize_one];split<;>lia
  rw[e1,j];exact cP _ rfl
 ·have e:b=(s.heap.push {cls:=.type "range",data:=.fields #[.int lo t,.int a u,.int 1 v]}).objs.size:=by grind
  subst e;exact f.Cr (az _) (f.hok.fresh (az _))
def XY(a:TA):TI:=λb H R=>a b H λc d=>∃j:Int,c=[.int j] /\ -(2^62)<=j/\j<2^62/\R (XW 0 j.toNat) d
def XZ(a:TA):TI:=λb H R=>a b H λc d=>∃i j:Int,c=[.int i,.int j]/\(-(2^62)<=i/\i<2^62 /\ -(2^62)<=j/\j<2^62)/\R (XW i (j-i).toNat) d
def Gj{a:Expr}{c:TA}{p pos:Pos}(d:Gl X "range")(f:X.mg "range"=none)(g:PA X [a] c)(i:starEach [a] X.env=[(false,eval a X.env)]:=by rfl):PI X tg (.Call (.Name "range" p) [a] [] pos) (XY c):=by
 intro k s l H R I h;refine Call_ (ld_blt I d f qV (ir (thn (g pos k s l H _ I h) λus s1 ⟨w,H1,m,o,b⟩=>?_) i rfl))
 obtain⟨j,e,b,u,q⟩:=b;subst e;cases o with
 | cons r v =>
  cases v;obtain⟨t,rfl⟩:=r;exact call_range_1 (zA m (by lia) (by lia) b u (by grind))
def Gk{a b:Expr}{f:TA}{p pos:Pos}(g:Gl X "range")(k:X.mg "range"=none)(l:PA X [a,b] f)(D:starEach [a,b] X.env=[(false,eval a X.env),(false,eval b X.env)]:=by rfl)(m:starEach [b] X.env=[(false,eval b X.env)]:=by rfl) :
  PI X tg (.Call (.Name "range" p) [a,b] [] pos) (XZ f):=by
 intro o s u H R I h;refine Call_ (ld_blt I g k qV (ir (thn (l pos o s u H _ I h) λus s1 ⟨E,H1,v,w,c⟩=>?_) (by grind) (by rw[m];rfl)))
 obtain⟨i,j,e,⟨c,x,y,B⟩,q⟩:=c;subst e;cases w with
 | cons r d =>
  cases d with
  | cons C d =>
   cases d;obtain⟨t,rfl⟩:=r;obtain⟨J,rfl⟩:=C;exact call_range_2 (zA v c x y B q)
def acn(e:TI)(g:TG)(f:TS):TS:=λD a H=>e a H λJ h=>∃W:Nat->Nat->St->Hp->Prop,(∃m,W 0 m a h)/\∀i m a H,W i m a H ->
 (J.stop i H/\D.nx a H)\/(J.go i H/\∃N:St->Hp->Prop,(∀c b,N c b->∃d,d<m/\W (i+1) d c b)/\∀x b,J.yld i H x b->g x a b λj k=>f {D with nx:=N,ct:=N,bk:=D.nx} j k)
def rj(a:List Addr)(h:Heap):List (Addr×Obj):=a.filterMap λb=>(h.get? b).map λo=>(b,o)
def jo(a:b∈c)(e:h.get? b=some o):(b,o)∈rj c h:=nM.mpr ⟨b,a,by rw[e];rfl⟩
def Gn(hp:p∈rj a h):p.1∈a/\h.get? p.1=some p.2:=by
 obtain⟨b,c,e⟩:=nM.mp hp;cases q:h.get? b with
 | none=>rw[q]at e;cases e
 | some o =>
  rw[q]at e;have d:=bI e;subst d;exact⟨c,q⟩
def Inv.pinned{a:List (Addr×Obj)}{σ:St}{H:Hp}{s:Shared}{c:List Addr}(I:Inv X a σ H s)(h:∀b∈c,xb X a H b)(ho:∀b∈c,∃o,s.heap.get? b=some o/\∀v,o.data≠.cell v):Inv X (a++rj c s.heap) σ H s :=
 I.mj λp hp=>(bA.mp hp).elim (λz=>I.pin p (de _ z)) λz=>by
  obtain⟨f,e⟩:=Gn z;obtain⟨j,k,l,_⟩:=h p.1 f;obtain⟨o,g,d⟩:=ho p.1 f;rw[e]at g;cases g;exact⟨e,j,k,l,d⟩
def Inv.rm{a pl:List (Addr×Obj)}{σ:St}{H:Hp}{s:Shared}(I:Inv X (a++pl) σ H s):Inv X a σ H s:=I.mj λp hp=>I.pin p (de _ (gf _ hp))
def Jp(hp:PassesOwn (model X.prog X.w) X.A X.env X.xe)(hc:X.calm=true)(hi:PI X tg iter wi)(hg:PG X tg g)(a:PSs X body tb)
  (hs:∀x,foldedSetIterable iter X.env x=pure x:=by intro _;rfl):PS X (.For tg iter body [] pos) (acn wi g tb):=by
 intro q s σ H D I h;refine wpAny_For (thn (hi q s σ H _ I h) λv s1 h1=>thn h1 λitv s2 h2=>?_) hs
 obtain⟨it,t,tn,J,H2,e,I2,T,eX,f2,W,⟨m0,w0⟩,lQ⟩:=h2;subst e;have M:∀{l:Hp},(∀b∈t,l b=none)->∀b∈t,xb X q l b:=λhn b a=>⟨hn b a,(f2 b a).2⟩
 refine codeAny_forLoop_any (λn s'=>∃i y l,Inv X q y l s'/\tn i s'.heap/\(∀b∈t,l b=none)/\W i n y l) ?_ m0 ⟨0,σ,H2,I2,eX,λb a=>(f2 b a).1,w0⟩
 rintro n s3 ⟨i,B,L,I3,Nz,C,w3⟩
 rcases lQ i n B L w3 with⟨stop,qn⟩ | ⟨go,N,hN,step⟩
 ·refine lI hp (thn (T.done X rfl rfl rfl hc i q s3 B L X.xe I3 (M C) Nz stop) λr s4 ⟨Q,I4⟩=>?_)
  subst Q;exact wJ ⟨B,L,I4,qn⟩
 ·refine lI hp (thn (T.item X rfl rfl rfl hc i q s3 B L X.xe I3 (M C) Nz go) λr s4 ⟨u,Q,h4⟩=>?_)
  subst Q;refine lI hp (thn h4 λ_ s5 z9=>?_)
  obtain⟨x,H5,I5,r5,y5,R,Y⟩:=z9;have Z:=I5.pinned (M Y) (T.obj _ _ R);refine lI hp (thn (hg _ s5 B H5 x u _ Z r5 (step x H5 y5)) λ_ s6 ⟨σ6,H6,I6,q6⟩=>?_)
  refine lI hp (thn (a _ s6 σ6 H6 _ I6 q6) λf s7 p=>?_)
  have again:∀{c:St} {j:Hp},Inv X (q++rj t s5.heap) c j s7->N c j->∃m,m<n/\∃i y l,Inv X q y l s7/\tn i s7.heap/\(∀b∈t,l b=none)/\W i m y l:=λ{c j} k E=>by
   obtain⟨m',hm,w7⟩:=hN c j E;refine⟨m',hm,i+1,c,j,k.rm,T.keep _ _ _ R λb a o e=>(k.pin (b,o) (de _ (de _ (jo a e)))).1,λb a=>?_,w7⟩
   obtain⟨o,e,d⟩:=T.obj _ _ R b a;exact(k.pin (b,o) (de _ (de _ (jo a e)))).2.1
  cases f with
  | next=>obtain⟨c,j,k,E⟩:=p;exact again k E
  | cont=>obtain⟨c,j,k,E⟩:=p;exact again k E
  | brk=>obtain⟨c,j,k,p⟩:=p;exact⟨c,j,k.rm,p⟩
  | ret v=>obtain⟨x7,c,j,k,r7,p⟩:=p;exact⟨x7,c,j,k.rm,r7,p⟩
end
abbrev R2:=V->V->Hp->VK->Prop
def OpR(X:Cx)(f:Value->Value->Sem Value)(r:R2):Prop :=
 ∀(a:List (Addr×Obj)) (s:Shared) (σ:St) (H:Hp) (x y:V) (v u:Value) (Q:VK),Inv X a σ H s->RelV x v->RelV y u->r x y H Q ->
  wpAny (model X.prog X.w) X.A (f v u) (EP X a σ Q) X.xe s
def UnR(X:Cx)(f:Value->Sem Value)(r:V->Hp->VK->Prop):Prop :=
 ∀(a:List (Addr×Obj)) (s:Shared) (σ:St) (H:Hp) (x:V) (v:Value) (Q:VK),Inv X a σ H s->RelV x v->r x H Q ->
  wpAny (model X.prog X.w) X.A (f v) (EP X a σ Q) X.xe s
def mq(X:Cx)(f:Value)(r:List V->Hp->VK->Prop):Prop :=
 ∀(a:List (Addr×Obj)) (s:Shared) (σ:St) (H:Hp) (xs:List V) (us:List Value) (Q:VK),Inv X a σ H s->Vals xs us->r xs H Q ->
  wpAny (model X.prog X.w) X.A (call f us) (EP X a σ Q) X.xe s
def acq(X:Cx)(r:V->Hp->(Bool->Hp->Prop)->Prop):Prop :=
 ∀(a:List (Addr×Obj)) (s:Shared) (σ:St) (H:Hp) (x:V) (v:Value) (Q:Bool->Hp->Prop),Inv X a σ H s->RelV x v->r x H Q ->
  wpAny (model X.prog X.w) X.A (truthy v) (TP X a σ Q) X.xe s
def W5(r:R2)(b c:TE):TE:=λa H Q=>b a H λx d=>c a d λy e=>r x y e Q
def tUn(r:V->Hp->VK->Prop)(a:TE):TE:=λb H Q=>a b H λx c=>r x c Q
def rI(C:Int->Int->Prop)(g:Int->Int->V):R2:=λx y H Q=>∃i j,x=.int i/\y=.int j/\C i j/\Q (g i j) H
def NA(g:Int->Int->V):R2:=λx y H Q=>∃i j,x=.int i/\y=.int j/\Q (g i j) H
def rU(g:Int->V):V->Hp->VK->Prop:=λx H Q=>∃i,x=.int i/\Q (g i) H
section
variable {X:Cx} {a b c:Expr} {ta tb tc:TE} {pos:Pos}
def NB(k:PE X a ta)(l:PE X b tb){i:List (Addr×Obj)}{s:Shared}{d:St}{H:Hp}{R:V->V->Hp->Prop}(I:Inv X i d H s)
  (h:ta d H λx j=>tb d j λy e=>R x y e) {Q:Value->Shared->Prop} {f:Value->Value->Sem Value}
  (m:∀v u s2 x y e,Inv X i d e s2->RelV x v->RelV y u->R x y e->wpAny (model X.prog X.w) X.A (f v u) Q X.xe s2) :
  wpAny (model X.prog X.w) X.A (eval a X.env) (λv g=>wpAny (model X.prog X.w) X.A (eval b X.env) (λu o=>wpAny (model X.prog X.w) X.A (f v u) Q X.xe o) X.xe g) X.xe s:=by
 refine thn (k i s d H _ I h) λv s1 ⟨x,j,p,q,r⟩=>?_
 refine thn (l i s1 d j _ p r) λu s2 ⟨y,e,t,B,C⟩=>?_
 exact m v u s2 x y e t q B C
def X0(ho:OpR X (binaryOp op) r)(d:PE X a ta)(e:PE X b tb):PE X (.BinOp a op b pos) (W5 r ta tb):=by
 intro f s g H Q I h;exact wpAny_BinOp (NB d e I h λv u i x y j k l m q=>ho f i g j x y v u Q k l m q)
def X1{r:V->Hp->VK->Prop}(ho:UnR X (unaryOp op) r)(f:PE X a ta):PE X (.UnaryOp op a pos) (tUn r ta):=by
 intro d s e H Q I h;exact UnaryOp_ (thn (f d s e H _ I h) (by rintro v s1 ⟨x,H1,g,i,j⟩;exact ho d s1 e H1 x v Q g i j))
def opI{f:Value->Value->Sem Value}{C:Int->Int->Prop}{g:Int->Int->Int}
  (d:∀(i j:Int) (t u:Tok) (s:Shared) (Q:Value->Shared->Prop) (E:Value->Shared->Prop),C i j->Q (.int (g i j) s.toks) {s with toks:=s.toks+1}->wpAny (model X.prog X.w) X.A (f (.int i t) (.int j u)) Q E s) :
  OpR X f (rI C λi j=>.int (g i j)):=by
 intro m s o H x y v u Q I e k h;obtain⟨i,j,rfl,rfl,hc,q⟩:=h;obtain⟨t,rfl⟩:=e;obtain⟨l,rfl⟩:=k;exact d i j t l s _ _ hc ⟨.int (g i j),H,I.tok _,⟨_,rfl⟩,q⟩
def Tw{f:Value->Value->Sem Value}{g:Int->Int->Int}
  (d:∀(i j:Int) (t u:Tok) (s:Shared) (Q:Value->Shared->Prop) (E:Value->Shared->Prop),Q (.int (g i j) s.toks) {s with toks:=s.toks+1}->wpAny (model X.prog X.w) X.A (f (.int i t) (.int j u)) Q E s) :
  OpR X f (NA λi j=>.int (g i j)):=by
 intro m s o H x y v u Q I e k h;obtain⟨i,j,rfl,rfl,q⟩:=h;obtain⟨t,rfl⟩:=e;obtain⟨l,rfl⟩:=k;exact d i j t l s _ _ ⟨.int (g i j),H,I.tok _,⟨_,rfl⟩,q⟩
def Tz{f:Value->Value->Sem Value}{g:Int->Int->Bool}
  (d:∀(i j:Int) (t u:Tok) (s:Shared) (Q:Value->Shared->Prop) (E:Value->Shared->Prop),Q (.bool (g i j)) s->wpAny (model X.prog X.w) X.A (f (.int i t) (.int j u)) Q E s) :
  OpR X f (NA λi j=>.bl (g i j)):=by
 intro m s o H x y v u Q I e k h;obtain⟨i,j,rfl,rfl,q⟩:=h;obtain⟨t,rfl⟩:=e;obtain⟨l,rfl⟩:=k;exact d i j t l s _ _ ⟨.bl (g i j),H,I,rfl,q⟩
def acr(i j:Int):Prop:=0<j/\j<1073741824
def acs(i j:Int):Prop:=0<=j/\j<=1000000/\i.natAbs<2^64
def TC(i j:Int):Prop:=(-(2^64)<i/\i<2^64)\/(-(2^64)<j/\j<2^64)
def TC.ok(h:TC i j):IntMulOk i j:=by
 rcases h with⟨d,e⟩ | ⟨d,e⟩
 ·exact .of_left (intBits_le_64 d e)
 ·exact .of_right (intBits_le_64 d e)
def TF:OpR X (binaryOp .Add) (NA λi j=>.int (i+j)):=Tw λ_ _ _ _ _ _ _ q=>add_int q
def TJ:OpR X (binaryOp .Sub) (NA λi j=>.int (i-j)):=Tw λ_ _ _ _ _ _ _ q=>sub_int q
def TK:OpR X (binaryOp .Mult) (rI TC λi j=>.int (i*j)):=opI λ_ _ _ _ _ _ _ hc q=>mul_int q hc.ok
def NC:OpR X (binaryOp .FloorDiv) (rI acr λi j=>.int (i/j)):=opI λi j _ _ _ _ _ hc q=>by
 have d:=hc.1;have e:=hc.2;exact floordiv_int (by lia) (by rw[Int.fdiv_eq_ediv_of_nonneg i (by lia)];exact q) (.inl (PyProof.noPylong_small (by lia)))
def TL:OpR X (binaryOp .Mod) (rI (λ_ j=>0<j) λi j=>.int (i%j)):=opI λi j _ _ _ _ _ hc q=>by
 have d:=hc;exact mod_int' (by lia) (by rw[Int.fmod_eq_emod_of_nonneg i (by lia)];exact q)
def TM:OpR X (binaryOp .Pow) (rI acs λi j=>.int (i^j.toNat)):=opI λ_ _ _ _ _ _ _ hc q=>pow_int_small hc.1 hc.2.1 hc.2.2 q
def ND:OpR X (inplaceOp .Add) (NA λi j=>.int (i+j)):=Tw λ_ _ _ _ _ _ _ q=>iadd_int q
def unI{f:Value->Sem Value}{g:Int->Int}
  (d:∀(i:Int) (t:Tok) (s:Shared) (Q:Value->Shared->Prop) (E:Value->Shared->Prop),Q (.int (g i) s.toks) {s with toks:=s.toks+1}->wpAny (model X.prog X.w) X.A (f (.int i t)) Q E s) :
  UnR X f (rU λi=>.int (g i)):=by
 intro j s k H x v Q I e h;obtain⟨i,rfl,q⟩:=h;obtain⟨t,rfl⟩:=e;exact d i t s _ _ ⟨.int (g i),H,I.tok _,⟨_,rfl⟩,q⟩
def TN:UnR X (unaryOp .USub) (rU λi=>.int (-i)):=unI λ_ _ _ _ _ q=>neg_int q
end
section
variable {X:Cx} {a b c:Expr} {ta tb tc:TE} {pos:Pos}
def Jr{d:List (Addr×Obj)}{f:St}{H:Hp}{s:Shared}{Q:VK}{k k':Bool}(I:Inv X d f H s)(q:Q (.bl k) H)(e:k=k'):EP X d f Q (.bool k') s:=by
 subst e;exact⟨.bl k,H,I,rfl,q⟩
def X2:OpR X (compareOp .Lt) (NA λi j=>.bl (decide (i<j))):=Tz λ_ _ _ _ _ _ _ q=>lt_int q
def X3:OpR X (compareOp .LtE) (NA λi j=>.bl (decide (i<=j))):=Tz λ_ _ _ _ _ _ _ q=>le_int q
def X4:OpR X (compareOp .GtE) (NA λi j=>.bl (decide (j<=i))):=Tz λ_ _ _ _ _ _ _ q=>ge_int q
def TQ:OpR X (compareOp .Is) (λx y H Q=>y=.bB/\Q (.bl (decide (x=.bB))) H):=by
 intro f s g H x y v u Q I d e h;obtain⟨rfl,q⟩:=h;cases e;refine is_none_gen (Jr I q ?_);cases x<;>first
  | (cases d;rfl)
  | (obtain⟨t,rfl⟩:=d;rfl)
def NF:OpR X (compareOp .IsNot) (λx y H Q=>y=.bB/\Q (.bl (!decide (x=.bB))) H):=by
 intro f s g H x y v u Q I d e h;obtain⟨rfl,q⟩:=h;cases e;refine isnot_none_gen (Jr I q ?_);cases x<;>first
  | (cases d;rfl)
  | (obtain⟨t,rfl⟩:=d;rfl)
def NG(ho:OpR X (compareOp op) r)(d:PE X a ta)(e:PE X b tb)(f:behindInMarks op b=false):PE X (.Compare a [op] [b] pos) (W5 r ta tb):=by
 intro g s i H Q I h;exact wpAny_Compare1 (NB d e I h λv u j x y k l m o q=>ho g j i k x y v u Q l m o q) f
def Ra(t:TE):TT:=λd H Q=>t d H λx e=>∃k,x=.bl k/\Q k e
def NH(ho:OpR X (compareOp op) r)(g:PE X a ta)(i:PE X b tb)(j:behindInMarks op b=false):PT X (.Compare a [op] [b] pos) (Ra (W5 r ta tb)):=by
 intro d s f H Q I h;refine wpAny_isTrue_Compare1 (thn (g d s f H _ I h) λv s1 ⟨x,H1,l,m,o⟩=>thn (i d s1 f H1 _ l o) λu s2 ⟨y,p,q,t,w⟩ =>
  thn (ho d s2 f p x y v u _ q m t w) λc s3 ⟨z,B,C,D,k,e,E⟩=>?_) j
 subst e;cases D;exact lH ⟨B,C,E⟩
def Cw(r f:R2)(ta tb tc:TE):TE:=λd H Q=>ta d H λx g=>tb d g λy h=>r x y h λz e=>∃k,z=.bl k /\
 (if k=true then tc d e λi j=>f y i j Q else Q (.bl false) e)
def Js(ho:OpR X (compareOp op) r)(p:OpR X (compareOp i) q)(t:PE X a ta)(w:PE X b tb)(hc:PE X c tc)
  (B:lastMarks [op,i] [b,c]=false:=by with_unfolding_all rfl):PE X (.Compare a [op,i] [b,c] pos) (Cw r q ta tb tc):=by
 intro f s g H Q I h;refine Compare_chain (thn (t f s g H _ I h) λv s1 ⟨x,H1,C,D,E⟩=>chain_link (thn (w f s1 g H1 _ C E) λu s2 ⟨y,J,L,j,M⟩ =>
  thn (ho f s2 g J x y v u _ L D j M) λd s3 ⟨z,l,m,N,k,e,o⟩=>?_)) B
 subst e;cases N;refine lH ?_;cases k with
 | false=>exact ite_ff ⟨.bl false,l,m,rfl,o⟩
 | true=>exact ite_tt (chain_last (thn (hc f s3 g l _ m o) (by rintro R s4 ⟨T,Y,Z,r4,q4⟩;exact p f s4 g Y y T u R Q Z j r4 q4)))
def Jt(ho:OpR X (compareOp op) r)(p:OpR X (compareOp i) q)(t:PE X a ta)(w:PE X b tb)(hc:PE X c tc)
  (B:lastMarks [op,i] [b,c]=false:=by with_unfolding_all rfl):PT X (.Compare a [op,i] [b,c] pos) (Ra (Cw r q ta tb tc)):=by
 intro f s g H Q I h;refine isTrue_chain (thn (t f s g H _ I h) λv s1 ⟨x,H1,C,D,E⟩=>test_link (thn (w f s1 g H1 _ C E) λu s2 ⟨y,J,L,j,M⟩ =>
  thn (ho f s2 g J x y v u _ L D j M) λd s3 ⟨z,l,m,N,k,e,o⟩=>?_)) B
 subst e;cases N;refine lH ?_;cases k with
 | false =>
  obtain⟨k',R,T⟩:=o;cases R;exact ite_ff ⟨l,m,T⟩
 | true =>
  refine ite_tt (test_last (thn (hc f s3 g l _ m o) λY s4 ⟨Z,H4,I4,r4,q4⟩=>thn (p f s4 g H4 y Z u Y _ I4 j r4 q4) λd' s5 z9=>?_))
  obtain⟨z2,H5,I5,r5,k2,e2,q5⟩:=z9;subst e2;cases r5;exact lH ⟨H5,I5,q5⟩
def NI(K:W.Frag)(x:V)(H:Hp)(k:Bool):Prop :=
 match x with
 | .bB=>k=false
 | .bl b=>k=b
 | .int i=>k=(i != 0)
 | .str y=>y.length<=sizeLine/\k=((y.length:Int) != 0)
 | .W0 y=>y.size<=sizeLine/\k=((y.size:Int) != 0)
 | .ref p=>(∃d,w9 K H p d/\k = !d.isEmpty)\/(∃d,gX K H p d/\k = !d.isEmpty)\/∃e,H p=some (.dK e)/\k = !e.isEmpty
 | _=>False
def Cy{d:Type}{kvs:List (d×V)}{vs:List (d×Value)}(r:KV kvs vs):(!vs.isEmpty) = !kvs.isEmpty:=by
 cases r<;>rfl
def rn(r:Vals xs d):(!d.toArray.isEmpty) = !xs.isEmpty:=by
 cases r<;>simp
def lR:(sizeLine:Nat)<2^63:=by rw[lN];decide
def Ju:acq X (λx H Q=>∃k,NI X.K x H k/\Q k H):=by
 intro D s E H x v Q I f h;obtain⟨k,e,q⟩:=h;have J:=lR;have L:=lN;cases x with
 | bB =>
  cases f;have d:=e;subst d;exact truthy_none ⟨H,I,q⟩
 | bl b =>
  cases f;have d:=e;subst d;exact lH ⟨H,I,q⟩
 | int i =>
  obtain⟨t,rfl⟩:=f;have d:=e;subst d;exact PySem.P.truthy_int ⟨H,I,q⟩
 | str y =>
  obtain⟨t,rfl⟩:=f;obtain⟨B,d⟩:y.length<=sizeLine/\k=((y.length:Int) != 0):=e;subst d;exact PySem.P.truthy_str (by lia) ⟨H,I.tok _,q⟩
 | W0 y =>
  obtain⟨t,rfl⟩:=f;obtain⟨B,d⟩:y.size<=sizeLine/\k=((y.size:Int) != 0):=e;subst d;exact W.truthy_bytes (by lia) ⟨H,I.tok _,q⟩
 | ref p =>
  cases f;have d:=e;rcases d with⟨xs,g,d⟩ | ⟨xs,g,d⟩ | ⟨j,g,d⟩
  ·subst d;obtain⟨C,r,pl,o⟩:=I.list g;have u:=r.length;exact wpAny_truthy_list pl.isList (by grind) ⟨H,I.tok _,by rw[rn r];exact q⟩
  ·subst d;obtain⟨C,r,pl,o⟩:=I.tuple g;have u:=r.length;exact truthy_tuple pl (by grind) ⟨H,I.tok _,by rw[rn r];exact q⟩
  ·subst d;obtain⟨o,hS,l,r,m⟩:j.length<=sizeLine/\(p==sysModules)=false/\∃l,KV j l/\s.heap.DictOf (b9 X.prog X.w) p l:=I.hok p _ g
   have u:=nU r;exact wpAny_truthy_dict hS m (by lia) ⟨H,I.tok _,by rw[Cy r];exact q⟩
 | _=>exact(e).elim
def Jv(g:PE X a ta)(he:∀e,isTrue a X.env e=(do let v <-e;standAt a.pos;holding [v] (truthy v))) :
  PT X a (λd H Q=>ta d H λx H'=>∃k,NI X.K x H' k/\Q k H'):=by
 intro f s d H Q I h;exact isTrue_plain (thn (g f s d H _ I h) (by rintro v s1 ⟨x,H1,i,j,l⟩;exact Ju f s1 d H1 x v Q i j l)) (he _)
def Cz:OpR X (binaryOp .Add) (λx y H Q=>∃i j,x=.str i/\y=.str j/\i.length+j.length<=sizeLine/\Q (.str (i++j)) H):=by
 intro k s l H x y v u Q I d e h;obtain⟨i,j,rfl,rfl,f,q⟩:=h;obtain⟨t,rfl⟩:=d;obtain⟨g,rfl⟩:=e;exact add_str (λg m=>⟨.str (i++j),H,I.tok _,⟨_,rfl⟩,q⟩) f
def jH(r:Vals [x] us):∃u,us=[u]/\RelV x u:=by
 cases r with
 | cons d e=>cases e;exact⟨_,rfl,d⟩
def Rb(r:Vals [x,y] us):∃u d,us=[u,d]/\RelV x u/\RelV y d:=by
 cases r with
 | cons e f =>
  cases f with
  | cons g h=>cases h;exact⟨_,_,rfl,e,g⟩
def uO:mq X (.type "int") (λxs H Q=>(∃i,xs=[.int i]/\Q (.int i) H)\/∃k,xs=[.bl k]/\Q (.int (if k then 1 else 0)) H):=by
 intro e s f H xs g Q I r h;rcases h with⟨i,rfl,q⟩ | ⟨k,rfl,q⟩
 ·obtain⟨u,rfl,t,rfl⟩:=jH r;exact call_int_int ⟨.int i,H,I,⟨_,rfl⟩,q⟩
 ·obtain⟨u,rfl,d⟩:=jH r;cases d;exact call_int_bool ⟨.int (if k then 1 else 0),H,I.tok _,⟨_,rfl⟩,q⟩
def xc:mq X (.type "str") (λxs H Q=>∃i,xs=[.int i]/\i.natAbs.log2<1920/\Q (.str (toString i)) H):=by
 intro e s f H xs g Q I r h;obtain⟨i,rfl,d,q⟩:=h;obtain⟨u,rfl,t,rfl⟩:=jH r;exact PySem.P.str_of_int d ⟨.str _,H,I.tok _,⟨_,rfl⟩,q⟩
end
structure Gp (h:Heap) (x dx C:Addr) (mA:Str->Option Value):Prop where
 obj:h.get? x=some (W.instObj C dx)
 ns:h.Ns1 dx mA
 ne:dx≠x
def Gq{h:Heap}{b:Str->Option Value}(n:h.Ns1 f b):∃c,h.get? f=some c/\∀name,W.lookIn name c=some (b name):=by
 obtain⟨o,d,l,ho,hd,hk,_,g⟩:=n;refine⟨o,ho,λname=>?_⟩
 have e:=g name;unfold nsFind findBy at e;rw[<-Array.find?_toList]at e;unfold W.lookIn;rw[hd];dsimp only
 split
 ·grind
 ·rename_i q;rw[q]at e;have a:d.toList.any (·.refKey)=false:=by
   rw[List.any_eq_false];intro y i;obtain⟨z,t,j⟩:=hk y (Array.mem_toList_iff.mp i);simp[DictEntry.refKey,j]
  have k:¬d.toList.any (·.refKey)=true:=by grind
  rw[if_neg k];exact cS some e
def Gp.NJ(I:Gp h x b C c):∃a,W.InstAt h x (W.instObj C b) C (some a)/\∀name,W.lookIn name a=some (c name) :=
 let ⟨a,ho,d⟩:=Gq I.ns
 ⟨a,⟨I.obj,rfl,rfl,ho⟩,d⟩
section
variable {prog:Program} {w:World} {A:Around} {E:Value->Shared->Prop} {s:Shared} {K:W.Frag} {x dx C f:Addr} {mA:Str->Option Value} {name:Str} {v:Value}
def NK(X:K.In s.heap)(I:Gp s.heap x dx C mA)(a:W.plainGet K C name=true)(b:W.hasDictIn K C=true)
  (c:W.findIn K (.ref C) name=some none) (d:mA name=some v) (e:W.handedIn v=true) (h:Q v {s with toks:=s.toks+1}) :
  wpAny (model prog w) A (getAttr (.ref x) name expr) Q E s:=by
 obtain⟨i,J,g⟩:=I.NJ;exact W.get_value X J (W.plainGet_of a).1 (W.findObj_own b c rfl (by rw[g,d])) e h
def NL(X:K.In s.heap)(I:Gp s.heap x dx C mA)
  (i:W.findIn K (.ref C) "__setattr__"=some (some (.builtin "object.__setattr__"))) (hp:W.plainOver K C=true) (ht:W.takerIn K C name=some none) (j:W.hasDictIn K C=true)
  (hw:PySem.Within mA ns) (hsz:ns.length<=sizeLine)
  (h:∀h',Gp h' x dx C (λy=>if y=name then some v else mA y)->Heap.SameBut dx s.heap h'->Q () {s with heap:=h',toks:=s.toks+2}) :
  wpAny (model prog w) A (setAttr (.ref x) name v) Q E s:=by
 obtain⟨p,J,q⟩:=I.NJ;refine W.set_plain X J i (W.osa_open X J hp ht λb=>?_)
 obtain⟨r,hc,k⟩:=W.any_some j;have l:=I.obj;refine ag (aw (ag (ag (wpAny_loadPart l (ag (W.Looks.here (W.looks_clsIn X hc) ?_))))));rw[k];refine aw (ag (aw (ag ?_)));refine wpAny_nsSet1 I.ns λh' a g=>?_
 obtain⟨t,m,o,c,d,e⟩:=a.count (PySem.Within.cons name v hw);refine ag (wpAny_lookBehind c (by rw[d];exact pastItsLine_dict (bP e (by grind))) ?_)
 exact aw (h _ ⟨(g.2 _ (dz I.ne)).trans I.obj,a,I.ne⟩ g)
def Jw(X:K.In s.heap)(b:W.makesIn K C=true)
  (c:W.findIn K (.ref C) "__init__"=some (some (.ref f))) (e:W.typeIn K (.ref f)=some (.type "function"))
  (h:codeAny (model prog w) (A.under (.builtin "type.__call__" ⟨.ref C::vs,kw⟩)) (.call (.ref f) ⟨.ref (s.heap.objs.size+1)::vs,kw⟩) (W.InitBack (s.heap.objs.size+1) R)
   {s with heap:=(s.heap.push W.emptyDict).push (W.instObj C s.heap.objs.size)}) :
  codeAny (model prog w) A (.call (.ref C) ⟨vs,kw⟩) R s:=by
 obtain⟨i,g,d,t,j⟩:=s;exact W.make_core (W.makes_of X b) (W.looks_findIn X c) (λa=>W.bind_fn X a e) (.inl rfl) h
end
noncomputable def iM(f:Str)(v:V):List (Str×V)->List (Str×V)
 | []=>[(f,v)]
 | (g,x)::r=>if g=f then(g,v)::r else(g,x)::iM f v r
theorem oS(f g:Str)(v:V):∀fs:List (Str×V),(iM f v fs).lookup g=if g=f then some v else fs.lookup g
 | []=>by
  show List.lookup g [(f,v)]=_;by_cases h:g=f
  ·grind
  ·grind
 | (k,x)::r=>by
  have ih:=oS f g v r;rw[show iM f v ((k,x)::r)=(if k=f then(k,v)::r else(k,x)::iM f v r)from rfl]
  by_cases hk:k=f
  ·grind
  ·grind
theorem og(f:Str)(v:V):∀fs:List (Str×V),f∈(iM f v fs).map (·.1)/\∀g,g∈fs.map (·.1)->g∈(iM f v fs).map (·.1)
 | []=>⟨by simp[iM],λg h=>by simp at h⟩
 | (k,x)::r=>by
  obtain⟨a,b⟩:=og f v r;rw[show iM f v ((k,x)::r)=(if k=f then(k,v)::r else(k,x)::iM f v r)from rfl]
  by_cases hk:k=f
  ·grind
  ·grind
theorem oT(f:Str)(v:V):∀fs:List (Str×V),(iM f v fs).length<=fs.length+1
 | []=>by simp[iM]
 | (k,x)::r=>by
  have ih:=oT f v r;rw[show iM f v ((k,x)::r)=(if k=f then(k,v)::r else(k,x)::iM f v r)from rfl]
  by_cases hk:k=f
  ·grind
  ·grind
def q9.NO(r:q9 (some v) o):∃u,o=some u/\RelV v u:=by
 cases o with
 | none=>exact(r).elim
 | some u=>exact⟨u,rfl,r⟩
def Gs(r:RelV v u):W.handedIn u=true:=by
 cases v with
 | bB=>cases(r);rfl
 | bl b=>cases(r);rfl
 | int i=>obtain⟨t,e⟩:=(r);cases e;rfl
 | str x=>obtain⟨t,e⟩:=(r);cases e;rfl
 | W0 b=>obtain⟨t,e⟩:=(r);cases e;rfl
 | flt b=>obtain⟨t,e⟩:=(r);cases e;rfl
 | ref a=>cases(r);rfl
 | ty n=>cases(r);rfl
section
variable {P:Program} {w:World} {H H':Hp} {h h':Heap} {a C dx:Addr} {fs QU:List (Str×V)}
def Ei(c:lP P w H h)(e:H a=some (.oO C dx fs)):∃b,Gp h a dx C b/\(∀f,q9 (fs.lookup f) (b f))/\PySem.Within b (fs.map (·.1))/\fs.length<=1000/\H dx=some (.own a):=by
 obtain⟨d,z,ne,g,b,n,r,q⟩:=(c a _ e);exact⟨b,⟨g,n,ne⟩,r,q,z,d⟩
end
def F8.get{K:W.Frag}{C:Addr}(c:F8 K C)(f:Str):W.plainGet K C f=true:=c.pg
def jk.X5{K:W.Frag}{C:Addr}{f:Str}(n:jk K C f):W.takerIn K C f=some none:=by
 unfold W.takerIn;rw[show W.findIn K (.ref C) f=some none from n]
 rfl
section
variable {X:Cx} {ae:List (Addr×Obj)} {σ:St} {H:Hp} {s:Shared} {a C dx:Addr} {fs:List (Str×V)} {f:Str} {v:V} {A:Around} {E:Value->Shared->Prop}
def CB(I:Inv X ae σ H s)(e:H a=some (.oO C dx fs))(c:F8 X.K C)(n:jk X.K C f)(l:fs.lookup f=some v)
  (h:∀u d,Inv X ae σ H d->RelV v u->Q u d):wpAny (model X.prog X.w) A (getAttr (.ref a) f b) Q E s:=by
 obtain⟨j,O,r,_,_,_⟩:=Ei I.hok e;obtain⟨u,i,g⟩:=q9.NO (by rw[<-l];exact r f)
 exact NK I.rg O (c.get f) c.hd n i (Gs g) (h u _ (I.tok _) g)
def CD(I:Inv X ae σ H s)(e:H a=some (.oO C dx fs))(c:F8 X.K C)(n:jk X.K C f)(J:fs.length<1000)(k:RelV y u)
  (h:∀i,Inv X ae σ (cu H a (.oO C dx (iM f y fs))) i->Q () i):wpAny (model X.prog X.w) A (setAttr (.ref a) f u) Q E s:=by
 obtain⟨l,O,r,j,_,ho⟩:=Ei I.hok e;have m:(fs.map (·.1)).length<=sizeLine:=by rw[aj,lN];lia
 refine NL I.rg O c.sa c.po n.X5 c.hd j m λp d t=>h _ ?_
 have hd:∃o,p.get? dx=some o:=let ⟨o,_,_,x,_⟩:=d.ns;⟨o,x⟩
 refine I.write (by rw[e];exact True.intro) (.inr ho) (λb q B z=>(t.2 b B).trans z) hd ?_
 refine⟨by rw[aI O.ne];exact ho,?_,O.ne,d.obj,_,d.ns,λg=>?_,λg D=>?_⟩
 ·have:=oT f y fs;lia
 ·rw[oS];by_cases q:g=f
  ·rw[if_pos q,if_pos q];exact k
  ·rw[if_neg q,if_neg q];exact r g
 ·by_cases q:g=f
  ·rw[q];exact(og f y fs).1
  ·refine(og f y fs).2 g (j g λz=>D ?_)
   show(if g=f then some u else l g)=none
   rw[if_neg q];exact z
def Inv.made(I:Inv X ae σ H s):Inv X ae σ (cu (cu H s.heap.objs.size (.own (s.heap.objs.size+1))) (s.heap.objs.size+1) (.oO C s.heap.objs.size []))
  {s with heap:=(s.heap.push W.emptyDict).push (W.instObj C s.heap.objs.size)}:=by
 have e1:(s.heap.push W.emptyDict).get? s.heap.objs.size=some W.emptyDict:=cP s.heap rfl;have c:((s.heap.push W.emptyDict).push (W.instObj C s.heap.objs.size)).get? (s.heap.objs.size+1)=some (W.instObj C s.heap.objs.size):=by
  have:=cP (s.heap.push W.emptyDict) (o:=W.instObj C s.heap.objs.size) rfl
  rwa [Heap.size_push]at this
 have d:(s.heap.push W.emptyDict).Ns s.heap.objs.size (λ_=>none):=⟨W.emptyDict,#[],_,e1,rfl,(λe he=>absurd he (by simp)),λ_=>rfl⟩
 have g:=I.laid (o:=.own (s.heap.objs.size+1)) (t':=s.toks) (λb u q=>bf _ q) (az _) ⟨_,e1⟩
 refine g.laid (t':=s.toks) (λb u q=>bf _ q) (jY (Heap.size_push _ _)) ?_
 have ne:s.heap.objs.size≠s.heap.objs.size+1:=by grind
 refine⟨by rw[aI ne,aB],fJ _,ne,c,λ_=>none,(Heap.Ns1.of_empty d).at λo q=>bf _ q,λ_=>True.intro,λy h=>absurd rfl h⟩
def NP(c:attributeBase e f env (eval e env)=eval e env)
  (h:wpAny (model prog w) A (eval e env) (λo b=>wpAny (model prog w) A (getAttr o f true) Q E b) E s):wpAny (model prog w) A (eval (.Attribute e f pos) env) Q E s :=
 Attribute_any_ h (by rw[arm_eval_Attribute,c])
end
def acu(K:W.Frag)(c:TE)(f:Str):TE:=λd H Q=>c d H λx b=>∃a C e fs v,x=.ref a/\b a=some (.oO C e fs)/\F8 K C/\jk K C f/\fs.lookup f=some v/\Q v b
def acv(K:W.Frag)(e g:TE)(f:Str):TS:=λD b H=>g b H λy h=>e b h λx c=>∃a C d fs,x=.ref a/\c a=some (.oO C d fs)/\F8 K C/\jk K C f/\fs.length<1000 /\
 D.nx b (cu c a (.oO C d (iM f y fs)))
section
variable {X:Cx} {o e value:Expr} {f:Str} {pos ub TV:Pos} {ta tv:TE}
def TX(he:PE X e ta)(b:attributeBase e f X.env (eval e X.env)=eval e X.env):PE X (.Attribute e f pos) (acu X.K ta f):=by
 intro d s g H Q I h;refine NP b (thn (he d s g H _ I h) λu w i=>?_)
 obtain⟨x,j,k,m,a,C,y,fs,v,ex,p,c,n,l,q⟩:=i;subst ex;obtain rfl:u=Value.ref a:=m;exact CB k p c n l λB D r t=>⟨v,j,r,t,q⟩
def TY(g:PE X o ta)(i:PE X value tv)(j:swapsWith value (some (.Attribute o f ub)) pos.line X.env=pure false):PS X (.Assign [.Attribute o f ub] value pos) (acv X.K ta tv f):=by
 intro d s b H D I h;refine plainObj_wpAny_Assign_Attribute (thn (i d s b H _ I h) λu s1 ⟨y,H1,k,m,q⟩=>thn (g d s1 b H1 _ k q) λp J r=>?_) j
 obtain⟨x,L,t,v,a,C,M,fs,ex,w,c,n,l,B⟩:=r;subst ex;obtain rfl:p=Value.ref a:=v;exact CD t w c n l m λN E=>⟨b,_,E,B⟩
end
structure dN (k:Nat) (A:Around):Prop where
 hd:A.handled=none
 dp:A.depth+3*k+5<recursionLimit
 un:A.units+16*k+1200<cLine
def dN.mono(r:dN k A)(h:j<=k):dN j A:=⟨r.hd,by have:=r.dp;lia,by have:=r.un;lia⟩
def dN.deeper(r:dN (k+1) A)(a:Env):dN k (A.deeper a) :=
 ⟨r.hd,by have:=r.dp;show A.depth+1+3*k+5<_;lia,by have:=r.un;show A.units+3+16*k+1200<_;lia⟩
def CF{A:Around}:(A.under (.builtin "type.__call__" ⟨.ref C::us,kw⟩)).depth=A.depth+1:=by
 first | rfl | simp[Around.under,Code.weight,Code.isCreation,Code.isGuard,Code.isCaller,Code.frames,Code.isFrame,guardIds]
def CG{A:Around}:(A.under (.builtin "type.__call__" ⟨.ref C::us,kw⟩)).units=A.units+1:=by
 first | rfl | simp[Around.under,Code.cUnits,Code.frames,Code.isFrame]
def dN.make(r:dN (k+1) A)(C:Addr)(a:List Value)(kw:List (Str×Value)):dN k (A.under (.builtin "type.__call__" ⟨.ref C::a,kw⟩)) :=
 ⟨r.hd,by have:=r.dp;rw[CF];lia,by have:=r.un;rw[CG];lia⟩
def dN.depth(r:dN k A):A.depth<recursionLimit:=by have:=r.dp;lia
def acw:TA:=λ_ H Q=>Q [] H
def X6(b:TE)(c:TA):TA:=λa H Q=>b a H λx d=>c a d λe f=>Q (x::e) f
section
variable {X:Cx} {e:Expr} {es:List Expr} {te:TE} {t:TA} {pos:Pos}
def rp:PA X [] acw:=λ_ _ _ _ H Q I h=>Calls.spliced_nil ⟨[],H,I,.nil,h⟩
def jq(c:PE X e te)(d:PA X es t)(f:starEach (e::es) X.env=(false,eval e X.env)::starEach es X.env:=by rfl):PA X (e::es) (X6 te t):=by
 intro pos a s b H Q I h;rw[f];refine Calls.spliced_cons (thn (c a s b H _ I h) λu s1 ⟨x,H1,g,i,j⟩=>?_)
 exact thn (d pos a s1 b H1 _ g j) (by rintro us s2 ⟨xs,k,l,m,o⟩;exact⟨x::xs,k,l,.cons i m,o⟩)
def acx(t:TA):TE:=λc H Q=>t c H λa b=>a.length<=sizeLine/\∀p,b p=none->Q (.ref p) (cu b p (.aq a))
def acy(t:TA):TE:=λc H Q=>t c H λa b=>a.length<=sizeLine/\∀p,b p=none->Q (.ref p) (cu b p (.lst a))
def TZ{c}(h:PA X es t):PE X (.Tuple es c pos) (acx t):=by
 intro d s f H Q I g;refine wpAny_Tuple_spliced (thn (h pos d s f H _ I g) λus s1 ⟨xs,H1,a,r,z,q⟩=>⟨by rw[<-r.length];exact z,?_⟩)
 have i:=a.hok.fresh (az _);refine⟨.ref s1.heap.objs.size,cu H1 s1.heap.objs.size (.aq xs),a.laid (λb u e=>bf _ e) (az _) ?_,rfl,q _ i⟩
 exact⟨z,us,r,⟨_,cP _ rfl,rfl,_,rfl⟩⟩
def Jx(h:PA X es t):PE X (.List es pos) (acy t):=by
 intro c s d H Q I f;refine wpAny_List_spliced (thn (h pos c s d H _ I f) λus s1 ⟨xs,H1,a,r,z,q⟩=>⟨by rw[<-r.length];exact z,?_⟩)
 have g:=a.hok.fresh (az _);refine⟨.ref s1.heap.objs.size,cu H1 s1.heap.objs.size (.lst xs),a.laid (λb u e=>bf _ e) (az _) ?_,rfl,q _ g⟩
 exact⟨z,us,0,r,cP _ rfl⟩
end
abbrev Sp:=List V->Hp->VK->XK->Prop
abbrev Ig:=List Env->Hp->Shared->XK->Value->Shared->Prop
structure Env0 (P:Program) (w:World) (K:W.Frag) (mg:Str->Option Value) (base:Heap) (A:Around) (ay:List Env) (s:Shared) (H:Hp):Prop where
 frames:A.frames=some ay
 mod:Mod K mg base
 bs:∀b o,base.get? b=some o->s.heap.get? b=some o/\H b=none
 bsz:base.objs.size<=s.heap.objs.size
 funs:s.heap.FunFrames base ay
 frf:∀b∈oe ay,H b=none
 hok:lP P w H s.heap
 bare:AllBare s.gens
 tabs:rf K H
def CE(c:List Env)(P:Program)(w:World)(H:Hp)(s:Shared)(Q:VK)(u:Value)(a:Shared):Prop :=
 ∃v b,a.os=s.os/\AllBare a.gens/\Un (oe c) [] H b s.heap a.heap/\lP P w b a.heap/\RelV v u/\Q v b
def CR(CX:Ig)(a:List Env)(P:Program)(w:World)(H:Hp)(s:Shared)(Q:VK)(E:XK)(r:Result)(b:Shared):Prop :=
 match r with
 | .ok (.ret u)=>CE a P w H s Q u b
 | .ok _=>False
 | .error e=>CX a H s E e b
structure FnOk (P:Program) (w:World) (K:W.Frag) (mg:Str->Option Value) (base:Heap) (CX:Ig) (k:Nat) (f:Addr) (fd:FuncData) (ps:List Str) (sp:Sp):Prop where
 len:∀vs H Q E,sp vs H Q E->vs.length=ps.length
 run:∀(A:Around) (ay:List Env) (s:Shared) (H:Hp) (args:Args) (us:List Value) (vs:List V) (Q:VK) (E:XK),dN k A->Env0 P w K mg base A ay s H->BindsTo s fd args (ps.zip us)->Vals vs us->sp vs H Q E ->
  codeAny (model P w) A (.call (.ref f) args) (CR CX ay P w H s Q E) s
def Env0.make{P:Program}{w:World}{K:W.Frag}{b:Str->Option Value}{a:Heap}{A:Around}{c:List Env}{s:Shared}{H:Hp}(e:Env0 P w K b a A c s H)(C:Addr)(d:List Value)(kw:List (Str×Value)) :
  Env0 P w K b a (A.under (.builtin "type.__call__" ⟨.ref C::d,kw⟩)) c s H:=⟨by first | exact e.frames | (simpa[Around.under,Code.envs,Code.isFrame,pushEnvs]using e.frames),e.mod,e.bs,e.bsz,e.funs,e.frf,e.hok,e.bare,e.tabs⟩
section
variable {X:Cx} {ae:List (Addr×Obj)} {σ:St} {H:Hp} {s s':Shared}
def Inv.NQ(I:Inv X ae σ H s):Env0 X.prog X.w X.K X.mg X.base X.A X.stack s H :=
 ⟨I.ok.frames,I.ok.mod,I.bs,bP I.ok.bsz I.sz,I.stack,I.w6,I.hok,I.bare,I.tabs⟩
def Inv.after(I:Inv X ae σ H s)(h:CE X.stack X.prog X.w H s Q u s'):EP X ae σ Q u s':=by
 obtain⟨v,e,f,a,un,c,r,q⟩:=h;obtain⟨k,g,d,t,j⟩:=s';obtain rfl:j=s.os:=f;exact⟨v,e,I.call un c a (λb z=>absurd z (by simp)),r,q⟩
end
def Rc(C:Addr)(c:Sp)(d:List V)(E:XK)(t:TA):TE:=λe H Q=>t e H λf b=>∀x a,b x=none->b a=none->a≠x ->
 c (.ref x::(f++d)) (cu (cu b a (.own x)) x (.oO C a [])) (λv g=>v=.bB/\Q (.ref x) g) E
def gr(K:W.Frag)(b:FuncData)(ps:List Str)(a:List Value):Prop :=
 ∀(s:Shared) (us:List Value),K.In s.heap->(us++a).length=ps.length->BindsTo s b ⟨us,[]⟩ (ps.zip (us++a))
def gr.all{K:W.Frag}{b:FuncData}{ps:List Str}(h:∀a:List Value,a.length=ps.length->bindArgs b ⟨a,[]⟩=pure (ps.zip a)):gr K b ps []:=λs a _ c=>by
 rw[dU]at c ⊢;exact .of_eq (h a c)
def CH(CX:Ig)(X:Cx)(E:XK):Prop:=∀(b:List (Addr×Obj)) (σ:St) (H:Hp) (s:Shared) (e:Value) (a:Shared),Inv X b σ H s->CX X.stack H s E e a->X.xe e a
section
variable {X:Cx} {CX:Ig} {k:Nat} {f C:Addr} {fd:FuncData} {ps:List Str} {sp:Sp} {QS:List V} {ds:List Value} {E:XK} {x m:Str} {p pos qX:Pos} {e o:Expr} {es:List Expr} {ta:TE} {t:TA}
def Jy{g:List (Addr×Obj)}{i:St}{H:Hp}{s:Shared}{Q:VK}{a:List Value}{vs:List V}(M:Mk X.K C f)(F:FnOk X.prog X.w X.K X.mg X.base CX k f fd ps sp)(q:dN (k+1) X.A)(y:gr X.K fd ps ds)(hd:Vals QS ds)
  (B:CH CX X E) (I:Inv X g i H s) (r:Vals vs a)
  (h:∀x c,H x=none->H c=none->c≠x->sp (.ref x::(vs++QS)) (cu (cu H c (.own x)) x (.oO C c [])) (λv D=>v=.bB/\Q (.ref x) D) E) :
  wpAny (model X.prog X.w) X.A (call (.ref C) a) (EP X g i Q) X.xe s:=by
 have j:=h (s.heap.objs.size+1) s.heap.objs.size (I.hok.fresh (Nat.le_succ _)) (I.hok.fresh (az _)) (bD (qO _));have d:=Inv.made (C:=C) I;have l:Vals (V.ref (s.heap.objs.size+1)::(vs++QS)) (Value.ref (s.heap.objs.size+1)::(a++ds)):=.cons rfl (r.append hd);have J:(Value.ref (s.heap.objs.size+1)::a++ds).length=ps.length:=by
  have e:=l.length;rw[F.len _ _ _ _ j]at e;exact e.symm
 refine wpAny_call (Jw I.rg M.makes M.init (beq_iff_eq.mp M.fn) (nW (F.run _ X.stack _ _ ⟨Value.ref (s.heap.objs.size+1)::a,[]⟩ (Value.ref (s.heap.objs.size+1)::(a++ds)) _ _ E (q.make C a [])
  (d.NQ.make C a []) (y _ (Value.ref (s.heap.objs.size+1)::a) d.rg J) l j) λr L b=>?_))
 cases r with
 | error e=>exact B g i _ _ e L d b
 | ok N =>
  cases N with
  | ret u =>
   obtain⟨v,R,T,Y,Z,q3⟩:=d.after b;subst Z;exact⟨Y,⟨V.ref (s.heap.objs.size+1),R,T,rfl,q3⟩⟩
  | next=>exact False.elim b
  | brk=>exact False.elim b
  | cont=>exact False.elim b
def NR(M:Mk X.K C f)(F:FnOk X.prog X.w X.K X.mg X.base CX k f fd ps sp)(b:dN (k+1) X.A)(c:Gl X x)(d:X.mg x=some (.ref C))(g:gr X.K fd ps ds)(hd:Vals QS ds)(i:CH CX X E)
  (j:PA X (e::es) t) (l:(x==("__debug__":Str))=false:=by decide) (he:starEach (e::es) X.env=(false,eval e X.env)::starEach es X.env:=by rfl) (u:(backTo pos (starEach es X.env)).any (·.1)=false:=by rfl) :
  PE X (.Call (.Name x p) (e::es) [] pos) (Rc C sp QS E t):=by
 intro v s y H Q I h;refine jh (ld_glob I c d ?_ l);refine W.callWith_K I.ok.mod.kin M.kp (thn (j pos v s y H _ I h) λus s1 ⟨B,H1,a,r,q⟩=>⟨a.rg,?_⟩) he u
 exact Jy M F b g hd i a r q
end
theorem uP{a:Str->Option NameKind}:∀{b:List (Str×Value)} {m:Str->Option Value},(∀v,(x,v)∉b)->bindL a b m x=m x
 | [],_,_=>rfl
 | (n,v)::r,m,h=>by
  unfold bindL;rw[uP λw hw=>h w (aH _ hw)]
  split
  ·grind
  ·rfl
theorem uQ{a:Str->Option NameKind}:∀{b:List (Str×Value)} {m:Str->Option Value},(∀v,(x,v)∉b)->bindC a b m x=m x
 | [],_,_=>rfl
 | (n,v)::r,m,h=>by
  unfold bindC;rw[uQ λw hw=>h w (aH _ hw)]
  split
  ·rfl
  ·grind
theorem uR{a:Str->Option NameKind}:∀{P:List Str} {vs:List Value} {i:Nat} {m:Str->Option Value},P.Nodup->P[i]?=some x->vs[i]?=some v->a x=some .local ->
  bindL a (P.zip vs) m x=some v
 | [],_,_,_,_,h,_,_=>by simp at h
 | _::_,[],_,_,_,_,h,_=>by simp at h
 | p::P,w::vs,0,m,nd,b,c,hk=>by
  simp at b c;subst b;subst c;show bindL a ((p,w)::P.zip vs) m p=_;unfold bindL;rw[uP λv d=>(gg.mp nd).1 (wK d).1,if_pos hk]
  simp
 | p::P,w::vs,i+1,m,nd,b,c,hk=>by
  unfold bindL;exact uR (gg.mp nd).2 (by simpa using b) (by grind) hk
theorem uS{a:Str->Option NameKind}:∀{P:List Str} {vs:List Value} {i:Nat} {m:Str->Option Value},P.Nodup->P[i]?=some x->vs[i]?=some v->a x≠some .local ->
  bindC a (P.zip vs) m x=some v
 | [],_,_,_,_,h,_,_=>by simp at h
 | _::_,[],_,_,_,_,h,_=>by simp at h
 | p::P,w::vs,0,m,nd,b,c,hk=>by
  simp at b c;subst b;subst c;show bindC a ((p,w)::P.zip vs) m p=_;unfold bindC;rw[uQ λv d=>(gg.mp nd).1 (wK d).1,if_neg hk]
  simp
 | p::P,w::vs,i+1,m,nd,b,c,hk=>by
  unfold bindC;exact uS (gg.mp nd).2 (by simpa using b) (by grind) hk
noncomputable def start(N:List Str)(vs:List V):St:=vs.map some++List.replicate (N.length-vs.length) none
noncomputable def fq(CX:Ig)(P:Program)(w:World)(K:W.Frag)(mg:Str->Option Value)(base:Heap)(N:List Str)(qual:Str)(a:Scope)(f:Addr)(cd:Value)(A:Around)(ay:List Env)(s:Shared)(H:Hp)(E:XK):Cx where
 prog:=P
 w:=w
 K:=K
 mg:=mg
 base:=base
 A:=A.deeper (envOfC qual a s.heap.objs.size f cd)
 N:=N
 s₀:=s
 aa:=H
 env:=envOfC qual a s.heap.objs.size f cd
 ay:=ay
 stack:=envOfC qual a s.heap.objs.size f cd::ay
 ex:=[]
 calm:=true
 fn:=λ_=>true
 pn:=[]
 xe:=λe c=>wpAny (model P w) (A.deeper (envOfC qual a s.heap.objs.size f cd)) (leaving (envOfC qual a s.heap.objs.size f cd) e) (λ_ b=>CX ay H s E e b) (λd b=>CX ay H s E d b) c
def zD{a:Scope}(h:a.names.lookup x=some .cell):∃c,(cellsFrom n a.names []).lookup x=some c:=by
 have q:=W.cellsFrom_some a.names n [] (.inl h);exact Option.isSome_iff_exists.mp q
def uT{CX:Ig}{P:Program}{w:World}{K:W.Frag}{C:Str->Option Value}{g:Heap}{N ps:List Str}{qual:Str}{d:Scope}{f:Addr}{cd:Value}{A:Around}{D:List Env}{s s1:Shared}{H:Hp}{E:XK}{I:List Value}{vs:List V}
  (S:dH N ps d) (hd:A.handled=none) (j:Env0 P w K C g A D s H) (R:vs.length=ps.length) (r:Vals vs I)
  (x:InCallC s s.heap.objs.size (bindL (envOfC qual d s.heap.objs.size f cd).kindOf (ps.zip I) λ_=>none) (cellsFrom (s.heap.objs.size+1) d.names []) (bindC (envOfC qual d s.heap.objs.size f cd).kindOf (ps.zip I) λ_=>none) s1) :
  Inv (fq CX P w K C g N qual d f cd A D s H E) [] (start N vs) H s1:=by
 have T:ps.length<=N.length:=by have:=cS List.length S.pre;rw[jV]at this;lia
 obtain⟨B,X,rfl,hk⟩:=x.done;have m:∀b:Addr,b∉(fq CX P w K C g N qual d f cd A D s H E).ex:=λb z=>absurd (show b∈([]:List Addr)from z) (by simp)
 refine⟨⟨j.mod,S.kind,rfl,rfl,az _,λy z c B l=>?_,λy o=>?_,λy c _ h=>?_,λ_=>hd,Around.frames_deeper j.frames,.inr ⟨rfl,rfl⟩,λb z=>absurd z (m b),j.bs,j.bsz,λb _ _=>m b,λb z=>absurd z (m b),j.funs,j.frf,j.tabs⟩,
  rfl,j.bare,Un.kept hk,⟨_,x.toInCall.ns,λi y v B l Y=>?_⟩,λy c h=>⟨_,x.cell y c h⟩,j.hok.fresh (az _),λy c h=>?_,λp hp=>absurd (show p∈([]:List (Addr×Obj))from hp) (by simp),j.hok.kept hk,?_⟩
 ·exact name_of_addr x.apart (eu B) (eu l)
 ·have o:=o;rcases o with o | o
  ·exact zD o
  ·exact absurd rfl (S.nofree _ (eu o))
 ·exact nY (x.above y c (eu h))
 ·have J:i<vs.length:=by
   unfold start at l;by_cases J:i<vs.length
   ·exact J
   ·grind
  have M:vs[i]?=some v:=by
   unfold start at l;rw[c5 (by grind),bz]at l
   cases e:vs[i]? with
   | none=>rw[e]at l;cases l
   | some a=>rw[e]at l;cases l;rfl
  obtain⟨u,L,Q⟩:=r.get M;have hp:ps[i]?=some y:=by
   rw[<-S.pre,List.getElem?_take_of_lt (by lia)];exact B
  have t:ps.Nodup:=by rw[<-S.pre];exact S.nd.sublist (List.take_sublist _ _)
  refine⟨u,Q,?_⟩;rcases S.par y (cH hp)with k | k
  ·exact .inl ⟨k,uR t hp L k⟩
  ·obtain⟨c,e⟩:=zD k;refine .inr ⟨.inl k,c,e,?_⟩;have q:=x.cell y c e;rw[uS t hp L (by show d.names.lookup y≠_;rw[k];decide)]at q
   exact q
 ·exact j.hok.fresh (nY (x.above y c (eu h)))
 ·unfold start;show _=N.length;rw[aV,aj,List.length_replicate]
  lia
def Jz{CX:Ig}{P:Program}{w:World}{K:W.Frag}{p:Str->Option Value}{c:Heap}{k:Nat}{f:Addr}{name qual:Str}{j:Arguments}{d:List Stmt}{a:Scope}{T kV l X g ct oc:Value}{Y od:Option Addr}
  {yU:Array (Option Value)} {N ps:List Str} {C:Sp} (lk:K.lookup f=some ⟨oc,od,.func (W.fnOf name qual j d a T kV l X Y g ct),yU⟩) (Ed:W.codeIn K g qual=true) (S:dH N ps a)
  (len:∀vs H Q E,C vs H Q E->vs.length=ps.length)
  (hbody:∀(A:Around) (h:List Env) (s:Shared) (H:Hp) (vs:List V) (Q:VK) (E:XK),dN k (A.deeper (envOfC qual a s.heap.objs.size f g))->C vs H Q E ->
   ∃t,PSs (fq CX P w K p c N qual a f g A h s H E) d t/\t {nx:=λ_ H'=>Q .bB H',rt:=Q} (start N vs) H) :
  FnOk P w K p c CX (k+1) f (W.fnOf name qual j d a T kV l X Y g ct) ps C:=by
 refine⟨len,λA h s H args us vs Q E D m hb r Z=>?_⟩
 have hl:=len _ _ _ _ Z;have KX:=m.mod.kin.keeps λb o e=>(m.bs b o e).1
 have L:=m.mod.nolimit.keeps λb o e=>(m.bs b o e).1
 have X8:∀y∈ps.zip us,a.names.lookup y.1=some .local\/(a.names.lookup y.1=some .cell/\((cellsFrom (s.heap.objs.size+1) a.names []).lookup y.1).isSome=true):=by
  rintro⟨n,v⟩ hy
  rcases S.par n (wK hy).1 with q | q
  ·grind
  ·exact .inr ⟨q,W.cellsFrom_some _ _ _ (.inl q)⟩
 refine codeAny_call_function D.depth (KX _ _ lk) rfl S.co S.gen rfl (W.codeRec_of KX Ed) (hb _ _ _ _ ?_);refine II S.kind X8 λenv he s1 x=>?_
 subst he;refine⟨L.keeps x.toInCall.keep,codeAny_func ?_⟩;obtain⟨t,ht,hq⟩:=hbody A h s H vs Q E (D.deeper _) Z;have I:Inv (fq CX P w K p c N qual a f g A h s H E) [] (start N vs) H s1:=uT S D.hd m hl r x;refine jj (ht [] s1 (start N vs) H _ I hq) (λfl M i=>?_) λe M i=>i
 have la:∀{B:St} {H':Hp} {v:V} {u:Value},Inv (fq CX P w K p c N qual a f g A h s H E) [] B H' M->RelV v u->Q v H'->CE h P w H s Q u M :=
  λ{B H' v u} J R q=>⟨v,H',J.os,J.bare,J.base,J.hok,R,q⟩
 cases fl with
 | ret u =>
  obtain⟨v,B,H',J,R,q⟩:=i;exact la J R q
 | next =>
  obtain⟨B,H',J,q⟩:=i;exact la (v:=V.bB) J rfl q
 | brk =>
  obtain⟨_,_,_,q⟩:=i;exact False.elim q
 | cont =>
  obtain⟨_,_,_,q⟩:=i;exact False.elim q
section
variable {X:Cx} {x:Str} {p pos:Pos} {e:Expr} {es:List Expr} {t:TA} {id T:String} {r:List V->Hp->VK->Prop}
def tCB(r:List V->Hp->VK->Prop)(t:TA):TE:=λa H Q=>t a H λb c=>r b c Q
def rA(hc:mq X (.builtin id) r)(c:Gl X x)(d:X.mg x=none)(f:bootBuiltins x=some (.builtin id))(g:PA X (e::es) t)(i:x≠"__name__":=by decide)(j:(x==("__debug__":Str))=false:=by decide)
  (he:starEach (e::es) X.env=(false,eval e X.env)::starEach es X.env:=by rfl) (k:(backTo pos (starEach es X.env)).any (·.1)=false:=by rfl):PE X (.Call (.Name x p) (e::es) [] pos) (tCB r t):=by
 intro a s b H Q I h;refine jh (ld_blt I c d f ?_ i j);exact IC (thn (g pos a s b H _ I h) (by rintro us s1 ⟨l,H1,m,o,q⟩;exact hc a s1 b H1 l us Q m o q)) he k
def oh(hc:mq X (.type T) r)(c:Gl X x)(d:X.mg x=none)(f:bootBuiltins x=some (.type T))(g:PA X (e::es) t)(i:x≠"__name__":=by decide)(j:(x==("__debug__":Str))=false:=by decide)
  (he:starEach (e::es) X.env=(false,eval e X.env)::starEach es X.env:=by rfl) (k:(backTo pos (starEach es X.env)).any (·.1)=false:=by rfl):PE X (.Call (.Name x p) (e::es) [] pos) (tCB r t):=by
 intro a s b H Q I h;refine jh (ld_blt I c d f ?_ i j);exact ir (thn (g pos a s b H _ I h) (by rintro us s1 ⟨l,H1,m,o,q⟩;exact hc a s1 b H1 l us Q m o q)) he k
end
end L2
namespace HT
open PySem PyProof.Rows
section
variable {prog:Program} {w:World} {A:Around} {E:Value->Shared->Prop} {s:Shared}
def Ej(ht:IsTup s.heap t vs.toArray)(k:IsTup s.heap b ws.toArray)(o:vs≠[])
  (h1:ws=[]->Q (.ref t) s) (l:ws≠[]->Q (.ref s.heap.objs.size) {s with heap:=s.heap.push {cls:=.type "tuple",data:=.seq (vs++ws).toArray}})
  (hsz:vs.length+ws.length<=sizeLine):wpAny (model prog w) A (binaryOp .Add (.ref t) (.ref b)) Q E s:=by
 obtain⟨⟨cls,f,data,g⟩,ho,hc,n,hd⟩:=id ht;obtain⟨⟨m,c,p,d⟩,a,h,i,j⟩:=id k;simp only at hc hd h j;subst hc hd h j;have e:vs.toArray++ws.toArray=(vs++ws).toArray:=by simp
 by_cases hw:ws=[]
 ·exact concat_meets ⟨_,ho,rfl⟩ ⟨_,a,rfl⟩ B6 seq_tuple_add BO BM (BL _ _)
   (tuple_addW1 t b vs.toArray ws.toArray n i f c g d (by grind) (by simp[hw])) ⟨ho,a,h1 hw⟩
 ·refine concat_meets ⟨_,ho,rfl⟩ ⟨_,a,rfl⟩ B6 seq_tuple_add BO BM (BL _ _)
   (tuple_addW2 t b vs.toArray ws.toArray n i f c g d (by grind) (by grind) (by grind)) ⟨ho,a,?_⟩
  rw[e];exact l hw
noncomputable def eE(n d:Nat):Option Int->Nat
 | none=>d
 | some v=>if v<0 then(v+(n:Int)).toNat else min v.toNat n
def zE(n d:Nat):eE n d none=d:=rfl
def xf(n d k:Nat):eE n d (some (k:Int))=min k n:=by
 show(if(k:Int)<0 then((k:Int)+(n:Int)).toNat else min (k:Int).toNat n)=min k n
 rw[if_neg (by lia),gE]
def T1(n d:Nat)(hd:d<=n)(o:Option Int):eE n d o<=n:=by
 cases o with
 | none=>exact hd
 | some v =>
  show(if v<0 then(v+(n:Int)).toNat else min v.toNat n)<=n
  by_cases a:v<0
  ·grind
  ·grind
def El(v:Int)(n d:Nat):(if v<0 then max (v+(n:Int)) 0 else min v (n:Int))=((eE n d (some v):Nat):Int):=by
 show(if v<0 then max (v+(n:Int)) 0 else min v (n:Int))=(((if v<0 then(v+(n:Int)).toNat else min v.toNat n):Nat):Int)
 by_cases a:v<0
 ·grind
 ·grind
def CI(lo a:Option Int)(n:Nat):Builtin.Slice.sliceAdjust lo a 1 (n:Int)=(((eE n 0 lo:Nat):Int),((eE n n a:Nat):Int)):=by
 have b:¬(1<0):=by lia
 unfold Builtin.Slice.sliceAdjust;simp only[b,fy];refine Prod.ext ?_ ?_
 ·cases lo with
  | none=>rfl
  | some v=>exact El v n 0
 ·cases a with
  | none=>rfl
  | some v=>exact El v n n
def CJ(i j:Nat):Builtin.Slice.slicePlaces (i:Int) (j:Int) 1=j-i:=by
 unfold Builtin.Slice.slicePlaces;have a:1>0:=by lia
 simp only[a,jZ,Int.ediv_one];split<;>lia
def rD(p:IsPart v o)(h:Q o s):wpAny (model prog w) A (Builtin.Slice.slicePartIndex v) Q E s:=by
 cases p with
 | none=>exact slicePart_none h
 | int i t=>exact slicePart_int h
def iO{d e:Value}{lo a:Option Int}{n:Nat}{Q:Int×Int×Nat->Shared->Prop}(f:s.heap.IsSliceOf g d e .none)(pl:IsPart d lo)(i:IsPart e a)
  (h:Q (((eE n 0 lo:Nat):Int),1,eE n n a-eE n 0 lo) s):wpAny (model prog w) A (Builtin.Slice.sliceApplied (.ref g) (pure (n:Int))) Q E s:=by
 obtain⟨j,b,k,c⟩:=id f;unfold Builtin.Slice.sliceApplied Builtin.Slice.sliceFields;refine ag (ag (gK b c rfl (ag (gK b c rfl (ag (gK b c rfl (aw ?_)))))));refine ag (slicePart_none ?_);rw[if_neg (by decide)]
 refine ag (rD pl (ag (rD i (ag (aw ?_)))));show wpAny _ _ (match Builtin.Slice.sliceAdjust lo a 1 (n:Int)with | (lo,a)=>pure (lo,(1:Int),Builtin.Slice.slicePlaces lo a 1)) _ _ s
 rw[CI lo a n];show wpAny _ _ (pure (((eE n 0 lo:Nat):Int),(1:Int),Builtin.Slice.slicePlaces ((eE n 0 lo:Nat):Int) ((eE n n a:Nat):Int) 1)) _ _ s;rw[CJ];exact aw h
def JA(xs:Array Value)(i k:Nat):((List.range k).filterMap fun(m:Nat)=>xs[((i:Int)+(m:Int)*1).toNat]?).toArray=((xs.toList.drop i).take k).toArray:=by
 have e:(fun(m:Nat)=>xs[(i+(m:Int)*1).toNat]?)=λm=>xs[i+m]?:=by
  grind
 rw[e];have:=pick_run xs i k;rw[List.filterMap_map]at this;have a:((λx=>xs[x]?) ∘ λx=>i+x)=λm=>xs[i+m]?:=rfl
 rw[a]at this;rw[this]
def mr{a:Array Value}{d e:Value}{lo b:Option Int}{Q:Value->Shared->Prop}(ht:IsTup s.heap t a)(f:s.heap.IsSliceOf g d e .none)(pl:IsPart d lo)(i:IsPart e b)
  (hw:¬(eE a.size 0 lo=0/\eE a.size a.size b=a.size))
  (h:Q (.ref s.heap.objs.size) {s with heap:=s.heap.push {cls:=.type "tuple",data:=.seq ((a.toList.drop (eE a.size 0 lo)).take (eE a.size a.size b-eE a.size 0 lo)).toArray}})
  (hsz:a.size<=sizeLine):wpAny (model prog w) A (getItem (.ref t) (.ref g)) Q E s:=by
 have c:sizeOk (.seq ((a.toList.drop (eE a.size 0 lo)).take (eE a.size a.size b-eE a.size 0 lo)).toArray):=by
  show((a.toList.drop (eE a.size 0 lo)).take (eE a.size a.size b-eE a.size 0 lo)).toArray.size<=sizeLine;rw[eA,jV,List.length_drop,iu]
  lia
 have q:eE a.size a.size b<=a.size:=T1 _ _ (az _) b;obtain⟨j,k,l,r⟩:=id f;have o:s.TypeIs (.ref g) "slice":=⟨j,k,l⟩;unfold getItem
 try with_reducible refine fI ?_
 first | refine ag (aw ?_) | skip
 refine ag (wpAny_sequenceKey ht.typeIs (by decide) ?_)
 refine ag (lD ht.typeIs nI
  (iw nI ht.typeIs entry_tuple_getitem ?_ (args_tuple_getitem _ _)))
 show wpAny _ _ (Builtin.Tuple.tupleItemsOf (.ref t) >>= _) _ _ s;refine ag (tupleItemsOf_ ht ?_);refine ag (qU o ?_);rw[if_pos (by decide)]
 refine ag (iO f pl i ?_);have p:¬((((eE a.size 0 lo:Nat):Int)==0&&(1:Int)==1&&(eE a.size a.size b-eE a.size 0 lo)==a.size)=true):=by
  grind
 show wpAny _ _ (if(((eE a.size 0 lo:Nat):Int)==0&&(1:Int)==1&&(eE a.size a.size b-eE a.size 0 lo)==a.size)=true then _ else _) _ _ s
 rw[if_neg p,JA]
 first
  | exact ag (m:=Builtin.Tuple.tupleExact _) (gF (aw ⟨_,rfl,aw h⟩) c)
  | exact ag (m:=Builtin.Tuple.tupleExact _) (gF (ag (aw (aw ⟨_,rfl,aw h⟩))) c)
  | exact ag (ag (m:=Builtin.Tuple.tupleExact _) (gF (aw (aw ⟨_,rfl,aw h⟩)) c))
  | exact ag (ag (m:=Builtin.Tuple.tupleExact _) (gF (aw ⟨_,rfl,aw h⟩) c))
end
end HT
namespace L2
open PySem PySem.Spec PyProof.Rows
abbrev TO:=St->Hp->(Option Int->Hp->Prop)->Prop
def PO(X:Cx)(e:Option Expr)(t:TO):Prop :=
 ∀(a:List (Addr×Obj)) (s:Shared) (σ:St) (H:Hp) (Q:Option Int->Hp->Prop),Inv X a σ H s->t σ H Q ->
  wpAny (model X.prog X.w) X.A (evalPart e X.env) (λu c=>∃o b,Inv X a σ b c/\IsPart u o/\Q o b) X.xe s
def NV:TO:=λ_ H Q=>Q none H
def Ye(t:TE):TO:=λa H Q=>t a H λx b=>∃i,x=.int i/\Q (some i) b
def rE:∀{a:List Value},Vals (ns.map V.int) a->IntsAre a ns:=by
 induction ns with
 | nil=>intro a r;rw[nV]at r;cases r;exact .nil
 | cons n ns ih =>
  intro a r;rw[aM]at r;cases r with
  | cons b c =>
   obtain⟨t,e⟩:=b;subst e;exact .cons n t (ih c)
section
variable {X:Cx} {e:Expr} {te:TE} {lo hi:Option Expr} {tl th:TO} {pos p2:Pos}
def NW:PO X none NV:=by
 intro a s b H Q I h;rw[evalPart_none];exact aw ⟨none,H,I,.none,h⟩
def NX(h:PE X e te):PO X (some e) (Ye te):=by
 intro a s b H Q I hw;rw[evalPart_some];refine thn (h a s b H _ I hw) λu s1 ⟨x,H1,c,d,f⟩=>?_
 obtain⟨i,rfl,q⟩:=f;obtain⟨t,rfl⟩:=d;exact⟨some i,H1,c,.int i t,q⟩
def SlR(X:Cx)(r:V->Option Int->Option Int->Hp->VK->Prop):Prop :=
 ∀(a:List (Addr×Obj)) (s:Shared) (σ:St) (H:Hp) (x:V) (v b c:Value) (lo hi:Option Int) (d:Addr) (Q:VK),Inv X a σ H s->RelV x v->s.heap.IsSliceOf d b c .none->IsPart b lo->IsPart c hi->r x lo hi H Q ->
  ∃T id,typeLookup (.type T) "__getitem__"=pure (some (.builtin id))/\s.TypeIs v T/\wpAny (model X.prog X.w) X.A (getItem v (.ref d)) (EP X a σ Q) X.xe s
def tSl(r:V->Option Int->Option Int->Hp->VK->Prop)(te:TE)(tl th:TO):TE:=λa H Q=>te a H λx b=>tl a b λl c=>th a c λu d=>r x l u d Q
def JB{r:V->Option Int->Option Int->Hp->VK->Prop}(i:SlR X r)(he:PE X e te)(j:PO X lo tl)(k:PO X hi th):PE X (.Subscript e (.Slice lo hi none p2) pos) (tSl r te tl th):=by
 intro a s c H Q I h;refine Subscript_ (thn (he a s c H _ I h) λv s1 ⟨x,H1,m,o,p⟩=>?_)
 refine wpAny_Slice (thn (j a s1 c H1 _ m p) λd s2 ⟨l,t,y,pl,B⟩=>thn (k a s2 c t _ y B) λf s3 ⟨u,g,C,pu,D⟩=>?_)
 rw[evalPart_none];refine aw ?_;have E:Inv X a c g {s3 with heap:=s3.heap.push {cls:=.type "slice",data:=.fields #[d,f,.none]}}:=C.kept λb M q=>bf _ q
 obtain⟨T,id,J,ht,L⟩:=i a {s3 with heap:=s3.heap.push {cls:=.type "slice",data:=.fields #[d,f,.none]}} c g x v d f l u s3.heap.objs.size Q E o (Heap.IsSliceOf.new ..) pl pu D
 show wpAny (model X.prog X.w) X.A (subscriptTail e (.Slice lo hi none p2) v (.ref s3.heap.objs.size)) (EP X a c Q) X.xe {s3 with heap:=s3.heap.push {cls:=.type "slice",data:=.fields #[d,f,.none]}}
 exact tail_any ht J L (by with_unfolding_all rfl)
def zF(xs:List V)(lo hi:Option Int):List V:=(xs.drop (HT.eE xs.length 0 lo)).take (HT.eE xs.length xs.length hi-HT.eE xs.length 0 lo)
def oU(xs:List V)(lo hi:Option Int):(zF xs lo hi).length<=xs.length:=by
 unfold zF;rw[jV,List.length_drop]
 lia
def acC(K:W.Frag):V->Option Int->Option Int->Hp->VK->Prop:=λx lo hi H Q=>∃a b,x=.ref a/\gX K H a b /\
 ¬(HT.eE b.length 0 lo=0/\HT.eE b.length b.length hi=b.length)/\∀p,H p=none->Q (.ref p) (cu H p (.aq (zF b lo hi)))
def T2:SlR X (acC X.K):=by
 intro m s o H x v p t lo hi u Q I d f pl g h;obtain⟨a,c,rfl,i,hw,q⟩:=h;cases d;obtain⟨j,r,ht,k⟩:=I.tuple i;have l:j.toArray.size=c.length:=by rw[eA];exact r.length.symm
 refine⟨"tuple",_,nI.lookup,ht.typeIs,?_⟩;refine HT.mr ht f pl g (by grind) ?_ (by grind)
 rw[l];refine⟨.ref s.heap.objs.size,_,I.laid (λb w q=>bf _ q) (az _) ?_,rfl,q _ (I.hok.fresh (az _))⟩
 exact⟨bP (oU c lo hi) k,_,(r.drop (HT.eE c.length 0 lo)).take (HT.eE c.length c.length hi-HT.eE c.length 0 lo),IsTup.new _ _⟩
def Yg(K:W.Frag):R2:=λx y H Q=>∃a b d c,x=.ref a/\y=.ref b/\gX K H a d/\gX K H b c/\d≠[]/\d.length+c.length<=sizeLine /\
 (c=[]->Q (.ref a) H)/\(c≠[]->∀p,H p=none->Q (.ref p) (cu H p (.aq (d++c))))
def Vals.mv(r:Vals xs us):us=[]↔xs=[]:=by
 cases r with
 | nil=>simp
 | cons _ _=>simp
def NY:OpR X (binaryOp .Add) (Yg X.K):=by
 intro r s t H x y v u Q I f g h;obtain⟨a,b,B,C,rfl,rfl,i,j,k,l,m,o⟩:=h;cases f;cases g;obtain⟨D,d,p,_⟩:=I.tuple i;obtain⟨E,c,p2,_⟩:=I.tuple j;refine HT.Ej p p2 (λz=>k (d.mv.mp z)) (λz=>⟨.ref a,H,I,rfl,m (c.mv.mp z)⟩) (λz=>?_) (by rw[<-d.length,<-c.length];exact l)
 refine⟨.ref s.heap.objs.size,_,I.laid (λb J q=>bf _ q) (az _) ?_,rfl,o (λw=>z (c.mv.mpr w)) _ (I.hok.fresh (az _))⟩
 exact⟨by grind,_,d.append c,IsTup.new _ _⟩
end
noncomputable def NZ(n:Nat)(i:Int):Option Nat:=if 0<=i then(if i<n then some i.toNat else none)else if -(n:Int)<=i then some (i+n).toNat else none
def lb{a:Type}(xs:List a)(i:Int):Option a:=(NZ xs.length i).bind λj=>xs[j]?
def En(h:NZ n i=some j):seqIndex? i n=some j/\j<n /\ -(n:Int)<=i/\i<n:=by
 unfold NZ at h;by_cases b:0<=i
 ·rw[if_pos b]at h;by_cases a:i<n
  ·rw[if_pos a]at h;have e:=bI h;exact⟨by rw[seqIndex_of b a,e],by lia,by lia,a⟩
  ·grind
 ·rw[if_neg b]at h;by_cases a:-n<=i
  ·rw[if_pos a]at h;have e:=bI h;exact⟨by rw[seqIndex_neg (by lia) a,e],by lia,a,by lia⟩
  ·grind
def xg{a:Type}{xs:List a}{i:Int}{v:a}(h:lb xs i=some v):∃j,seqIndex? i xs.length=some j/\xs[j]?=some v/\j<xs.length /\ -(xs.length:Int)<=i/\i<xs.length:=by
 unfold lb at h;cases e:NZ xs.length i with
 | none=>rw[e]at h;cases h
 | some j =>
  rw[e]at h;obtain⟨b,c,d,f⟩:=En e;exact⟨j,b,h,c,d,f⟩
def atI_nat{a:Type}{xs:List a}{j:Nat}{v:a}(h:xs[j]?=some v):lb xs (j:Int)=some v:=by
 have b:=(bj.mp h).1;have e:NZ xs.length j=some j:=by
  unfold NZ;rw[if_pos (by lia),if_pos (by lia)];simp
 unfold lb;rw[e];exact h
def qc(b:Expr):Prop:=∀o i,subscripted b false o i=operate [o,i] (getItem o i)
def W7(X:Cx)(r:R2):Prop :=
 ∀(b a:Expr) (c:List (Addr×Obj)) (s:Shared) (σ:St) (H:Hp) (x y:V) (v u:Value) (Q:VK),Inv X c σ H s->RelV x v->RelV y u->r x y H Q ->
  subscripted a false v u=operate [v,u] (getItem v u)->wpAny (model X.prog X.w) X.A (subscriptTail b a v u) (EP X c σ Q) X.xe s
def W8(X:Cx)(id:String)(r:V->List V->Hp->VK->Prop):Prop :=
 ∀(a:List (Addr×Obj)) (s:Shared) (σ:St) (H:Hp) (x:V) (xs:List V) (v:Value) (us:List Value) (Q:VK),Inv X a σ H s->RelV x v->Vals xs us->r x xs H Q ->
  wpAny (model X.prog X.w) X.A (call (.builtin id) (v::us)) (EP X a σ Q) X.xe s
section
variable {X:Cx} {a b:Expr} {ta tb:TE} {pos:Pos}
def Rg(c:W7 X r)(d:PE X a ta)(e:PE X b tb)(f:qc b):PE X (.Subscript a b pos) (W5 r ta tb):=by
 intro g s i H Q I h;exact Subscript_ (NB d e I h λv u j x y k l m o q=>c a b g j i k x y v u Q l m o q (f _ _))
def acD(K:W.Frag):R2:=λx y H Q=>∃p c i v,x=.ref p/\y=.int i/\w9 K H p c/\lb c i=some v/\Q v H
def acE(K:W.Frag):R2:=λx y H Q=>∃p c i v,x=.ref p/\y=.int i/\gX K H p c/\lb c i=some v/\Q v H
def acF:R2:=λx y H Q=>∃z i c,x=.str z/\y=.int i/\z.length<=sizeLine/\lb z.cps.toList i=some c/\Q (.str ⟨#[c]⟩) H
def N0:W7 X (acD X.K):=by
 intro d e k s l H x y v u Q I m o h f;obtain⟨p,R,i,z,rfl,rfl,B,he,q⟩:=h;cases m;obtain⟨t,rfl⟩:=o;obtain⟨C,r,pl,T⟩:=I.list B;obtain⟨j,c,D,Y,E,J⟩:=xg he;obtain⟨w,Z,L⟩:=r.get D;have M:=r.length;have hn:=lR;have la:EP X k l Q w s:=⟨z,H,I,L,q⟩;by_cases g:0<=i
 ·have N:i.toNat=j:=by
   rw[seqIndex_of g J]at c;exact bI c
  exact item_listR pl.isList g (by lia) (by grind) la f
 ·have N:(i+(C.toArray.size:Int)).toNat=j:=by
   rw[seqIndex_neg (by lia) E]at c
   rw[eA,<-M];exact bI c
  exact subscriptTail_builtinR pl.isList.typeIs slot_list_getitem.lookup
   (wpAny_getItem_list_neg pl.isList (by lia) (by grind) (by lia) (by grind) ⟨rfl,la⟩) f
def T4:W7 X (acE X.K):=by
 intro c d e s f H x y v u Q I g k h l;obtain⟨p,E,i,z,rfl,rfl,m,he,q⟩:=h;cases g;obtain⟨t,rfl⟩:=k;obtain⟨J,r,pl,L⟩:=I.tuple m;obtain⟨j,o,B,M,N,R⟩:=xg he;obtain⟨w,T,C⟩:=r.get B;have D:=r.length;have Y:=lR;have la:EP X e f Q w s:=⟨z,H,I,C,q⟩;exact subscriptTail_builtinR pl.typeIs slot_tuple_getitem.lookup
  (getItem_tuple pl (by lia) (by lia) (by rw[eA,<-D];exact o) (by grind) ⟨rfl,la⟩) l
def T5:W7 X acF:=by
 intro d e r s w H x y v u Q I f g h k;obtain⟨z,i,c,rfl,rfl,B,he,q⟩:=h;obtain⟨t,rfl⟩:=f;obtain⟨C,rfl⟩:=g;obtain⟨j,l,D,E,m,o⟩:=xg he;have p:z.cps.toList.length=z.length:=by simp[Str.length]
 rw[p]at l m o;have J:=lR;exact tail_any (typeIs_str s z t) slot_str_getitem.lookup (getItem_str (by
  grind) (by grind) ⟨.str ⟨#[c]⟩,H,I.tok _,⟨_,rfl⟩,q⟩) k
def CK(c:List Value)(n j:Nat)(u:Value):Obj.mapSeq (·.setIfInBounds j u) {cls:=.type "list",data:=.seq c.toArray n}={cls:=.type "list",data:=.seq (c.set j u).toArray n}:=by
 simp[Obj.mapSeq]
def Inv.lst{d:List (Addr×Obj)}{σ:St}{H:Hp}{s:Shared}{p:Addr}{xs:List V}(I:Inv X d σ H s)(h:H p=some (.lst xs)) :
  ∃(c:List Value) (n:Nat),Vals xs c/\s.heap.get? p=some {cls:=.type "list",data:=.seq c.toArray n}/\xs.length<=sizeLine:=by
 obtain⟨z,c,n,r,e⟩:=I.hok p _ h;exact⟨c,n,r,e,z⟩
def Inv.T6{j:List (Addr×Obj)}{σ:St}{H:Hp}{s:Shared}{p:Addr}{xs d:List V}{k c:List Value}{n g:Nat}{f:Obj->Obj}(I:Inv X j σ H s)(h:H p=some (.lst xs))
  (ho:s.heap.get? p=some {cls:=.type "list",data:=.seq k.toArray n}) (l:f {cls:=.type "list",data:=.seq k.toArray n}={cls:=.type "list",data:=.seq c.toArray g}) (r:Vals d c) (hz:d.length<=sizeLine) (t:Nat) :
  Inv X j σ (cu H p (.lst d)) {s with heap:=s.heap.update p f,toks:=t}:=by
 have e:(s.heap.update p f).get? p=some {cls:=.type "list",data:=.seq c.toArray g}:=by
  rw[qF f ho (by rw[l]<;>rfl),l]
 refine I.write (by rw[h];trivial) (.inl rfl) (λb u m q=>(wq _ _ (dz m)).trans q) ⟨_,e⟩ ?_
 exact⟨hz,c,g,r,e⟩
def Yh:V->V->V->Hp->(Hp->Prop)->Prop:=λo i v H Q=>∃p c k j,o=.ref p/\i=.int k/\H p=some (.lst c)/\NZ c.length k=some j/\Q (cu H p (.lst (c.set j v)))
def JC:Jk X Yh:=by
 intro f s g H o i v E J u Q I l m w h;obtain⟨p,x,k,j,rfl,rfl,hp,y,q⟩:=h;cases l;obtain⟨t,rfl⟩:=m;obtain⟨d,n,r,ho,L⟩:=I.lst hp;obtain⟨c,M,B,C⟩:=En y;have D:=r.length;have N:=lR;have R:Inv X f g (cu H p (.lst (x.set j v))) {s with heap:=s.heap.update p (Obj.mapSeq (·.setIfInBounds j u))} :=
  I.T6 hp ho (CK d n j u) (r.set w j) (by grind) s.toks
 by_cases e:0<=k
 ·have hk:k.toNat=j:=by
   rw[seqIndex_of e C]at c;exact bI c
  exact W.ki_setAt ho e (by lia) (by grind) (by grind)
 ·have hk:(k+(d.toArray.size:Int)).toNat=j:=by
   rw[seqIndex_neg (by lia) B]at c
   rw[eA,<-D];exact bI c
  exact W.ki_setBack ho (by lia) (by grind) (by lia) (by grind)
def xh(lo c:Option Int)(n:Nat):(sliceBounds lo c none n).1=((HT.eE n 0 lo:Nat):Int)/\(sliceBounds lo c none n).2.1=((HT.eE n n c:Nat):Int)/\(sliceBounds lo c none n).2.2=1:=by
 refine⟨?_,?_,rfl⟩
 ·cases lo with
  | none=>simp[sliceBounds,HT.eE]
  | some i =>
   simp only[sliceBounds,HT.eE,B7,show 1>0 by decide,jZ]
   by_cases h:i<0
   ·grind
   ·grind
 ·cases c with
  | none=>simp[sliceBounds,HT.eE]
  | some i =>
   simp only[sliceBounds,HT.eE,B7,show 1>0 by decide,jZ]
   by_cases h:i<0
   ·grind
   ·grind
def ue(c:List Value)(lo d:Option Int):slicePick c.toArray lo d none=((c.drop (HT.eE c.length 0 lo)).take (HT.eE c.length c.length d-HT.eE c.length 0 lo)).toArray:=by
 obtain⟨e,f,g⟩:=xh lo d c.toArray.size;unfold slicePick;rw[e,f,g];simp only[sliceRange_one,pick_run,eA]<;>rfl
def acG(K:W.Frag):V->Option Int->Option Int->Hp->VK->Prop:=λx lo d H Q=>∃a c,x=.ref a/\w9 K H a c/\∀p,H p=none->Q (.ref p) (cu H p (.lst (zF c lo d)))
def N1:SlR X (acG X.K):=by
 intro l s m H x v o p lo d t Q I e f pl g h;obtain⟨a,c,rfl,i,q⟩:=h;cases e;obtain⟨u,r,ht,j⟩:=I.list i;have k:=r.length;refine⟨"list",_,slot_list_getitem.lookup,ht.isList.typeIs,?_⟩;refine wpAny_getItem_list_slice ht.isList f pl g .none (by simp) ?_ (by grind)
 rw[ue,<-k];refine⟨.ref s.heap.objs.size,_,I.laid (λb w q=>bf _ q) (az _) ?_,rfl,q _ (I.hok.fresh (az _))⟩
 exact⟨bP (oU c lo d) j,_,0,(r.drop (HT.eE c.length 0 lo)).take (HT.eE c.length c.length d-HT.eE c.length 0 lo),cP _ rfl⟩
def mw:mq X (.builtin "len") (λxs H Q=>∃p c,xs=[.ref p]/\(w9 X.K H p c\/gX X.K H p c)/\Q (.int c.length) H):=by
 intro k s l H xs m Q I r h;obtain⟨p,c,rfl,d,q⟩:=h;obtain⟨u,rfl,f⟩:=jH r;cases f;have o:=lR;rcases d with d | d
 ·obtain⟨g,e,pl,i⟩:=I.list d;have j:=e.length;exact Calls.call_len_list pl.isList (by grind) ⟨.int c.length,H,I.tok _,⟨s.toks+1,by grind⟩,q⟩
 ·obtain⟨g,e,pl,i⟩:=I.tuple d;have j:=e.length;exact len_tuple pl (by grind) ⟨.int c.length,H,I.tok _,⟨s.toks+1,by grind⟩,q⟩
def xi:mq X (.builtin "len") (λxs H Q=>∃z,xs=[.str z]/\z.length<=sizeLine/\Q (.int z.length) H):=by
 intro c s d H xs e Q I r h;obtain⟨z,rfl,f,q⟩:=h;obtain⟨u,rfl,t,rfl⟩:=jH r;have g:=lR;exact len_str (by lia) ⟨.int z.length,H,I.tok _,⟨_,rfl⟩,q⟩
def lg:mq X (.type "tuple") (λxs H Q=>∃p c,xs=[.ref p]/\((w9 X.K H p c/\∀l,H l=none->Q (.ref l) (cu H l (.aq c)))\/(gX X.K H p c/\Q (.ref p) H))):=by
 intro m s t H xs y Q I r h;obtain⟨p,c,rfl,h⟩:=h;obtain⟨u,rfl,v⟩:=jH r;cases v;rcases h with⟨d,q⟩ | ⟨d,q⟩
 ·obtain⟨f,g,pl,j⟩:=I.list d;have B:=g.length;refine call_tuple_list pl.isList (λi w=>?_) (by grind)
  have k:=I.kept (t':=s.toks) w;have x:Inv X m t (cu H i.objs.size (.aq c)) {s with heap:=i.push {cls:=.type "tuple",data:=.seq f.toArray}} :=
   k.laid (λb o e=>bf _ e) (az _) (⟨j,f,g,IsTup.new _ _⟩)
  exact⟨.ref i.objs.size,_,x,rfl,q _ (k.hok.fresh (az _))⟩
 ·obtain⟨f,g,pl,j⟩:=I.tuple d;exact call_tuple_same pl ⟨.ref p,H,I,rfl,q⟩
def tyV(K:W.Frag)(T:String)(x:V)(H:Hp):Prop:=match x with
 | .str _=>T="str"
 | .int _=>T="int"
 | .ref p=>(T="list"/\∃d,w9 K H p d)\/(T="tuple"/\∃o,K.lookup p=some o/\o.cls=.type "tuple"/\o.dict=none) \/
   (T="dict"/\((∃c,H p=some (.dK c))\/∃c,H p=some (.dT c)))\/(T="set"/\∃S n,H p=some (.set S n))
 | _=>False
def JD{h:List (Addr×Obj)}{j:St}{H:Hp}{s:Shared}{T:String}{x:V}{v:Value}(I:Inv X h j H s)(r:RelV x v)(ty:tyV X.K T x H) :
  s.TypeIs v T/\∀a,v=.ref a->∃g,s.heap.get? a=some g/\g.dict=none:=by
 cases x with
 | str z =>
  obtain⟨t,rfl⟩:=r;cases(ty);exact⟨typeIs_str s z t,λ_ e=>nomatch e⟩
 | int i =>
  obtain⟨t,rfl⟩:=r;cases(ty);exact⟨typeIs_int s i t,λ_ e=>nomatch e⟩
 | ref p =>
  cases r;rcases ty with⟨rfl,xs,k⟩ | ⟨rfl,o,hk,hc,hd⟩ | ⟨rfl,hk⟩ | ⟨rfl,S,n,hk⟩
  ·obtain⟨l,_,pl,_⟩:=I.list k;refine⟨pl.isList.typeIs,λa e=>?_⟩
   cases e;obtain⟨o,n,e,c,hd,_⟩:=pl;exact⟨o,e,hd⟩
  ·refine⟨⟨o,I.rg p o hk,hc⟩,λa e=>?_⟩
   cases e;exact⟨o,I.rg _ o hk,hd⟩
  ·have z:∃o,s.heap.get? p=some o/\o.ExactDict:=by
    rcases hk with⟨d,hk⟩ | ⟨d,hk⟩
    ·obtain⟨_,_,_,_,o,_,_,e,ex,_⟩:=I.hok p _ hk;exact⟨o,e,ex⟩
    ·obtain⟨_,_,o,_,_,e,ex,_⟩:=(I.hok p _ hk);exact⟨o,e,ex⟩
   obtain⟨o,e,ex⟩:=z;refine⟨⟨o,e,ex.1⟩,λa f=>?_⟩
   cases f;exact⟨o,e,ex.2.1⟩
  ·obtain⟨o,_,_,_,e,ex,_⟩:=I.hok p _ hk;refine⟨⟨o,e,ex.1⟩,λa f=>?_⟩
   cases f;exact⟨o,e,ex.2.1⟩
 | _=>exact False.elim ty
def Yi(K:W.Frag)(T:String)(r:V->List V->Hp->VK->Prop)(to:TE):TE:=λd H Q=>to d H λx c=>tyV K T x c/\r x [] c Q
def tBM(K:W.Frag)(T:String)(r:V->List V->Hp->VK->Prop)(to:TE)(t:TA):TE:=λc H Q=>to c H λx d=>tyV K T x d/\t c d λe f=>r x e f Q
variable {o e:Expr} {es:List Expr} {to:TE} {t:TA} {name:Str} {qX kM:Pos} {T id:String} {r:V->List V->Hp->VK->Prop}
def JE(j:PlainAttrs T)(slot:Slot T name id)(c:typeOf (.builtin id)=pure (.type "method_descriptor"))(k:W8 X id r)(ho:PE X o to)
  (l:attributeBase o name X.env (eval o X.env)=eval o X.env:=by rfl) (m:(qX.endLine==kM.line)=true:=by rfl):PE X (.Call (.Attribute o name qX) [] [] kM) (Yi X.K T r to):=by
 intro d s f H Q I h;refine wpAny_Call_method0_late l m (thn (ho d s f H _ I h) λv p q=>?_)
 obtain⟨x,u,g,i,ty,w⟩:=q;obtain⟨y,B⟩:=JD g i ty;exact⟨T,id,j,slot,c,y,B,Calls.callWith_builtin rfl (PySem.evalArgs_none (k d p f u x [] v [] Q g i .nil w))⟩
def uU(k:PlainAttrs T)(slot:Slot T name id)(c:typeOf (.builtin id)=pure (.type "method_descriptor"))(l:W8 X id r)(ho:PE X o to)(m:PA X (e::es) t)
  (p:attributeBase o name X.env (eval o X.env)=eval o X.env:=by rfl)
  (q:((backTo kM (starEach (e::es) X.env)).all (λx=>!x.1)&&(backToKw kM (keywordEach [] X.env)).all (λx=>x.1.isSome)
   && decide ((e::es).length+([]:List Keyword).length+(if([]:List Keyword).isEmpty then 0 else 1)<30))=true:=by rfl)
  (u:(qX.endLine==kM.line)=true:=by rfl) (w:starEach (e::es) X.env=(false,eval e X.env)::starEach es X.env:=by rfl) (y:(backTo kM (starEach es X.env)).any (·.1)=false:=by rfl) :
  PE X (.Call (.Attribute o name qX) (e::es) [] kM) (tBM X.K T r to t):=by
 intro d s f H Q I h;refine wpAny_Call_method_late p q u rfl (thn (ho d s f H _ I h) λv B C=>?_)
 obtain⟨x,D,g,i,ty,E⟩:=C;obtain⟨J,L⟩:=JD g i ty;refine⟨T,id,k,slot,c,J,L,?_⟩;have j:=m kM d B f D _ g E;rw[w]at j ⊢;refine Calls.callWith_builtin (by grind) (Calls.evalArgs_plain ?_)
 exact thn j (by rintro us s2 ⟨M,N,R,Y,Z⟩;exact l d s2 f N x M v us Q R i Y Z)
end
def MtM(X:Cx)(id:String)(r:V->List V->Hp->VK->Prop):Prop :=
 ∀(a:List (Addr×Obj)) (s:Shared) (σ:St) (H:Hp) (x:V) (xs:List V) (v:Value) (us:List Value) (Q:VK),Inv X a σ H s->RelV x v->Vals xs us->r x xs H Q ->
  wpAny (model X.prog X.w) X.A (call (.builtin id) (v::us)) (EP X a σ Q) X.xe s
theorem Vals.one:∀{x:V} {us:List Value},Vals [x] us->∃u,us=[u]/\RelV x u
 | _,_,.cons r .nil=>⟨_,rfl,r⟩
def Vals.two{x y:V}{a:List Value}(h:Vals [x,y] a):∃u v,a=[u,v]/\RelV x u/\RelV y v:=by
 cases h with
 | cons r h=>cases h with
  | cons q h=>cases h;exact⟨_,_,rfl,r,q⟩
theorem Vals.zero:∀{a:List Value},Vals [] a->a=[]
 | _,.nil=>rfl
theorem Vals.eraseIdx:∀{xs:List V} {us:List Value} (i:Nat),Vals xs us->Vals (xs.eraseIdx i) (us.eraseIdx i)
 | _,_,_,.nil=>.nil
 | _,_,0,.cons _ t=>t
 | _,_,i+1,.cons r t=>.cons r (Vals.eraseIdx i t)
def Vals.reverse(h:Vals xs us):Vals xs.reverse us.reverse:=by
 induction h with
 | nil=>exact .nil
 | cons r t ih=>rw[wD,wD];exact Vals.append ih (.cons r .nil)
section
variable {X:Cx} {ae:List (Addr×Obj)} {σ:St} {H:Hp} {s:Shared} {l b:Addr} {xs ys zs:List V}
def Inv.N2{c a:List Value}{n:Nat}{f:Array Value->Array Value}{t':Nat}(I:Inv X ae σ H s)(d:H l=some (.lst xs))
  (e:s.heap.get? l=some {cls:=.type "list",data:=.seq c.toArray n}) (g:f c.toArray=a.toArray) (h:Vals ys a) (hz:ys.length<=sizeLine) :
  Inv X ae σ (cu H l (.lst ys)) {s with heap:=s.heap.update l (Obj.mapSeq f),toks:=t'}:=by
 have q:=PySem.IsL.update e f;rw[g]at q;refine I.write (by rw[d];exact trivial) (.inl rfl) (λm u j k=>(wq s.heap (Obj.mapSeq f) (dz j)).trans k) ⟨_,q⟩ ?_
 exact⟨hz,a,_,h,q⟩
def Inv.acJ(I:Inv X ae σ H s)(c:Vals ys a)(hz:ys.length<=sizeLine) :
  Inv X ae σ (cu H s.heap.objs.size (.lst ys)) {s with heap:=s.heap.push {cls:=.type "list",data:=.seq a.toArray},toks:=t'} :=
 I.laid (λ_ _ q=>bf _ q) (az _) ⟨hz,a,0,c,cP _ rfl⟩
def Inv.fresh(I:Inv X ae σ H s):H s.heap.objs.size=none:=I.hok.fresh (az _)
def Inv.gY(I:Inv X ae σ H s)(c:H l=some (.lst xs)):xs.length<=sizeLine/\∃(a:List Value) (n:Nat),Vals xs a/\xs.length=a.length/\s.heap.get? l=some {cls:=.type "list",data:=.seq a.toArray n}:=by
 obtain⟨z,a,n,r,e⟩:=I.hok l _ c;exact⟨z,a,n,r,r.length,e⟩
def JF(h:n<=sizeLine):Builtin.List.listTooLong n=false:=by
 unfold Builtin.List.listTooLong;exact lJ (by lia)
end
section
variable {X:Cx}
def Eo:V->List V->Hp->VK->Prop:=λx b H Q=>∃l a y,x=.ref l/\b=[y]/\H l=some (.lst a)/\a.length<sizeLine/\Q .bB (cu H l (.lst (a++[y])))
def Gv:MtM X "list.append" Eo:=by
 intro g s i H x j v k Q I b c h;obtain⟨l,m,y,rfl,rfl,a,o,q⟩:=h;cases b;obtain⟨u,rfl,d⟩:=c.one;obtain⟨z,f,n,r,p,e⟩:=I.gY a;refine lO F.slot_list_append ⟨_,e,rfl⟩ F.entry_list_append (F.args_list_append_2 _ _) (PySem.list_append l f.toArray n u (by grind)) ⟨e,?_⟩
 refine⟨.bB,_,I.N2 a e (by simp) (r.append (.cons d .nil)) ?_,rfl,q⟩
 rw[aV,List.length_singleton]
 lia
def zH:V->List V->Hp->VK->Prop:=λx b H Q=>∃l a,x=.ref l/\b=[]/\H l=some (.lst a)/\Q .bB (cu H l (.lst a.reverse))
def CL:MtM X "list.reverse" zH:=by
 intro g s i H x j v k Q I c d h;obtain⟨l,m,rfl,rfl,b,q⟩:=h;cases c;have a:=d.zero;subst a;obtain⟨z,f,n,r,o,e⟩:=I.gY b;refine lO F.slot_list_reverse ⟨_,e,rfl⟩ F.entry_list_reverse (F.args_list_reverse_1 _) (AutoSeq1.list_reverse_list_0 l f.toArray n (by grind)) ⟨e,?_⟩
 refine⟨.bB,_,I.N2 b e (by simp) r.reverse ?_,rfl,q⟩
 rw[BX]
 lia
end
end L2
namespace Att
open PySem PySem.W PySem.Calls PyProof.Rows
def pF:∀(c:List Int) (vs:List Value),WellAll P h vs (c.map WData.int)->IntsAre vs c:=by
 intro c;induction c with
 | nil =>
  intro vs w;rw[nV]at w;cases w;exact .nil
 | cons n c ih =>
  intro vs w;rw[aM]at w;cases w with
  | cons a b =>
   cases a;exact .cons _ _ (ih _ b)
def Gw{l:OpenLaw}(j:l.most=some n) 
  (i:l.row.toRowW.claim.pre args=true) (f:WellAll P h k args) :
  ∃a vs b,k=[Value.ref a]/\args=[WData.list (b.map WData.int)]/\h.get? a=some {cls:=.type "list",data:=.seq vs.toArray}/\IntsAre vs b/\b.length<=n:=by
 have g:=(pre_splitW i).1;have hc:l.pre.holds [] {args:=args}=true:=(pre_splitW i).2
 obtain⟨d,r,rfl,m,o⟩:=hasAllW_cons g;obtain rfl:=hasAllW_nil o;obtain⟨y,rfl,p⟩:=hasW_list m;obtain⟨b,rfl⟩:=items_int p;have t:b.length<=n:=by
  unfold OpenLaw.pre at hc;have c:(WTm.not (.lt (.lit (.int n)) (.len (.arg 0)))).holds [] {args:=[.list (b.map .int)]}=true:=by
   have c:=(holds_andW hc).1;rw[j]at c;exact c
  have e:=condW_of c (w_not (w_lt w_lit (w_len_list (w_arg rfl))));rw[aj]at e;refine qN λq=>?_
  have u:n<(b.length:Nat):=by lia
  first
   | (rw[dW u]at e;exact absurd e (by decide))
   | (simp at e;lia)
 cases f with
 | cons v w =>
  cases w;cases v with
  | list ho x=>exact⟨_,_,b,rfl,rfl,ho,pF b _ x,t⟩
def Gz(l:OpenLaw)(args:List WData):l.row.toRowW.claim.post args (.bool true) args=true :=
 postW_of
  (show WShape.has [] (.bool true) .bool=true by first | rfl | decide | simp[WShape.has,WShape.arms,WShape.armsAll])
  (w_eq_bool (w_res rfl) w_lit) rfl
def zI{l:OpenLaw}{n:Nat}{loose:List Str}{XP:(Str->Option Value)->Heap->Prop}{YP:World->Heap->Prop}{d:DefRec}
  (u:l.most=some n) (j:d.params.defaults=[])
  (call:∀(w:World) (s₀ b:Shared) (g k:Str->Option Value) (e:Addr) (o:Obj) (m cd c:Value) (a:Addr) (vs:List Value) (h:List Int),
   Ground q loose [] XP w s₀ g k b.heap->YP w b.heap ->
   b.heap.get? e=some o->o.data=.func (docDef d.name d.params d.body d.scope m cd c)->b.heap.CodeRec cd d.name->g d.name=some (.ref e) ->
   b.heap.get? a=some {cls:=.type "list",data:=.seq vs.toArray}->IntsAre vs h->h.length<=n->b.gens=#[] ->
   codeAny (model l.prog w) callerA (.call (.ref e) ⟨[.ref a],[]⟩) (λr i=>r=.ok (.ret (.bool true))/\OldK b.heap i.heap/\i.os=b.os/\AllBare i.gens) b) :
  WalkO q loose XP YP l.row.toRowW d [] (λf vs=>PySem.call f vs):=by
 intro w s₀ b g k G Y e o m cd c v kV ho hd x t y B args X as C D E p H;obtain rfl:v=.none:=Dflts.none t j;obtain rfl:kV=.none:=Dflts.noKw t;obtain⟨a,vs,h,rfl,rfl,I,J,L⟩:=Gw u C p;refine enter_call (nW (call w s₀ b g k e o m cd c a vs h G Y ho (fd_plain hd) x y I J L B) λr i M=>?_)
 obtain⟨rfl,N,Q,R⟩:=M;exact⟨.inl ⟨.bool true,.bool true,[],rfl,λ_=>rfl,.bool true,Gz l _,λ_=>⟨List.Pairwise.nil,λ_ T=>(nomatch T)⟩⟩,N,Q,R⟩
end Att
namespace L2
open PySem PySem.Spec PyProof.Rows
theorem uV:∀{vs:List Value} {ns:List Int},IntsAre vs ns->Vals (ns.map V.int) vs
 | _,_,.nil=>.nil
 | _,_,.cons n t h=>.cons ⟨t,rfl⟩ (uV h)
def GA{P:Program}{w:World}{K:W.Frag}{l J:Str->Option Value}{CX:Ig}{k:Nat}{fa a:Addr}{fd:FuncData}{x:Str}{sp:Sp}{c:Shared}{vs:List Value}{i:List Int}{tabs:List (Addr×Str)}
  (KX:K.In c.heap) (JI:c.heap.Ns mainGlobals l) (L:c.heap.Ns builtinsNs J) (M:∀x:Str,x≠"__name__"->J x=bootBuiltins x) (N5:c.heap.NoLimit) (hg:c.gens=#[])
  (N:∀b q,tabs.lookup b=some q->c.heap.get? b=some {cls:=.none,data:=.fields #[]}/\isCodeTable c.heap b/\K.lookup b=none) (Q:∀H:Hp,(∀b q,tabs.lookup b=some q->H b=some (.Ci q))->rf K H)
  (B:c.heap.get? a=some {cls:=.type "list",data:=.seq vs.toArray}) (hi:IntsAre vs i) (hl:i.length<=sizeLine) (hr:dN k callerA)
  (F:∀f:Heap,K.In f->f.Ns mainGlobals l->FnOk P w K l f CX k fa fd [x] sp) (Yk:∀(s:Shared) (u:Value),BindsTo s fd ⟨[u],[]⟩ [(x,u)])
  (NU:∀H:Hp,k9 K H a (i.map V.int)->sp [.ref a] H (λv _=>v=.bl true) λ_ _ _=>False) (R:∀H e j,CX [] H c (λ_ _ _=>False) e j->False) :
  codeAny (model P w) callerA (.call (.ref fa) ⟨[.ref a],[]⟩) (λr j=>r=.ok (.ret (.bool true))/\OldK c.heap j.heap/\j.os=c.os/\AllBare j.gens) c:=by
 have rv:=uV hi;have gM:=hi.length
 let C:Obj:={cls:=.type "list",data:=.seq vs.toArray}
 let H:Hp:=λb=>if b=a/\K.lookup a=none then some (.oQ C (.lst (i.map V.int)))else(tabs.lookup b).map HO.Ci
 have T:∀b,H b=if b=a/\K.lookup a=none then some (.oQ C (.lst (i.map V.int)))else(tabs.lookup b).map HO.Ci:=λ_=>rfl
 have X:∀b q,tabs.lookup b=some q->H b=some (.Ci q):=λb q e=>by
  grind
 have D:∀b u,H b=some u->(b=a/\K.lookup a=none/\u=.oQ C (.lst (i.map V.int)))\/∃q,tabs.lookup b=some q/\u=.Ci q:=λb u e=>by
  rw[T]at e;by_cases h:b=a/\K.lookup a=none
  ·grind
  ·rw[if_neg h]at e;cases z:tabs.lookup b with
   | none=>rw[z]at e;cases e
   | some q=>rw[z]at e;cases e;exact .inr ⟨q,rfl,rfl⟩
 have hS:k9 K H a (i.map V.int):=by
  cases hk:K.lookup a with
  | some o =>
   have e:=KX a o hk;rw[B]at e;cases e;exact .inr ⟨vs,_,hk,by grind,rv⟩
  | none=>exact .inl (.inr ⟨C,by grind⟩)
 have Y:lP P w H c.heap:=λb u e=>by
  rcases D b u e with⟨rfl,_,rfl⟩ | ⟨q,hq,rfl⟩
  ·exact⟨B,by grind,vs,_,rv,B⟩
  ·exact⟨#[],(N b q hq).1,trivial,λpos cv z=>by cases z⟩
 have Z:∀{b:Addr} {o:Obj} {E:Array DictEntry} {I:Nat},c.heap.get? b=some o->o.data=.dict E I->H b=none:=λ{b o E I} e d=>by
  cases q:H b with
  | none=>rfl
  | some u =>
   rcases D b u q with⟨rfl,_,_⟩ | ⟨t,ht,_⟩
   ·grind
   ·grind
 have g:∀{b:Addr} {m:Str->Option Value},c.heap.Ns b m->(zm c.heap H).Ns b m:=λ{b m} ⟨o,E,I,e,d,r⟩=>⟨o,E,I,hidT_get e (Z e d),d,r⟩
 have p:K.In (zm c.heap H):=λb o e=>hidT_get (KX b o e) (by
  cases q:H b with
  | none=>rfl
  | some u =>
   rcases D b u q with⟨rfl,z,_⟩ | ⟨t,ht,_⟩
   ·grind
   ·rw[(N b t ht).2.2]at e;cases e)
 have hM:Mod K l (zm c.heap H):=⟨p,g JI,⟨J,g L,M⟩,let ⟨mc,h1,h2⟩:=N5;⟨mc,g h1,h2⟩⟩
 have e0:Env0 P w K l (zm c.heap H) callerA [] c H:=⟨rfl,hM,λb o e=>of_hidT e,jY (Gh _ _),trivial,λb L=>absurd (show b∈([]:List Addr)from L) (by simp),Y,.of_eq hg,Q H X⟩
 refine nW ((F _ p (g JI)).run callerA [] c H ⟨[.ref a],[]⟩ [.ref a] [.ref a] _ _ hr e0 (Yk c (.ref a)) (.cons rfl .nil) (NU H hS)) λr j h=>?_
 cases r with
 | error e=>exact(R H e j h).elim
 | ok fl =>
  cases fl with
  | next=>exact False.elim h
  | brk=>exact False.elim h
  | cont=>exact False.elim h
  | ret u =>
   obtain⟨v,H',os,y,un,Yl,r',q⟩:=h;have q':=q;subst q';obtain rfl:u=Value.bool true:=r';have noF:∀b:Addr,b∉oe []:=λb z=>absurd (show b∈([]:List Addr)from z) (by simp)
   refine⟨rfl,⟨λb o e=>?_,λb o e=>un.there b o e (by simp)⟩,os,y⟩
   cases q:H b with
   | none=>exact .inl (un.keep b o e q (noF b) (by simp))
   | some u =>
    rcases D b u q with⟨rfl,_,rfl⟩ | ⟨t,ht,rfl⟩
    ·obtain⟨e2,_⟩:=Yl b _ (un.frzs b _ _ q);rw[B]at e;cases e;exact .inl e2
    ·obtain⟨h1,h2,_⟩:=N b t ht;obtain⟨ps,e2,_⟩:=(Yl b _ (un.tbls b _ q));rw[h1]at e;cases e;exact .inr (.inl ⟨h2,rfl,#[],ps,rfl,by grind⟩)
abbrev E0:XK:=λ_ _ _=>False
def cL(H H':Hp):Prop:=∀b o,H b=some o->H' b=some o
def cL.refl(H:Hp):cL H H:=λ_ _ h=>h
def cL.trans(a:cL H H1)(b:cL H1 d):cL H d:=λc o h=>b c o (a c o h)
def cL.free(e:cL H H')(h:H' l=Option.none):H l=Option.none:=by
 cases q:H l with
 | none=>rfl
 | some o =>
  rw[e l o q]at h;cases h
def cL.seq{K:W.Frag}{H H':Hp}{a:Addr}{xs:List V}(e:cL H H')(h:w9 K H a xs):w9 K H' a xs:=by
 rcases h with(h | ⟨o,h⟩) | h
 ·exact .inl (.inl (e _ _ h))
 ·exact .inl (.inr ⟨o,e _ _ h⟩)
 ·exact .inr h
section
variable {κ:Type} [DecidableEq κ]
noncomputable def gZ(kvs:List (κ×V))(k:κ):Option V:=(kvs.find? λa=>decide (a.1=k)).map (·.2)
noncomputable def putK(kvs:List (κ×V))(k:κ)(v:V):List (κ×V) :=
 if(kvs.any λa=>decide (a.1=k))=true then kvs.map (λa=>if a.1=k then(a.1,v)else a)else kvs++[(k,v)]
def mx{p:κ×V}{r:List (κ×V)}{k:κ}(e:p.1=k):gZ (p::r) k=some p.2:=by simp[gZ,qT,e]
def my{p:κ×V}{r:List (κ×V)}{k:κ}(e:¬p.1=k):gZ (p::r) k=gZ r k:=by simp[gZ,qT,e]
theorem rF(k:κ):∀kvs:List (κ×V),(kvs.any λa=>decide (a.1=k))=(gZ kvs k).isSome
 | []=>rfl
 | p::r=>by
  rw[ji];by_cases e:p.1=k
  ·simp only[mx e,dW e,Bool.true_or,Option.isSome_some]
  ·rw[my e,lJ e,wO];exact rF k r
def JJ{kvs:List (κ×V)}{k:κ}(v:V)(h:gZ kvs k=none):putK kvs k v=kvs++[(k,v)]:=by
 unfold putK;rw[rF,h];exact if_neg (by decide)
def q9.uW{o:Option V}{u:Option Value}(r:q9 o u):o.isSome=u.isSome:=by
 cases o with
 | none=>cases u with
  | none=>rfl
  | some _=>exact(show False from r).elim
 | some _=>cases u with
  | none=>exact(show False from r).elim
  | some _=>rfl
def q9.getD{o:Option V}{u:Option Value}{d:V}{a:Value}(r:q9 o u)(rd:RelV d a):RelV (o.getD d) (u.getD a):=by
 cases o with
 | none=>cases u with
  | none=>exact rd
  | some _=>exact(show False from r).elim
 | some _=>cases u with
  | none=>exact(show False from r).elim
  | some _=>exact r
def KV.val{kvs:List (κ×V)}{vs:List (κ×Value)}(r:KV kvs vs)(k:κ):q9 (gZ kvs k) (valueAt vs k):=by
 unfold KV at r;induction r with
 | nil=>exact True.intro
 | @cons p q f a h t ih =>
  obtain⟨g,d⟩:=h;by_cases e:p.1=k
  ·have c:q.1=k:=by grind
   have b:valueAt (q::a) k=some q.2:=by simp[valueAt,qT,c]
   rw[mx e,b];exact d
  ·have c:¬q.1=k:=by grind
   have b:valueAt (q::a) k=valueAt a k:=by simp[valueAt,qT,c]
   rw[my e,b];exact ih
def KV.any{kvs:List (κ×V)}{vs:List (κ×Value)}(r:KV kvs vs)(k:κ):(kvs.any λa=>decide (a.1=k))=vs.any λa=>decide (a.1=k):=by
 unfold KV at r;induction r with
 | nil=>rfl
 | cons h t ih=>rw[ji,ji,ih,h.1]
def KV.acO{kvs:List (κ×V)}{vs:List (κ×Value)}(r:KV kvs vs)(k:κ){y:V}{u:Value}(b:RelV y u) :
  KV (kvs.map λa=>if a.1=k then(a.1,y)else a) (vs.map λa=>if a.1=k then(a.1,u)else a):=by
 unfold KV at r ⊢;induction r with
 | nil=>exact .nil
 | @cons p q c d h t ih =>
  rw[aM,aM];refine .cons ?_ ih;obtain⟨f,g⟩:=h;by_cases e:p.1=k
  ·grind
  ·grind
def KV.put{kvs:List (κ×V)}{vs:List (κ×Value)}(r:KV kvs vs)(k:κ){y:V}{u:Value}(a:RelV y u):KV (putK kvs k y) (stored vs k u):=by
 unfold putK stored;rw[r.any k];by_cases e:(vs.any λb=>decide (b.1=k))=true
 ·rw[if_pos e,if_pos e];exact r.acO k a
 ·rw[if_neg e,if_neg e];exact Paired.snoc r ⟨rfl,a⟩
theorem KV.length{kvs:List (κ×V)}{vs:List (κ×Value)}(r:KV kvs vs):kvs.length=vs.length:=nU r
end
def oV{P:Program}{w:World}{k:bh}{u:Value}(r:RelV (kV k) u):(b9 P w).is k u=true:=by
 cases k with
 | inl i=>obtain⟨t,e⟩:=(show ∃t,u=Value.int i t from r);subst e;exact zi P w i t
 | inr x=>obtain⟨t,e⟩:=(show ∃t,u=Value.str x t from r);subst e;exact zj P w x t
theorem uX{P:Program}{w:World}:∀{ks:List bh} {us:List Value},Vals (ks.map kV) us->ItemsAre (b9 P w) ks us
 | [],_,r=>by rw[nV]at r;cases r;exact .nil
 | k::ks,_,r=>by
  rw[aM]at r;cases r with
  | cons h t=>exact .cons (oV h) (uX t)
section
variable {P:Program} {w:World} {H:Hp} {h:Heap} {a:Addr}
def Rh{u:HO}(ok:lP P w H h)(e:Rd H a u):fG P w H h a u:=e.ok ok
def Ep{kvs:List (bh×V)}(ok:lP P w H h)(e:Rd H a (.dK kvs)):kvs.length<=sizeLine/\(a==sysModules)=false/\∃vs,KV kvs vs/\h.DictOf (b9 P w) a vs :=
 show fG P w H h a (.dK kvs)from Rh ok e
def JK{kvs:List (bh×V)}(ok:lP P w H h)(e:H a=some (.dK kvs)):kvs.length<=sizeLine/\(a==sysModules)=false/\∃vs,KV kvs vs/\h.DictOf (b9 P w) a vs:=Ep ok (.inl e)
end
section
variable {X:Cx} {ae:List (Addr×Obj)} {σ:St} {H:Hp} {s:Shared} {a b:Addr} {k:List bh} {v:V} {r:Value} {A:Around} {E:Value->Shared->Prop} {xs:List (List bh×Addr×Value)}
def key_is(I:Inv X ae σ H s)(e:gX X.K H a (k.map kV)):(tupleKind (b9 X.prog X.w)).is s.heap k a:=by
 obtain⟨c,r,⟨o,d,f,n,g⟩,_⟩:=I.tuple e;exact⟨o,c.toArray,n,d,f,g,by simpa using uX r⟩
def uY(I:Inv X ae σ H s)(e:Rd H a (.dT xs))(hk:eQ X.K H xs):xs.length<=sizeLine/\(a==sysModules)=false/\s.heap.DictOfH (tupleKind (b9 X.prog X.w)) a xs:=by
 obtain⟨z,y,o,c,d,f,g,h,i,j⟩:=(show fG X.prog X.w H s.heap a (.dT xs)from Rh I.hok e)
 exact⟨z,y,o,c,d,f,g,h,i,λx l=>key_is I (hk x l),j⟩
def Ym{Q:Value->Shared->Prop}(d:A.units+1<cLine)(I:Inv X ae σ H s)(e:Rd H a (.dT xs))(hk:eQ X.K H xs)(f:gX X.K H b (k.map kV))(h:∀c,Inv X ae σ H c->Q (.bool (atKey xs k).isSome) c) :
  wpAny (model X.prog X.w) A (compareOp .In (.ref b) (.ref a)) Q E s:=by
 obtain⟨_,hd,g⟩:=uY I e hk;exact wpAny_in_heap (qI d) (key_is I f) hd g (h _ (I.tok _))
def Yn{Q:Value->Shared->Prop}(d:A.units+1<cLine)(I:Inv X ae σ H s)(e:Rd H a (.dT xs))(hk:eQ X.K H xs)(f:gX X.K H b (k.map kV)) (h:∀c,Inv X ae σ H c->Q (.bool (!(atKey xs k).isSome)) c) :
  wpAny (model X.prog X.w) A (compareOp .NotIn (.ref b) (.ref a)) Q E s:=by
 obtain⟨_,hd,g⟩:=uY I e hk;exact wpAny_notIn_heap (qI d) (key_is I f) hd g (h _ (I.tok _))
def Yo{Q:Value->Shared->Prop}{p:Addr×Value}(d:A.units+1<cLine)(I:Inv X ae σ H s)(e:Rd H a (.dT xs))(hk:eQ X.K H xs)(f:gX X.K H b (k.map kV))(hp:atKey xs k=some p)(h:∀c,Inv X ae σ H c->Q p.2 c) :
  wpAny (model X.prog X.w) A (getItem (.ref a) (.ref b)) Q E s:=by
 obtain⟨_,hd,g⟩:=uY I e hk;exact wpAny_getItem_heap (qI d) (key_is I f) g hp (h _ (I.tok _))
def CM{c:Type} [DecidableEq c] (xs:List (c×Addr×Value)) (k:c) (a:Addr) (v:Value):(storedH xs k a v).length<=xs.length+1:=by
 unfold storedH;split
 ·grind
 ·grind
def T7{Q:Unit->Shared->Prop}(g:A.units+1<cLine)(I:Inv X ae σ H s)(e:H a=some (.dT xs))(hk:eQ X.K H xs)(i:gX X.K H b (k.map kV))(j:xs.length<sizeLine)
  (h:∀d,Inv X ae σ (cu H a (.dT (storedH xs k b r))) d->Q () d):wpAny (model X.prog X.w) A (setItem (.ref a) (.ref b) r) Q E s:=by
 obtain⟨_,hd,l⟩:=uY I (.inl e) hk;refine wpAny_setItem_heap (hsz:=nY j) (qI g) (key_is I i) l λD m o=>h _ ?_
 obtain⟨q,p,t,f,u,y,B,_,C⟩:=m;exact I.write (x:=a) (e:=a) (by rw[e];exact True.intro) (.inl rfl) (λc J hc z=>(o.2 c hc).trans z) ⟨q,f⟩ ⟨(by have:=CM xs k b r;lia),hd,q,p,t,f,u,y,B,C⟩
def rG(I:Inv X ae σ H s):sysModules<s.heap.objs.size:=lL (by decide) (show mainGlobals<s.heap.objs.size from(I.mod.glob.keeps I.bk).lt)
def Ri(o:HO):TE:=λ_ H Q=>∀p,H p=none->Q (.ref p) (cu H p o)
def N6{pos:Pos}:PE X (.Dict [] [] pos) (Ri (.dT [])):=λae s σ H Q I h =>
 wpAny_Dict_empty ⟨.ref s.heap.objs.size,_,I.laid (a:=s.heap.objs.size) (o:=.dT []) (t':=s.toks) (λ_ _ q=>bf _ q) (az _)
  ⟨fJ _,fu.mpr (dz (bD (rG I))),_,#[],0,cP _ rfl,⟨rfl,rfl,rfl⟩,rfl,rfl,jX⟩,rfl,h _ (I.hok.fresh (az _))⟩
def GB{c:Type} [DecidableEq c] (xs:List (c×Addr×Value)) (k:c):(atKey xs k).isSome=(xs.map (·.1)).any λj=>decide (j=k):=by
 unfold atKey;rw[B5,List.any_map,List.isSome_find?];rfl
end
noncomputable def Rj(CX:Ig)(P:Program)(w:World)(K:W.Frag)(mg:Str->Option Value)(base:Heap)(N:List Str)(qual:Str)(a:Scope)(f:Addr)(cd:Value)(cl:List (Str×Addr))(A:Around)(ay:List Env)(s:Shared)(H:Hp)(E:XK):Cx where
 prog:=P
 w:=w
 K:=K
 mg:=mg
 base:=base
 A:=A.deeper (W.envX qual a s.heap.objs.size f cd cl)
 N:=N
 s₀:=s
 aa:=H
 env:=W.envX qual a s.heap.objs.size f cd cl
 ay:=ay
 stack:=W.envX qual a s.heap.objs.size f cd cl::ay
 ex:=[]
 calm:=true
 fn:=λ_=>false
 pn:=[]
 xe:=λe c=>wpAny (model P w) (A.deeper (W.envX qual a s.heap.objs.size f cd cl)) (leaving (W.envX qual a s.heap.objs.size f cd cl) e) (λ_ b=>CX ay H s E e b) (λd b=>CX ay H s E d b) c
structure lT (h:Heap) (H:Hp) (scope:Scope) (cl:List (Str×Addr)) (N:List Str) (τ:St):Prop where
 inj:∀x y c,cl.lookup x=some c->cl.lookup y=some c->x=y
 has:∀x,scope.names.lookup x=some .free->∃c,cl.lookup x=some c
 cell:∀x c,cl.lookup x=some c->∃v,h.IsCell c v
 free:∀x c,cl.lookup x=some c->H c=none
 val:∀(i:Nat) (x:Str) (v:V),N[i]?=some x->τ[i]?=some (some v)->∃c u,scope.names.lookup x=some .free/\cl.lookup x=some c/\h.IsCell c (some u)/\RelV v u
 len:τ.length=N.length
def lT.un(C:lT h H scope cl N τ)(u:Un fs [] H H' h h'):lT h' H' scope cl N τ where
 inj:=C.inj
 has:=C.has
 cell:=λx c e=>by
  obtain⟨v,o,ho,hd⟩:=C.cell x c e;obtain⟨a,q⟩:=u.any ho (C.free x c e) (by simp)
  exact⟨v,_,q,hd⟩
 free:=λx c e=>by
  obtain⟨v,o,ho,hd⟩:=C.cell x c e;exact u.free c o ho (C.free x c e) (by simp)
 val:=λi x v e1 b=>by
  obtain⟨c,w,k,e,⟨o,ho,hd⟩,r⟩:=C.val i x v e1 b;obtain⟨a,q⟩:=u.any ho (C.free x c e) (by simp)
  exact⟨c,w,k,e,⟨_,q,hd⟩,r⟩
 len:=C.len
def N7{K:W.Frag}
  (hk:scope.kind=.function) (t:scope.names.lookup x=some .local) (B:∀y∈scope.names,y.2≠.cell) (hd:A.handled=none) (a:Env0 P w K l base A m s H) (r:RelV v u) (C:lT s.heap H scope cl N q)
  (D:h1.Ns s.heap.objs.size λy=>[(x,u)].reverse.lookup y) (d:∀b o,s.heap.get? b=some o->h1.get? b=some o) :
  Inv (Rj CX P w K l base (x::N) qual scope f cd cl A m s H E) [] (some v::q) H {s with heap:=h1,toks:=tk}:=by
 have g:∀b:Addr,b∉(Rj CX P w K l base (x::N) qual scope f cd cl A m s H E).ex:=λb z=>absurd (show b∈([]:List Addr)from z) (by simp)
 refine⟨⟨a.mod,hk,rfl,rfl,az _,C.inj,λy j=>?_,λy c h _=>(by cases h),λ_=>hd,Around.frames_deeper a.frames,.inr ⟨rfl,rfl⟩,λb z=>absurd z (g b),a.bs,a.bsz,λb _ _=>g b,λb z=>absurd z (g b),a.funs,a.frf,a.tabs⟩,
  rfl,a.bare,Un.kept d,⟨_,D,λi y z h1 Q R=>?_⟩,λy c h=>?_,a.hok.fresh (az _),λy c h=>C.free y c h,λp hp=>absurd (show p∈([]:List (Addr×Obj))from hp) (by simp),a.hok.kept d,?_⟩
 ·have j:scope.names.lookup y=some .cell\/scope.names.lookup y=some .free:=j;rcases j with j | j
  ·exact absurd rfl (B _ (eu j))
  ·exact C.has y j
 ·cases i with
  | zero =>
   have e1:x=y:=bI (h1);have I:v=z:=by grind
   subst e1 I;exact⟨u,r,.inl ⟨t,by simp⟩⟩
  | succ i =>
   obtain⟨c,J,k,e,L,M⟩:=C.val i y z (by simpa using (show(x::N)[i+1]?=some y from h1)) (by grind)
   exact⟨J,M,.inr ⟨.inr k,c,e,L.keeps d⟩⟩
 ·obtain⟨v,z⟩:=C.cell y c h;exact⟨v,z.keeps d⟩
 ·show(some v::q).length=(x::N).length;rw[aN,aN,C.len]
def N8{K:W.Frag}
  (ho:s.heap.get? f=some o) (B:o.data=.func (W.kla_fn name qual g body scope cl pm d D)) (L:s.heap.CodeRec d qual) (l:dN (k+1) A) (h:Env0 P w K M base A m s H)
  (R:bindArgs (W.kla_fn name qual g body scope cl pm d D) ⟨[u],[]⟩=pure [(x,u)]) (r:RelV v u) (hk:scope.kind=.function) (T:scope.isCoroutine=false) (X:scope.isGenerator=false) (Y:scope.names.lookup x=some .local) (p:∀y∈scope.names,y.2≠.cell)
  (C:lT s.heap H scope cl N Z) (hbody:∃t,PE (Rj CX P w K M base (x::N) qual scope f d cl A m s H E) body t/\t (some v::Z) H Q) :
  codeAny (model P w) A (.call (.ref f) ⟨[u],[]⟩) (CR CX m P w H s Q E) s:=by
 have i:=h.mod.nolimit.keeps λb o e=>(h.bs b o e).1
 refine W.kla_callFunE l.depth ho B T X rfl L ?_;rw[R];refine aw (wpAny_newFunctionEnv p (λy hy=>?_) (λa JI c=>⟨i.fresh _ c,?_⟩) hk)
 ·grind
 ·obtain⟨t,ht,hq⟩:=hbody;have Yp:∀b o,s.heap.get? b=some o->a.get? b=some o:=λb o e=>c.extBut b o (bD (aX e)) (bf _ e)
  have I:=N7 (CX:=CX) (qual:=qual) (f:=f) (cd:=d) (E:=E) (tk:=s.toks+1) hk Y p l.hd h r C JI Yp;refine W.kla_codeExpr (jj (ht [] _ _ H Q I hq) (λu' s' j=>?_) λe s' j=>j)
  obtain⟨v',H',J,rv,q⟩:=j;exact⟨v',H',J.os,J.bare,J.base,J.hok,rv,q⟩
def uf{pos p:Pos}(l:List Value)(h:TriplesOk l)(e:codeAmong p (l++[rawInt pos.line,rawInt pos.col,c])=some d):codeAmong p l=some d\/d=c:=by
 fun_induction TriplesOk l with
 | case1 =>
  simp only[gi,codeAmong,rawInt]at e;split at e
  ·cases e;exact .inr rfl
  ·cases e
 | case2 a t b u x rest ih =>
  simp only[qP,codeAmong]at e ⊢;split at e
  ·rename_i hc;rw[if_pos hc];exact .inl e
  ·rename_i hc;rw[if_neg hc];exact ih h e
 | case3 l f g=>exact h.elim
def xj:HO:=.ext λ_=>True
def CN(e:h.get? a=some o):fG P w H h a (.oQ o xj):=⟨e,trivial,⟨o,e⟩,λ_ _ _ _=>trivial⟩
def zJ(c:Str->Option Value)(a:Heap):Prop:=∃b o,c "__builtins__"=some (.ref b)/\b≠builtinsNs/\b≠mainGlobals/\a.get? b=some o/\o.cls=.type "module"/\o.dict=some builtinsNs/\o.data=.plain
def JL(H:Hp)(f:Addr)(qual:Str)(params:Arguments)(b:Expr)(a:Scope)(cl:List (Str×Addr)):Prop :=
 ∃o u h d i c e j g t,H f=some (.oQ o u)/\o.data=.func (W.kla_fn "<lambda>" qual params b a cl h d i)/\d=.ref c/\H c=some (.oQ e j)/\e.data=.fields g/\g[1]?=some (.str qual t)
def acP(qual:Str)(params:Arguments)(c:Expr)(a:Scope)(cl:List (Str×Addr)):TE:=λ_ H Q=>∀f d,H f=none->cL H d->(∀b o,d b=some o->H b=some o\/H b=none)->JL d f qual params c a cl->Q (.ref f) d
section
variable {X:Cx} {x:Str} {params:Arguments} {body:Expr} {scope:Scope} {lp:Pos} {cl:List (Str×Addr)} {c T:Addr}
def Ub(hx:x∈dA)(ht:W.tabIn X.K x=some (c,T))(hC:W.codeHdIn X.K c T=true)(Rl:X.env.code=.ref c)(Yq:X.env.qual++"<lambda>"=zq x)(hB:zJ X.mg X.base)
  (acQ:defaultsOf p X.env=([],[])) (D:closureFor scope X.env=pure cl):PE X (.Lambda p body scope lp) (acP (zq x) p body scope cl):=by
 intro ae s σ H Q I h;have r:=I.tabs x hx c T ht;obtain⟨ps,hP,i,Rm⟩:=(I.hok T _ r);have C:=W.codeHd_of_K I.rg hC;have hg:=I.mod.glob.keeps I.bk;obtain⟨bm,ob,b1,b2,b3,b4,b5⟩:=hB;have ne:∀{b:Addr} {o:Obj},X.base.get? b=some o->b≠T:=λ{b o} e z=>by
  have:=(I.bs b o e).2;rw[z,r]at this;cases this
 refine W.kla_eval acQ ?_;rw[Yq];cases hc:codeAmong lp ps.toList with
 | some cv =>
  obtain⟨cc,E,uc,vs,t,rfl,k1,k2,k3⟩:=Rm lp cv hc;refine W.kla_makeFunctionHit D I.ok.glob hg Rl C hP i hc ⟨bm,ob,b1,b2,b3,ne b4,(I.bs _ _ b4).1,b5⟩ λIh f tk hk J=>?_
  have hn:=I.hok.fresh J;refine⟨.ref f.objs.size,cu H f.objs.size (.oQ _ xj),I.laid (λb u e=>bf _ (hk b u e)) J (CN (cP _ rfl)),rfl,h _ _ hn (λb u e=>by rw[aI (bZ e hn)];exact e) (λb o e=>?_) ?_⟩
  ·by_cases B:b=f.objs.size
   ·grind
   ·rw[aI B]at e;exact .inl e
  ·exact⟨_,_,_,_,_,cc,E,uc,vs,t,aB,rfl,rfl,by rw[aI (bZ k1 hn)];exact k1,k2,k3⟩
 | none =>
  refine W.kla_makeFunction D I.ok.glob hg Rl C hP i hc (by
   obtain⟨o,es,ep,e,_⟩:=I.mod.glob;exact ne e) ⟨bm,ob,b1,b2,b3,ne b4,(I.bs _ _ b4).1,b5⟩ λg Ih f tk CP MX eS acR L=>?_
  obtain⟨agz,E,vs,t,e2,hoc,hd,hv⟩:=acR;cases e2;have j:=I.hok.fresh MX;have M:=I.hok.fresh (bP MX (nY eS));have nfc:=wQ eS;have cT:g≠T:=λz=>by rw[z,r]at j;cases j
  have fT:f.objs.size≠T:=λz=>by rw[z,r]at M;cases M
  let k:HO:=.oQ E xj
  let l:Hp:=cu H g k
  have hn1:l f.objs.size=none:=by show cu H g k _=_;rw[aI nfc];exact M
  let y:Obj:=W.kla_obj "<lambda>" (zq x) p body scope cl ((X.mg "__name__").getD .none) g Ih
  let N:Hp:=cu l f.objs.size (.oQ y xj)
  have m:cL H l:=λb u e=>by show cu H g k b=_;rw[aI (bZ e j)];exact e
  have a:cL l N:=λb u e=>by show cu l _ _ b=_;rw[aI (bZ e hn1)];exact e
  have keep:∀b o,b≠T->s.heap.get? b=some o->(f.push y).get? b=some o:=λb o B e=>bf _ (CP b o B e)
  have nT:∀b,H b=none->b≠T:=λb n z=>by rw[z,r]at n;cases n
  have lt:∀b o,s.heap.get? b=some o->b<s.heap.objs.size:=λb o e=>aX e
  have hf2:∀b o,s.heap.get? b=some o->H b=none->N b=none:=λb o e n=>by
   show cu (cu H g k) _ _ b=none;have l1:=lt b o e;rw[aI (bD (b7 l1 (bP MX (nY eS)))),aI (bD (b7 l1 MX))];exact n
  have un:Un X.fs [] H N s.heap (f.push y):=⟨λb o e n _ _=>keep b o (nT b n) e,λb o e n _ _=>⟨o.slots,keep b o (nT b n) e⟩,λb o e n _=>hf2 b o e n,λb o e _=>by
    by_cases B:b=T
    ·subst B;exact⟨_,bf _ L⟩
    ·exact⟨o,keep b o B e⟩,λb xs e=>a _ _ (m _ _ e),λb o u e=>a _ _ (m _ _ e),λb q e=>a _ _ (m _ _ e)⟩
  have hok:lP X.prog X.w N (f.push y):=λb u e=>by
   by_cases R:b=f.objs.size
   ·subst R;have e:cu l f.objs.size (.oQ y xj) f.objs.size=some u:=e;rw[aB]at e;cases e;exact CN (cP _ rfl)
   ·have e:cu l f.objs.size (.oQ y xj) b=some u:=e;rw[aI R]at e;by_cases Y:b=g
    ·subst Y;have e:cu H b k b=some u:=e;rw[aB]at e;cases e;exact CN (bf _ hoc)
    ·have e:cu H g k b=some u:=e;rw[aI Y]at e;by_cases Z:b=T
     ·subst Z;rw[r]at e;cases e;refine⟨_,bf _ L,?_,λpos cv z=>?_⟩
      ·simpa using TriplesOk_snoc lp.line lp.col (.ref g) ps.toList i
      ·rcases uf ps.toList i (by simpa using z)with z | z
       ·obtain⟨cc,oc',uc,xl,t',q1,q2,q3⟩:=Rm pos cv z;exact⟨cc,oc',uc,xl,t',q1,a _ _ (m _ _ q2),q3⟩
       ·exact⟨g,E,xj,vs,t,z,a _ _ (by show cu H g k g=_;exact aB),hd,hv⟩
     ·refine(I.hok b u e).wY (λd v q8 q=>keep d v ?_ q) (λd q=>a _ _ (m _ _ q)) (λd xs q=>a _ _ (m _ _ q)) λd ob' v q=>a _ _ (m _ _ q)
      rcases q8 with rfl | q8
      ·exact Z
      ·rintro rfl
       rw[r]at q8;cases q8
  refine⟨.ref f.objs.size,N,I.un un hok,rfl,h _ _ M (m.trans a) (λb o e=>?_) ?_⟩
  ·by_cases R:b=f.objs.size
   ·rw[R];exact .inr M
   ·have e:cu l f.objs.size (.oQ y xj) b=some o:=e;rw[aI R]at e;by_cases Y:b=g
    ·rw[Y];exact .inr j
    ·have e:cu H g k b=some o:=e;rw[aI Y]at e;exact .inl e
  ·exact⟨_,_,_,_,_,g,E,xj,vs,t,(aB),rfl,rfl,a _ _ (aB),hd,hv⟩
end
def Yu{K:W.Frag}{st:Stmt}(L:Cj K x qual st f fd)(S:dH N ps (ax st))
  (p:dN (k+1) A) (h:Env0 P w K i base A c s H) (M:BindsTo s fd args (ps.zip us)) (r:Vals vs us) (R:vs.length=ps.length)
  (hbody:∀d:Value,∃t,PSs (fq CX P w K i base N qual (ax st) f d A c s H E) (du st) t/\t {nx:=λ_ H'=>Q .bB H',rt:=Q} (start N vs) H) :
  codeAny (model P w) A (.call (.ref f) args) (CR CX c P w H s Q E) s:=by
 obtain⟨oc,od,kV,T,pm,an,d,ct,yU,rfl,X,Y⟩:=L.ex;have g:∀b o,base.get? b=some o->s.heap.get? b=some o:=λb o e=>(h.bs b o e).1
 have B:=h.mod.kin.keeps g;have Z:∀y∈ps.zip us,(ax st).names.lookup y.1=some .local\/((ax st).names.lookup y.1=some .cell/\((cellsFrom (s.heap.objs.size+1) (ax st).names []).lookup y.1).isSome=true):=λy hy=>by
  rcases S.par y.1 (wK hy).1 with q | q
  ·exact .inl q
  ·exact .inr ⟨q,W.cellsFrom_some _ _ _ (.inl q)⟩
 refine codeAny_call_function p.depth (B _ _ X) rfl S.co S.gen rfl (W.codeRec_of B Y) (M _ _ _ _ (II S.kind Z λenv he C D=>?_))
 subst he;refine⟨(h.mod.nolimit.keeps g).keeps D.toInCall.keep,codeAny_func ?_⟩;obtain⟨t,ht,hq⟩:=hbody d;have I:Inv (fq CX P w K i base N qual (ax st) f d A c s H E) [] (start N vs) H C:=uT S p.hd h R r D;refine jj (ht [] C (start N vs) H _ I hq) (λfl j a=>?_) λe j a=>a
 have la:∀{l:St} {H':Hp} {v:V} {u:Value},Inv (fq CX P w K i base N qual (ax st) f d A c s H E) [] l H' j->RelV v u->Q v H'->CE c P w H s Q u j:=λ{_ H' v _} J m q=>⟨v,H',J.os,J.bare,J.base,J.hok,m,q⟩
 cases fl with
 | ret u=>obtain⟨v,l,H',J,m,q⟩:=a;exact la J m q
 | next=>obtain⟨l,H',J,q⟩:=a;exact la (v:=V.bB) J rfl q
 | brk=>obtain⟨_,_,_,q⟩:=a;exact False.elim q
 | cont=>obtain⟨_,_,_,q⟩:=a;exact False.elim q
end L2
namespace L2.U
open PySem PySem.Spec PyProof.Rows
def nw{b:Sort u}(a:b):∃x,x=a:=⟨_,rfl⟩
noncomputable abbrev PV.lst (ps:List PV):PV:=.nd .lst ps
structure Gr (F F':Fz):Prop where
 s:cL F.F F'.F
 m:∀(n:Nat) (a:Addr),F.μ[n]?=some a->F'.μ[n]?=some a
def Gr.refl(F:Fz):Gr F F:=⟨cL.refl _,λ_ _ h=>h⟩
def Gr.trans(a:Gr F F1)(b:Gr F1 F2):Gr F F2:=⟨a.s.trans b.s,λn c h=>b.m n c (a.m n c h)⟩
def br{K:W.Frag}(e:cL H H')(h:gX K H a xs):gX K H' a xs:=by
 rcases h with(h | ⟨o,h⟩) | h
 ·exact .inl (.inl (e _ _ h))
 ·exact .inl (.inr ⟨o,e _ _ h⟩)
 ·exact .inr h
def N9(e:cL H H')(h:Rd H a u):Rd H' a u:=h.imp (e _ _) (by rintro⟨o,q⟩;exact⟨o,e _ _ q⟩)
def zK{K:W.Frag}(e:cL H H')(h:k9 K H a xs):k9 K H' a xs:=h.imp (N9 e) id
def _root_.L2.k9.of{K:W.Frag}(h:H a=some (.lst xs)):k9 K H a xs:=.inl (.inl h)
section
variable {K:W.Frag} {F F':Fz}
def kL.to(h:kL K G H a x k vs)(g:cL G l)(e:∀o,H a=some o->H' a=some o)(m:y=true->x=true):kL K l H' a y k vs:=by
 have d:∀{f:List (List bh×Addr×Value)},eQ K G f->eQ K l f:=λhk z p=>br g (hk z p)
 match k,h with
 | .aq,⟨c,b⟩ =>
  refine⟨?_,?_⟩
  ·grind
  ·rcases b with(b | ⟨o,b⟩) | b
   ·exact .inl (.inl (e _ b))
   ·exact .inl (.inr ⟨o,e _ b⟩)
   ·exact .inr b
 | .lst,h =>
  cases y with
  | true=>rw[m rfl]at h;exact e _ h
  | false =>
   cases x with
   | true=>exact k9.of (e _ h)
   | false =>
    rcases(h)with(h | ⟨o,h⟩) | h
    ·exact .inl (.inl (e _ h))
    ·exact .inl (.inr ⟨o,e _ h⟩)
    ·exact .inr h
 | .oO C ns,⟨q,r,fs,c,b,i,t,u⟩=>exact⟨q,r,fs,c,b,i,e _ t,u⟩
 | .eR false ks,⟨j,c,b⟩=>exact⟨j,e _ c,b⟩
 | .eR true ks,⟨f,c,b,i⟩=>exact⟨f,e _ c,d b,i⟩
mutual
theorem bO.mono(e:Gr F F'):∀{p:PV} {v:V},bO K F p v->bO K F' p v
 | .bB,_,h=>by simpa only[bO]using h
 | .bl _,_,h=>by simpa only[bO]using h
 | .int _,_,h=>by simpa only[bO]using h
 | .str _,_,h=>by simpa only[bO]using h
 | .fn _,_,h=>by simpa only[bO]using h
 | .ref n,_,h=>by
  simp only[bO]at h ⊢;obtain⟨a,b,c⟩:=h;exact⟨a,e.m _ _ b,c⟩
 | .nd k g,_,h=>by
  simp only[bO]at h ⊢;obtain⟨a,d,b,c,f⟩:=h;exact⟨a,d,b,c.to e.s (λo q=>e.s _ _ q) id,aA.mono e f⟩
theorem aA.mono(e:Gr F F'):∀{ps:List PV} {vs:List V},aA K F ps vs->aA K F' ps vs
 | [],_,h=>by simpa only[aA]using h
 | _::_,_,h=>by
  simp only[aA]at h ⊢;obtain⟨v,r,a,b,c⟩:=h;exact⟨v,r,a,b.mono e,aA.mono e c⟩
end
def aA.cx(h:aA K F (p::ps) vs):∃v r,vs=v::r/\bO K F p v/\aA K F ps r:=by
 simpa only[aA]using h
def aA.cX(h:aA K F [] vs):vs=[]:=by simpa only[aA]using h
theorem rH:∀{ps:List PV} {vs:List V},aA K F ps vs↔Paired (bO K F) ps vs
 | [],vs=>⟨λh=>by rw[h.cX];exact .nil,λh=>by cases h;exact .nil⟩
 | p::ps,vs=>⟨λh=>by obtain⟨v,r,rfl,a,b⟩:=h.cx;exact .cons a (rH.mp b),λh=>by cases h with | cons a b=>exact .cons a (rH.mpr b)⟩
def aA.length(h:aA K F ps vs):ps.length=vs.length:=nU (rH.mp h)
theorem aA.append:∀{ps a:List PV} {vs ws:List V},aA K F ps vs->aA K F a ws->aA K F (ps++a) (vs++ws)
 | [],_,_,_,h,t=>by rw[h.cX];exact t
 | _::_,_,_,_,h,t=>by
  obtain⟨v,r,rfl,b,c⟩:=h.cx;exact .cons b (c.append t)
theorem aA.get:∀{ps:List PV} {vs:List V} {i:Nat} {p:PV},aA K F ps vs->ps[i]?=some p->∃v,vs[i]?=some v/\bO K F p v
 | [],_,_,_,_,e=>by cases e
 | _::_,_,0,_,h,e=>by
  obtain⟨v,r,rfl,a,_⟩:=h.cx;cases e;exact⟨v,rfl,a⟩
 | _::_,_,_+1,_,h,e=>by
  obtain⟨v,r,rfl,_,b⟩:=h.cx;exact b.get e
theorem aA.take:∀{ps:List PV} {vs:List V} (n:Nat),aA K F ps vs->aA K F (ps.take n) (vs.take n)
 | _,_,0,_=>by simp only[List.take_zero];exact .nil
 | [],_,_+1,h=>by rw[h.cX];simp only[List.take_nil];exact .nil
 | _::_,_,n+1,h=>by
  obtain⟨v,r,rfl,a,b⟩:=h.cx;exact .cons a (b.take n)
theorem aA.drop:∀{ps:List PV} {vs:List V} (n:Nat),aA K F ps vs->aA K F (ps.drop n) (vs.drop n)
 | _,_,0,h=>h
 | [],_,_+1,h=>by rw[h.cX];simp only[List.drop_nil];exact .nil
 | _::_,_,n+1,h=>by
  obtain⟨v,r,rfl,_,a⟩:=h.cx;exact a.drop n
theorem aA.set(r:bO K F p v):∀{ps:List PV} {vs:List V} (i:Nat),aA K F ps vs->aA K F (ps.set i p) (vs.set i v)
 | [],_,_,h=>by rw[h.cX];exact .nil
 | _::_,_,0,h=>by
  obtain⟨v,b,rfl,_,a⟩:=h.cx;exact .cons r a
 | _::_,_,i+1,h=>by
  obtain⟨v,b,rfl,c,a⟩:=h.cx;exact .cons c (a.set r i)
theorem aA.reverse:∀{ps:List PV} {vs:List V},aA K F ps vs->aA K F ps.reverse vs.reverse
 | [],_,h=>by rw[h.cX];exact .nil
 | _::_,_,h=>by
  obtain⟨v,r,rfl,a,b⟩:=h.cx;rw[wD,wD];exact b.reverse.append (.cons a .nil)
def c9:bO K F (.ref n) v↔∃a,F.μ[n]?=some a/\v=.ref a:=by simp only[bO]
def rJ:bO K F (.fn x) v↔∃a,v=.ref a/\W.nsIn K mainGlobals x=some (some (.ref a)):=by simp only[bO]
def gv:bO K F (.lst ps) v↔∃a vs,v=.ref a/\k9 K F.F a vs/\aA K F ps vs:=jl
end
structure ak where
 k:Kd
 ps:List PV
structure cy where
 ρ:List (Option PV)
 h:List ak
noncomputable def live(c:ak):Bool:=match c.k with | .aq=>false | _=>true
structure kA (K:W.Frag) (aa:Hp) (ab F:Fz) (h:List ak) (H:Hp):Prop where
 sub:cL F.F H
 keep:cL aa H
 base:Gr ab F
 fresh:∀a o,F.F a=some o->ab.F a=some o\/aa a=none
 new:∀(n:Nat) (a:Addr),F.μ[n]?=some a->aa a=none/\∃o,H a=some o
 hl:h.length=F.μ.length
 nd:F.μ.Nodup
 cell:∀(n:Nat) (c:ak) (a:Addr),h[n]?=some c->F.μ[n]?=some a->live c=true->F.F a=none/\∃vs,kL K F.F H a true c.k vs/\aA K F c.ps vs
structure Lc (K:W.Frag) (F:Fz) (ρ:List (Option PV)) (σ:St):Prop where
 av:∀(i:Nat) (p:PV),ρ[i]?=some (some p)->∃v,σ[i]?=some (some v)/\bO K F p v
 len:ρ.length=σ.length
structure Rep (K:W.Frag) (aa:Hp) (ab F:Fz) (st:cy) (σ:St) (H:Hp):Prop where
 c:kA K aa ab F st.h H
 l:Lc K F st.ρ σ
def eF(h:H p=none):cL H (cu H p o):=λb u q=>by rw[aI (bZ q h)];exact q
section
variable {K:W.Frag} {aa H H':Hp} {ab F F':Fz} {h:List ak} {st:cy} {σ:St}
def Lc.mono(L:Lc K F ρ σ)(e:Gr F F'):Lc K F' ρ σ:=⟨λi p z=>let ⟨v,a,b⟩:=L.av i p z;⟨v,a,b.mono e⟩,L.len⟩
def kA.after(R:kA K aa ab F h H)(e:cL H H')(f:cL F.F F'.F)(m:F'.μ=F.μ)(s:cL F'.F H')(n:∀a o,F'.F a=some o->F.F a=some o\/H a=none):kA K aa ab F' h H' where
 sub:=s
 keep:=R.keep.trans e
 base:=R.base.trans ⟨f,λ_ _ q=>by rw[m];exact q⟩
 fresh:=λa o q=>by
  rcases n a o q with z | z
  ·exact R.fresh a o z
  ·exact .inr (R.keep.free z)
 new:=λn a q=>by rw[m]at q;obtain⟨b,o,d⟩:=R.new n a q;exact⟨b,o,e _ _ d⟩
 hl:=by rw[m];exact R.hl
 nd:=by rw[m];exact R.nd
 cell:=λi c a hc g hk=>by
  rw[m]at g;obtain⟨b,j,d,k⟩:=R.cell i c a hc g hk;refine⟨?_,j,d.to f (λo q=>e _ _ q) id,k.mono ⟨f,λ_ _ q=>by rw[m];exact q⟩⟩
  obtain⟨_,o,ho⟩:=R.new i a g;cases q:F'.F a with
  | none=>rfl
  | some u =>
   rcases n a u q with z | z
   ·rw[b]at z;cases z
   ·rw[ho]at z;cases z
def Rep.after(R:Rep K aa ab F st σ H)(e:cL H H')(f:cL F.F F'.F)(m:F'.μ=F.μ)(s:cL F'.F H')(n:∀a o,F'.F a=some o->F.F a=some o\/H a=none):Rep K aa ab F' st σ H' :=
 ⟨R.c.after e f m s n,R.l.mono ⟨f,λ_ _ q=>by grind⟩⟩
def Rep.sub(R:Rep K aa ab F st σ H):cL F.F H:=R.c.sub
def Rep.laid(R:Rep K aa ab F st σ H)(o:HO)(hp:H p=none):Rep K aa ab ⟨cu F.F p o,F.μ⟩ st σ (cu H p o)/\Gr F ⟨cu F.F p o,F.μ⟩:=by
 have d:=R.sub.free hp;refine⟨R.after (eF hp) (eF d) rfl (λb u q=>?_) (λb u q=>?_),eF d,λ_ _ q=>q⟩
 ·by_cases a:b=p
  ·subst a;rw[show(Fz.mk (cu F.F b o) F.μ).F b=cu F.F b o b from rfl,aB]at q;rw[aB];exact q
  ·rw[show(Fz.mk (cu F.F p o) F.μ).F b=cu F.F p o b from rfl,aI a]at q;rw[aI a];exact R.sub _ _ q
 ·by_cases a:b=p
  ·grind
  ·rw[show(Fz.mk (cu F.F p o) F.μ).F b=cu F.F p o b from rfl,aI a]at q;exact .inl q
def kA.alloc(R:kA K aa ab F h H)(hp:H p=none)(f:kL K F.F (cu H p o) p true c.k vs)(e:aA K F c.ps vs) :
  kA K aa ab ⟨F.F,F.μ++[p]⟩ (h++[c]) (cu H p o)/\Gr F ⟨F.F,F.μ++[p]⟩/\(F.μ++[p])[h.length]?=some p:=by
 have g:Gr F ⟨F.F,F.μ++[p]⟩:=⟨cL.refl _,λn a q=>by
  grind⟩
 have m:∀n a,(F.μ++[p])[n]?=some a->F.μ[n]?=some a\/n=F.μ.length/\a=p:=λn a q=>by
  grind
 have r:∀n a,F.μ[n]?=some a->a≠p:=λn a q z=>by
  subst z;obtain⟨_,o,ho⟩:=R.new n a q;rw[hp]at ho;cases ho
 refine⟨⟨λb u q=>by rw[aI (bZ (R.sub _ _ q) hp)];exact R.sub _ _ q,R.keep.trans (eF hp),R.base.trans g,R.fresh,λn a q=>?_,by simp[R.hl],?_,λn d a hd i hk=>?_⟩,g,by rw[R.hl];simp⟩
 ·rcases m n a q with z | ⟨_,rfl⟩
  ·obtain⟨j,u,l⟩:=R.new n a z;exact⟨j,u,eF hp _ _ l⟩
  ·exact⟨R.keep.free hp,o,aB⟩
 ·rw[qK];refine⟨R.nd,by simp,λa i b e z=>?_⟩
  obtain⟨n,f⟩:=qE.mp i;rw[aD]at e;exact r n a f (z.trans e)
 ·rcases m n a i with z | ⟨rfl,rfl⟩
  ·rw[c5 (by rw[R.hl];exact(bj.mp z).1)]at hd
   obtain⟨j,ws,l,t⟩:=R.cell n d a hd z hk;exact⟨j,ws,l.to (cL.refl _) (λu q=>eF hp _ _ q) id,t.mono g⟩
  ·rw[<-R.hl,je (az _),Nat.sub_self]at hd;cases hd;exact⟨R.sub.free hp,vs,f,e.mono g⟩
def kA.write(R:kA K aa ab F h H)(hc:h[n]?=some c)(r:live c=true)(f:F.μ[n]?=some a)(w:kL K F.F (cu H a o) a true d.k vs)(g:aA K F d.ps vs) :
  kA K aa ab F (h.set n d) (cu H a o):=by
 obtain⟨hF,_⟩:=R.cell n c a hc f r;refine⟨λb u q=>by rw[aI (λz=>by grind)];exact R.sub _ _ q,λb u q=>?_,R.base,R.fresh,λm b q=>?_,by rw[qS];exact R.hl,R.nd,λm e b he l hk=>?_⟩
 ·rw[aI (λz=>by subst z;rw[(R.new n b f).1]at q;cases q)];exact R.keep _ _ q
 ·obtain⟨i,u,j⟩:=R.new m b q;refine⟨i,?_⟩;by_cases g:b=a
  ·subst g;exact⟨o,aB⟩
  ·exact⟨u,by rw[aI g];exact j⟩
 ·by_cases p:n=m
  ·grind
  ·rw[dy p]at he;obtain⟨i,ws,j,t⟩:=R.cell m e b he l hk;have ne:b≠a:=λz=>by
    subst z;obtain⟨x,e1⟩:=bj.mp l;obtain⟨y,v⟩:=bj.mp f;exact p ((qQ R.nd).mp (v.trans e1.symm))
   exact⟨i,ws,j.to (cL.refl _) (λu q=>by rw[aI ne];exact q) id,t⟩
end
def _root_.L2.PE.imp(h:PE X e t)(b:∀a H Q,t' a H Q->t a H Q):PE X e t':=λc s a H Q I hw=>h c s a H Q I (b _ _ _ hw)
def _root_.L2.PT.imp(h:PT X e t)(b:∀a H Q,t' a H Q->t a H Q):PT X e t':=λc s a H Q I hw=>h c s a H Q I (b _ _ _ hw)
def _root_.L2.PW.imp(h:PW X e t)(b:∀a H Q,t' a H Q->t a H Q):PW X e t':=λw c s a H Q I hw=>h w c s a H Q I (b _ _ _ hw)
def _root_.L2.PA.imp(h:PA X e t)(b:∀a H Q,t' a H Q->t a H Q):PA X e t':=λpos c s a H Q I hw=>h pos c s a H Q I (b _ _ _ hw)
def _root_.L2.PS.imp{st:Stmt}(h:PS X st t)(b:∀D a H,t' D a H->t D a H):PS X st t':=λc s a H D I hw=>h c s a H D I (b _ _ _ hw)
def _root_.L2.PSs.imp{st:List Stmt}(h:PSs X st t)(b:∀D a H,t' D a H->t D a H):PSs X st t':=λc s a H D I hw=>h c s a H D I (b _ _ _ hw)
def _root_.L2.PG.imp(h:PG X e t)(b:∀v a H Q,t' v a H Q->t v a H Q):PG X e t':=λc s a H v u Q I r hw=>h c s a H v u Q I r (b _ _ _ _ hw)
def _root_.L2.PGs.imp(h:PGs X e t)(b:∀v a H Q,t' v a H Q->t v a H Q):PGs X e t':=λc s a H v u Q I r hw=>h c s a H v u Q I r (b _ _ _ _ hw)
def _root_.L2.PI.imp(h:PI X b e t)(c:∀a H Q,t' a H Q->t a H Q):PI X b e t':=λd s a H R I hw=>h d s a H R I (c _ _ _ hw)
inductive Rs (α:Type) where
 | ok (a:α) | ex (m:Bool) (C:Str)
abbrev Gx(a:Type):=cy->Option (Rs a×cy)
noncomputable def Yx{b c:Type}(k:b->Gx c):Rs b×cy->Option (Rs c×cy)
 | (.ok a,st)=>k a st
 | (.ex m C,st)=>some (.ex m C,st)
def bnd{a b:Type}(f:Gx a)(k:a->Gx b):Gx b:=λc=>(f c).bind (Yx k)
noncomputable def aW{b:Type}(a:b):Gx b:=λc=>some (.ok a,c)
noncomputable def hp{b:Type}(g:List ak->Option b):Gx b:=λc=>(g c.h).map λa=>(.ok a,c)
noncomputable def j3{b:Type}(o:Option b):Gx b:=λc=>o.map λa=>(.ok a,c)
def Dm(H H':Hp):Prop:=∀b o,H b=some o->∃a,H' b=some a
def iQ(P:Program)(w:World):Ig:=λh H s E e c=>∃a d i B f,e=.ref a/\c.os=s.os/\AllBare c.gens/\Un (oe h) [] H f s.heap c.heap/\lP P w f c.heap/\Dm H f/\E d none f /\
 Heap.FlyingW B h a d i c.heap/\(∀b o,f b=some o->∃g,B.get? b=some g)/\∀b g,s.heap.get? b=some g->H b=none->b∉oe h->B.get? b=some g
def zL:CH (iQ P w) X E0:=(by rintro _ _ _ _ _ _ _ ⟨_,_,_,_,_,_,_,_,_,_,_,h,_⟩;exact h.elim)
def JM(X:Cx)(g:Hp)(h F:Fz)(C:Str)(st:cy):Bool->Prop
 | true=>∀c d i f s j a b o,Rep X.K g h c st d i->Gr F c->Inv X f d i s->ClsAt X.K C b->Heap.MadeExcOf s.heap j a b o->X.xe (.ref a) {s with heap:=j}
 | false=>∀d f k l e m,Inv X f d k l->iQ X.prog X.w X.stack k l (λb _ p=>ClsAt X.K C b/\∃c,Rep X.K g h c st d p/\Gr F c) e m->X.xe e m
section
variable {X:Cx} {aa H:Hp} {ab F F1:Fz} {st bc:cy} {σ:St} {α β γ δ:Type}
def JM.mono(h:JM X aa ab F C st m)(s:Gr F F1):JM X aa ab F1 C st m:=by
 cases m with
 | true=>exact λd f g i j k a b l R z=>h d f g i j k a b l R (s.trans z)
 | false =>
  rintro f i H1 j e o I ⟨a,b,p,B,g,k,q,r,t,u,v,⟨c,d,R,z⟩,w⟩
  exact h f i H1 j e o I ⟨a,b,p,B,g,k,q,r,t,u,v,⟨c,d,R,s.trans z⟩,w⟩
def JN(X:Cx)(aa:Hp)(ab F:Fz)(P:α->cy->Prop):Rs α×cy->Prop
 | (.ok a,st)=>P a st
 | (.ex m C,st)=>JM X aa ab F C st m
def At(X:Cx)(aa:Hp)(ab F:Fz)(st:cy)(f:Gx α)(P:α->cy->Prop):Prop:=∃r,f st=some r/\JN X aa ab F P r
def JN.imp(h:JN X aa ab F P r)(g:Gr F F1)(i:∀a b,P a b->c a b):JN X aa ab F1 c r:=by
 match r,h with
 | (.ok a,st),h=>exact i a st h
 | (.ex m C,st),h=>exact JM.mono h g
def At.imp(h:At X aa ab F st f P)(g:Gr F F1)(i:∀a b,P a b->c a b):At X aa ab F1 st f c :=
 let ⟨r,d,e⟩:=h;⟨r,d,e.imp g i⟩
def aO(h:o.bind f=some b):∃a,o=some a/\f a=some b:=by
 cases o with
 | none=>cases h
 | some a=>exact⟨a,rfl,h⟩
def aZ(h:o.map f=some b):∃a,o=some a/\f a=b:=by
 simp_all
def At.bnd(h:At X aa ab F st (bnd f k) P):At X aa ab F st f (λa bc=>At X aa ab F bc (k a) P):=by
 obtain⟨r,d,c⟩:=h;obtain⟨q,e1,b⟩:=aO d;refine⟨q,e1,?_⟩
 match q,b with
 | (.ok a,s1),b=>exact⟨r,b,c⟩
 | (.ex m C,s1),b=>cases b;exact c
def At.aW(h:At X aa ab F st (aW a) P):P a st:=by
 obtain⟨r,b,c⟩:=h;cases b;exact c
def At.hp(h:At X aa ab F st (hp g) P):∃a,g st.h=some a/\P a st:=by
 obtain⟨r,b,c⟩:=h;obtain⟨a,e1,d⟩:=aZ b;subst d;exact⟨a,e1,c⟩
def At.j3(h:At X aa ab F st (j3 g) P):∃a,g=some a/\P a st:=by
 obtain⟨r,b,c⟩:=h;obtain⟨a,e1,d⟩:=aZ b;subst d;exact⟨a,e1,c⟩
def Tx(X:Cx)(aa:Hp)(ab:Fz)(e:Fz->α->β->Prop)(F:Fz)(st:cy)(f:Gx α)(σ:St)(Q:β->Hp->Prop):Prop :=
 At X aa ab F st f λa g=>∀b d c,Rep X.K aa ab c g σ d->Gr F c->e c a b->Q b d
def tX(X:Cx)(aa:Hp)(ab:Fz)(a:Fz->α->β->Prop)(f:Gx α):St->Hp->(β->Hp->Prop)->Prop:=λσ H Q=>∃F st,Rep X.K aa ab F st σ H/\Tx X aa ab a F st f σ Q
def Tx.mono(h:Tx X aa ab c F st f σ Q)(g:Gr F F1)(i:∀b H',Q b H'->d b H'):Tx X aa ab c F1 st f σ d :=
 At.imp h g λa j q b H' e R s r=>i _ _ (q b H' e R (g.trans s) r)
def Tx.bnd(h:Tx X aa ab d F st (bnd f k) σ Q)
  (i:∀a b F1 bc c,Rep X.K aa ab F1 bc σ c->Gr F F1->g F1 a b->Tx X aa ab d F1 bc (k a) σ Q->j b c):Tx X aa ab g F st f σ j :=
 At.imp (At.bnd h) (Gr.refl F) λa bc q b c F1 l e m=>i a b F1 bc c l e m (Tx.mono (q) e λ_ _ z=>z)
def Tx.aW(h:Tx X aa ab c F st (aW a) σ Q):∀b H' F',Rep X.K aa ab F' st σ H'->Gr F F'->c F' a b->Q b H':=At.aW h
def Tx.hp(h:Tx X aa ab c F st (hp g) σ Q):∃a,g st.h=some a/\∀b H' F',Rep X.K aa ab F' st σ H'->Gr F F'->c F' a b->Q b H':=At.hp h
def Tx.j3(h:Tx X aa ab c F st (j3 g) σ Q):∃a,g=some a/\∀b H' F',Rep X.K aa ab F' st σ H'->Gr F F'->c F' a b->Q b H':=At.j3 h
end
abbrev rB:Fz->Bool->Bool->Prop:=λ_ a b=>a=b
abbrev tE(X:Cx)(a:Hp)(b:Fz)(f:Gx PV):TE:=tX X a b (bO X.K) f
abbrev tT(X:Cx)(a:Hp)(b:Fz)(f:Gx Bool):TT:=tX X a b rB f
abbrev tA(X:Cx)(a:Hp)(b:Fz)(f:Gx (List PV)):TA:=tX X a b (aA X.K) f
section
variable {X:Cx} {aa:Hp} {ab:Fz} {a b c e:Expr} {es rest:List Expr} {fa fb fc:Gx PV} {ga gb:Gx Bool} {ts:Gx (List PV)} {pos:Pos}
noncomputable def rd(i:Nat):Gx PV:=λd=>(d.ρ[i]?).join.map λp=>(.ok p,d)
def Ru(i:Nat)(h:PE X (.Name x pos) (Nl i)):PE X (.Name x pos) (tE X aa ab (rd i)):=h.imp <| by
 rintro σ H Q ⟨F,st,R,r,d,f⟩
 obtain⟨p,e1,g⟩:=aZ d;subst g;cases z:st.ρ[i]? with
 | none=>rw[z]at e1;cases e1
 | some o =>
  rw[z]at e1;cases o with
  | none=>cases e1
  | some m =>
   cases e1;obtain⟨v,j,k⟩:=R.l.av i p z;exact⟨v,j,f v H F R (Gr.refl F) k⟩
def zM(h:PE X e (tC v))(d:∀F,bO X.K F p v):PE X e (tE X aa ab (aW p)):=h.imp (by rintro σ H Q ⟨F,st,R,q⟩;exact q.aW v H F R (Gr.refl F) (d F))
def Yy{j pos}:PE X (.Constant (.int i) j pos) (tE X aa ab (aW (.int i))):=zM Ta λ_=>aE.mpr rfl
def acS{j pos}:PE X (.Constant (.bool i) j pos) (tE X aa ab (aW (.bl i))):=zM XM λ_=>b8.mpr rfl
def Yz{j pos}:PE X (.Constant .none j pos) (tE X aa ab (aW .bB)):=zM Tb λ_=>dv.mpr rfl
def YA{j pos}:PE X (.Constant (.str i) j pos) (tE X aa ab (aW (.str i))):=zM Tc λ_=>cO.mpr rfl
abbrev G2:=List ak->PV->PV->Option PV
def rT(K:W.Frag)(g:G2):R2:=λx y H Q=>∃aa ab F d i j k p,g d.h j k=some p/\Rep K aa ab F d i H/\bO K F j x/\bO K F k y/\∀v l f,Rep K aa ab f d i l->Gr F f->bO K f p v->Q v l
abbrev uZ(X:Cx)(f:Value->Value->Sem Value)(g:G2):Prop:=OpR X f (rT X.K g)
def op2(g:G2)(fa fb:Gx PV):Gx PV:=bnd fa λx=>bnd fb λy=>hp λh=>g h x y
def qd(h:tE X aa ab (op2 g fa fb) σ H Q):W5 (rT X.K g) (tE X aa ab fa) (tE X aa ab fb) σ H Q:=by
 obtain⟨F,d,R,h⟩:=h;refine⟨F,d,R,h.bnd λp v F1 f t i u j k=>⟨F1,f,i,k.bnd λq w F2 l x R2 m b2 r=>?_⟩⟩
 obtain⟨o,e,z⟩:=r.hp;exact⟨aa,ab,F2,l,σ,p,q,o,e,R2,j.mono m,b2,z⟩
def acT(ho:uZ X (binaryOp op) g)(d:PE X a (tE X aa ab fa))(f:PE X b (tE X aa ab fb)):PE X (.BinOp a op b pos) (tE X aa ab (op2 g fa fb)):=(X0 ho d f).imp λ_ _ _ h=>qd h
def YB(ho:uZ X (compareOp op) g)(d:PE X a (tE X aa ab fa))(f:PE X b (tE X aa ab fb))(i:behindInMarks op b=false):PE X (.Compare a [op] [b] pos) (tE X aa ab (op2 g fa fb)):=(NG ho d f i).imp λ_ _ _ h=>qd h
def u0:PV->Option Bool | .bl b=>some b | _=>none
def rK{b:Bool}(h:u0 p=some b):p=.bl b:=by
 cases p<;>first | (cases h;rfl) | cases h
def toB(f:Gx PV):Gx Bool:=bnd f λp=>j3 (u0 p)
def toB_imp(h:tT X aa ab (toB fa) σ H Q):tE X aa ab fa σ H λv d=>∃k,v=.bl k/\Q k d:=by
 obtain⟨F,g,R,h⟩:=h;refine⟨F,g,R,h.bnd λp v F1 l d i m f j=>?_⟩
 obtain⟨k,e,z⟩:=j.j3;rw[rK e]at f;exact⟨k,b8.mp f,z k d F1 i (Gr.refl _) rfl⟩
def YC(ho:uZ X (compareOp op) g)(d:PE X a (tE X aa ab fa))(f:PE X b (tE X aa ab fb))(i:behindInMarks op b=false):PT X (.Compare a [op] [b] pos) (tT X aa ab (toB (op2 g fa fb))) :=
 (NH ho d f i).imp λ_ _ _ h=>qd (toB_imp h)
def chain(g d:G2)(fa fb fc:Gx PV):Gx PV:=bnd fa λx=>bnd fb λy=>bnd (hp λh=>(g h x y).bind u0) λk=>if k=true then bnd fc λz=>hp λh=>d h y z else aW (.bl false)
def u3(h:tE X aa ab (chain g i fa fb fc) σ H Q):Cw (rT X.K g) (rT X.K i) (tE X aa ab fa) (tE X aa ab fb) (tE X aa ab fc) σ H Q:=by
 obtain⟨F,m,R,h⟩:=h;refine⟨F,m,R,h.bnd λp v F1 r H1 x g1 B C=>⟨F1,r,x,C.bnd λq w F2 d H2 R2 D b2 E=>?_⟩⟩
 obtain⟨k,e,z⟩:=At.hp (At.bnd E);obtain⟨o,e1,I⟩:=aO e;rw[rK I]at e1;refine⟨aa,ab,F2,d,σ,p,q,_,e1,R2,B.mono D,b2,λu J j l f L=>⟨k,b8.mp L,?_⟩⟩
 cases k with
 | true =>
  have z:Tx X aa ab (bO X.K) F2 d (bnd fc λz=>hp λh=>i h q z) σ Q:=z
  refine⟨j,d,l,(z.mono f λ_ _ y=>y).bnd λt o M N H4 T Y Z h4=>?_⟩
  obtain⟨o,e,z⟩:=h4.hp;exact⟨aa,ab,M,N,σ,q,t,o,e,T,b2.mono (f.trans Y),Z,z⟩
 | false=>exact Tx.aW z _ J j l f (b8.mpr rfl)
def Oa(ho:uZ X (compareOp op) g)(f:uZ X (compareOp d) i)(j:PE X a (tE X aa ab fa))(k:PE X b (tE X aa ab fb))(hc:PE X c (tE X aa ab fc))
  (l:lastMarks [op,d] [b,c]=false):PE X (.Compare a [op,d] [b,c] pos) (tE X aa ab (chain g i fa fb fc)):=(Js ho f j k hc l).imp λ_ _ _ h=>u3 h
end
def cz(h:List ak):PV->Option (Kd×List PV)
 | .nd k a=>some (k,a)
 | .ref n=>(h[n]?).bind λc=>if live c=true then some (c.k,c.ps)else none
 | _=>none
def bM{a:Type}{c:Prop} [Decidable c] {x:Option a} {y:a} (h:(if c then x else none)=some y):c/\x=some y:=by
 grind
def aF{a:Type}{c:Prop} [Decidable c] {x y:a} (h:(if c then some x else none)=some y):c/\x=y:=by
 grind
section
variable {K:W.Frag} {aa H:Hp} {ab F:Fz} {st:cy} {σ:St}
def Rep.at(R:Rep K aa ab F st σ H){p:PV}{k:Kd}{ps:List PV}{v:V}(e:cz st.h p=some (k,ps))(b:bO K F p v):∃a vs,v=.ref a/\kL K F.F H a false k vs/\aA K F ps vs:=by
 cases p with
 | nd t u =>
  cases e;obtain⟨a,vs,d,f,g⟩:=jl.mp b;exact⟨a,vs,d,f.to (cL.refl _) (λo q=>R.sub _ _ q) id,g⟩
 | ref n =>
  obtain⟨c,e1,i⟩:=aO e;obtain⟨j,m⟩:=aF i;cases m;obtain⟨a,d,f⟩:=c9.mp b;obtain⟨_,vs,g,r⟩:=R.c.cell n c a e1 d j;exact⟨a,vs,f,g.to (cL.refl _) (λo q=>q) (λz=>by cases z),r⟩
 | _=>cases e
def CQ(h:List ak)(p:PV):Option (List PV):=match cz h p with
 | some (.aq,a)=>some a
 | some (.lst,a)=>some a
 | _=>none
def Rep.seq(R:Rep K aa ab F st σ H){p:PV}{ps:List PV}{v:V}(e:CQ st.h p=some ps)(b:bO K F p v):∃a vs,v=.ref a/\(gX K H a vs\/k9 K H a vs)/\aA K F ps vs:=by
 unfold CQ at e;split at e
 ·rename_i z;cases e;obtain⟨a,vs,d,f,g⟩:=R.at z b;exact⟨a,vs,d,.inl f.2,g⟩
 ·rename_i z;cases e;obtain⟨a,vs,d,f,g⟩:=R.at z b;exact⟨a,vs,d,.inr f,g⟩
 ·cases e
def pG(h:List ak):PV->Option Bool
 | .bB=>some false
 | .bl b=>some b
 | .int i=>some (i != 0)
 | p=>match cz h p with
  | some (.aq,a)=>some !a.isEmpty
  | some (.lst,a)=>some !a.isEmpty
  | some (.eR false _,a)=>some !a.isEmpty
  | _=>none
def rL{ps:List PV}{vs:List V}(h:aA K F ps vs):ps.isEmpty=vs.isEmpty:=by
 cases ps with
 | nil=>rw[h.cX];rfl
 | cons p ps=>obtain⟨v,r,rfl,_,_⟩:=h.cx;rfl
def Rep.Rv(R:Rep K aa ab F st σ H){p:PV}{k:Bool}{v:V}(e:pG st.h p=some k)(b:bO K F p v):NI K v H k:=by
 have d:(match cz st.h p with
  | some (.aq,f)=>some !f.isEmpty
  | some (.lst,f)=>some !f.isEmpty
  | some (.eR false _,f)=>some !f.isEmpty
  | _=>none)=some k->NI K v H k:=λe=>by
  split at e
  ·rename_i z;cases e;obtain⟨a,m,rfl,g,j⟩:=R.at z b;exact .inr (.inl ⟨m,g.2,by rw[rL j]⟩)
  ·rename_i z;cases e;obtain⟨a,m,rfl,g,j⟩:=R.at z b;exact .inl ⟨m,k9.sq g,by rw[rL j]⟩
  ·rename_i z;cases e;obtain⟨a,m,rfl,⟨o,g,_,q⟩,j⟩:=R.at z b;refine .inr (.inr ⟨o,g,?_⟩);rw[rL j,<-q,List.isEmpty_map]
  ·cases e
 cases p with
 | bB=>rw[dv.mp b];exact(bI e).symm
 | bl c=>rw[b8.mp b];exact(bI e).symm
 | int i=>rw[aE.mp b];exact(bI e).symm
 | str x=>exact d e
 | ref n=>exact d e
 | fn x=>exact d e
 | nd k f=>exact d e
end
section
variable {X:Cx} {aa:Hp} {ab:Fz} {a b c e:Expr} {es rest:List Expr} {fa fb fc:Gx PV} {ga gb:Gx Bool} {ts:Gx (List PV)} {pos:Pos}
def gO(f:Gx PV):Gx Bool:=bnd f λp=>hp λh=>pG h p
def YD(h:PE X e (tE X aa ab fa))(he:∀d,isTrue e X.env d=(do let v <-d;standAt e.pos;holding [v] (truthy v))):PT X e (tT X aa ab (gO fa)) :=
 (Jv h he).imp λσ H Q ⟨F,st,R,h⟩=>⟨F,st,R,h.bnd λp v F1 l g f m i j=>by
  obtain⟨k,e,z⟩:=j.hp;exact⟨k,f.Rv e i,z k g F1 f (Gr.refl _) rfl⟩⟩
def Ob{d f:CmpOp}{g i:G2}(ho:uZ X (compareOp d) g)(j:uZ X (compareOp f) i)(k:PE X a (tE X aa ab fa))(l:PE X b (tE X aa ab fb))(hc:PE X c (tE X aa ab fc))
  (m:lastMarks [d,f] [b,c]=false):PT X (.Compare a [d,f] [b,c] pos) (tT X aa ab (toB (chain g i fa fb fc))):=(Jt ho j k l hc m).imp λ_ _ _ h=>u3 (toB_imp h)
def dQ{d:Type}(h:Gx Bool)(f g:Gx d):Gx d:=bnd h λx=>if x=true then f else g
def xm{k l:Type}{i:Fz->k->l->Prop}{f g:Gx k}{d:St}{H:Hp}{Q:l->Hp->Prop}(h:tX X aa ab i (dQ ga f g) d H Q):tT X aa ab ga d H λc j=>if c=true then tX X aa ab i f d j Q else tX X aa ab i g d j Q:=by
 obtain⟨F,q,R,h⟩:=h;refine⟨F,q,R,h.bnd λx y F1 m j o t r p=>?_⟩
 cases r;cases x with
 | true=>exact⟨F1,m,o,p⟩
 | false=>exact⟨F1,m,o,p⟩
def xo{f d:Type}{g:Fz->f->d->Prop}{a:f}{b:d}{i:St}{H:Hp}{Q:d->Hp->Prop}(h:tX X aa ab g (aW a) i H Q)(j:∀F,g F a b):Q b H:=by
 obtain⟨F,k,R,h⟩:=h;exact h.aW b H F R (Gr.refl _) (j F)
def zN{P d Q f:Prop}{c:Bool}(h:if c=true then P else Q)(h1:P->d)(g:Q->f):if c=true then d else f:=by
 grind
def Er{d g:Type}{j:Fz->d->g->Prop}{f:Gx d}{k:St}{H:Hp}{Q l:g->Hp->Prop}(h:tX X aa ab j f k H Q)(i:∀b H',Q b H'->l b H'):tX X aa ab j f k H l:=let ⟨F,st,R,h⟩:=h;⟨F,st,R,h.mono (Gr.refl _) i⟩
def YE(d:PT X a (tT X aa ab ga))(f:PW X (.BoolOp .And (b::rest) pos) (tT X aa ab gb)):PW X (.BoolOp .And (a::b::rest) pos) (tT X aa ab (dQ ga gb (aW false))) :=
 (Te d f).imp λg H Q h=>Er (xm h) λ_ _ z=>zN z id λz=>xo z λ_=>rfl
def acU(d:PT X a (tT X aa ab ga))(f:PW X (.BoolOp .Or (b::rest) pos) (tT X aa ab gb)):PW X (.BoolOp .Or (a::b::rest) pos) (tT X aa ab (dQ ga (aW true) gb)) :=
 (XN d f).imp λg H Q h=>Er (xm h) λ_ _ z=>zN z (λz=>xo z λ_=>rfl) id
def CS(f:Gx Bool):Gx Bool:=bnd f λx=>aW !x
def YF(d:PT X a (tT X aa ab ga)):PT X (.UnaryOp .Not a pos) (tT X aa ab (CS ga)):=(Tf d).imp λσ H Q ⟨F,st,R,h⟩=>⟨F,st,R,h.bnd λx y F1 k f g l i j=>by
 cases i;exact j.aW _ f F1 g (Gr.refl _) rfl⟩
def GD(fa fb:Gx PV):Gx PV:=bnd fa λx=>bnd (hp λh=>pG h x) λk=>if k=true then fb else aW x
def orG(fa fb:Gx PV):Gx PV:=bnd fa λx=>bnd (hp λh=>pG h x) λk=>if k=true then aW x else fb
def JO{f g:PV->Gx PV}{m:List (Addr×Obj)}{s:Shared}{d:St}{H:Hp}{Q:VK}(u:PE X a (tE X aa ab fa))(I:Inv X m d H s)
  (h:tE X aa ab (bnd fa λx=>bnd (hp λh=>pG h x) λk=>if k=true then f x else g x) d H Q) :
  wpAny (model X.prog X.w) X.A (eval a X.env) (λv s1=>wpAny (model X.prog X.w) X.A (truthy v) (λk s2=>∃p l F1 i j,Inv X m d j s2/\RelV l v/\Rep X.K aa ab F1 i d j/\bO X.K F1 p l/\Tx X aa ab (bO X.K) F1 i (if k=true then f p else g p) d Q) X.xe s1) X.xe s:=by
 obtain⟨F,y,R,h⟩:=h;refine thn (u m s d H (λv j=>∃F1 i p,Rep X.K aa ab F1 i d j/\bO X.K F1 p v/\Tx X aa ab (bO X.K) F1 i (bnd (hp λh=>pG h p) λk=>if k=true then f p else g p) d Q) I
  ⟨F,y,R,h.bnd λp v F1 i j o N q r=>⟨F1,i,p,o,q,r⟩⟩) λv s1 ⟨l,j,B,t,F1,i,p,o,q,r⟩=>?_
 obtain⟨k,e,z⟩:=At.hp (At.bnd r);exact thn (Ju m s1 d j l v (λC D=>C=k/\D=j) B t ⟨k,o.Rv e q,rfl,rfl⟩) <| by
  rintro c s2 ⟨E,J,L,M⟩
  subst L M;exact⟨p,l,F1,i,E,J,t,o,q,z⟩
def acV(g:PE X a (tE X aa ab fa))(i:PE X (.BoolOp .Or (b::rest) pos) (tE X aa ab fb)):PE X (.BoolOp .Or (a::b::rest) pos) (tE X aa ab (orG fa fb)):=λj s l H Q I h =>
 BoolOp_or (thn (JO g I h) λv t z=>thn z <| by
  rintro k s2 ⟨p,m,F1,o,H1,d,q,f,r,z⟩
  cases k with
  | true=>exact⟨m,H1,d,q,Tx.aW (z) _ H1 F1 f (Gr.refl _) r⟩
  | false=>exact i j s2 l H1 Q d ⟨F1,o,f,z⟩)
def YG(g:PE X a (tE X aa ab fa))(i:PE X (.BoolOp .And (b::rest) pos) (tE X aa ab fb)):PE X (.BoolOp .And (a::b::rest) pos) (tE X aa ab (GD fa fb)):=λj s l H Q I h =>
 BoolOp_and (thn (JO g I h) λv t z=>thn z <| by
  rintro k s2 ⟨p,m,F1,o,H1,d,q,f,r,z⟩
  cases k with
  | false=>exact⟨m,H1,d,q,Tx.aW (z) _ H1 F1 f (Gr.refl _) r⟩
  | true=>exact i j s2 l H1 Q d ⟨F1,o,f,z⟩)
def Oc(fa:Gx PV):Gx PV:=bnd (toB fa) λx=>aW (.bl !x)
def YH(d:PE X a (tE X aa ab fa)):PE X (.UnaryOp .Not a pos) (tE X aa ab (Oc fa)):=(Th d).imp λσ H Q ⟨F,st,R,h⟩ =>
 toB_imp ⟨F,st,R,h.bnd λx y F1 k f g l i j=>by
  cases i;exact j.aW _ f F1 g (Gr.refl _) (b8.mpr rfl)⟩
def acW(hc:PT X c (tT X aa ab ga))(d:PE X a (tE X aa ab fa))(f:PE X b (tE X aa ab fb)):PE X (.IfExp c a b pos) (tE X aa ab (dQ ga fa fb)):=(Jg hc d f).imp λ_ _ _ h=>xm h
def ao(f:Gx PV)(g:Gx (List PV)):Gx (List PV):=bnd f λx=>bnd g λd=>aW (x::d)
def YI:PA X [] (tA X aa ab (aW [])):=rp.imp λd H Q h=>xo h λ_=>.nil
def Uc(d:PE X e (tE X aa ab fa))(f:PA X es (tA X aa ab ts))(g:starEach (e::es) X.env=(false,eval e X.env)::starEach es X.env:=by rfl):PA X (e::es) (tA X aa ab (ao fa ts)) :=
 (jq d f g).imp (by rintro σ H Q ⟨F,st,R,h⟩;exact⟨F,st,R,h.bnd λp v F1 i r j t k l=>⟨F1,i,j,l.bnd λu w F2 x m R2 o b2 q=>q.aW _ m F2 R2 (Gr.refl _) (.cons (k.mono o) b2)⟩⟩)
noncomputable def fL:Nat:=4000000
def fA{n:Nat}(h:n<=fL):n<=sizeLine:=bP h (by decide)
def small(ps:List PV)(p:PV):Option PV:=if ps.length<=fL then some p else none
def kO(k:Kd)(ts:Gx (List PV)):Gx PV:=bnd ts λd=>j3 (small d (.nd k d))
def YJ{i}(h:PA X es (tA X aa ab ts)):PE X (.Tuple es i pos) (tE X aa ab (kO .aq ts)):=(TZ h).imp λσ H Q ⟨F,st,R,h⟩=>⟨F,st,R,h.bnd λo d F1 q r j t f k=>by
 obtain⟨p,e,z⟩:=k.j3;obtain⟨l,rfl⟩:=aF e;refine⟨fA (by rw[<-f.length];exact l),λa m=>?_⟩
 obtain⟨R2,g⟩:=j.laid (.aq d) m;exact z _ _ _ R2 g (cg.mpr ⟨a,d,rfl,gX.of aB,f.mono g⟩)⟩
def YK(h:PA X es (tA X aa ab ts)):PE X (.List es pos) (tE X aa ab (kO .lst ts)):=(Jx h).imp λσ H Q ⟨F,st,R,h⟩=>⟨F,st,R,h.bnd λm d F1 o q i r f j=>by
 obtain⟨p,e,z⟩:=j.j3;obtain⟨k,rfl⟩:=aF e;refine⟨fA (by rw[<-f.length];exact k),λa l=>?_⟩
 obtain⟨R2,g⟩:=i.laid (.lst d) l;exact z _ _ _ R2 g (gv.mpr ⟨a,d,rfl,k9.of aB,f.mono g⟩)⟩
noncomputable def lU(c:ak):Gx PV:=λd=>some (.ok (.ref d.h.length),⟨d.ρ,d.h++[c]⟩)
def Tx.lU{c:ak}{F:Fz}{st:cy}{d:St}{H:Hp}{Q:VK}{p:Addr}{o:HO}{vs:List V}(h:Tx X aa ab (bO X.K) F st (lU c) d Q)(R:Rep X.K aa ab F st d H)(hp:H p=none)
  (f:kL X.K F.F (cu H p o) p true c.k vs) (i:aA X.K F c.ps vs):Q (.ref p) (cu H p o):=by
 obtain⟨r,j,m⟩:=h;cases j;obtain⟨C,g,q⟩:=R.c.alloc hp f i;exact m _ _ _ ⟨C,R.l.mono g⟩ g (c9.mpr ⟨p,q,rfl⟩)
def ug(ts:Gx (List PV)):Gx PV:=bnd ts λd=>bnd (j3 (small d .bB)) λ_=>lU ⟨.lst,d⟩
def Ud(h:PA X es (tA X aa ab ts)):PE X (.List es pos) (tE X aa ab (ug ts)):=(Jx h).imp λσ H Q ⟨F,st,R,h⟩=>⟨F,st,R,h.bnd λk l F1 m o f q d g=>by
 obtain⟨p,e,z⟩:=At.j3 (At.bnd g);obtain⟨i,rfl⟩:=aF e;exact⟨fA (by rw[<-d.length];exact i),λa j=>Tx.lU z f j aB d⟩⟩
end
inductive dE where
 | nx | bk | ct | rt (p:PV)
def zO(X:Cx)(d:Hp)(e F:Fz)(D:ua):dE->cy->Prop
 | .nx,st=>∀a c b,Rep X.K d e a st c b->Gr F a->D.nx c b
 | .bk,st=>∀a c b,Rep X.K d e a st c b->Gr F a->D.bk c b
 | .ct,st=>∀a c b,Rep X.K d e a st c b->Gr F a->D.ct c b
 | .rt p,st=>∀v a b,kA X.K d e a st.h b->Gr F a->bO X.K a p v->D.rt v b
def Sa(X:Cx)(a:Hp)(b F:Fz)(D:ua)(st:cy)(f:Gx dE):Prop:=At X a b F st f (zO X a b F D)
def tS(X:Cx)(a:Hp)(b:Fz)(f:Gx dE):TS:=λD d H=>∃F c,Rep X.K a b F c d H/\Sa X a b F D c f
section
variable {X:Cx} {aa:Hp} {ab F F1:Fz} {D:ua} {st:cy} {α β:Type}
theorem zO.mono(g:Gr F F1):∀(o:dE) (st:cy),zO X aa ab F D o st->zO X aa ab F1 D o st
 | .nx,_,h=>λa c b R z=>h a c b R (g.trans z)
 | .bk,_,h=>λa c b R z=>h a c b R (g.trans z)
 | .ct,_,h=>λa c b R z=>h a c b R (g.trans z)
 | .rt _,_,h=>λv a b R z=>h v a b R (g.trans z)
def Sa.mono(h:Sa X aa ab F D st f)(g:Gr F F1):Sa X aa ab F1 D st f:=At.imp h g (zO.mono g)
def Sa.bnd(h:Sa X aa ab F D st (bnd f k))
  (i:∀a b F1 c d,Rep X.K aa ab F1 c σ d->Gr F F1->g F1 a b->Sa X aa ab F1 D c (k a)->Q b d):Tx X aa ab g F st f σ Q :=
 At.imp (At.bnd h) (Gr.refl F) λa c q b d F1 j e l=>i a b F1 c d j e l (Sa.mono q e)
end
section
variable {X:Cx} {aa:Hp} {ab:Fz} {a b c e tg iter:Expr} {es:List Expr} {fe:Gx PV} {gc:Gx Bool} {pos:Pos} {s:Stmt} {ss body:List Stmt} {f g fb:Gx dE}
def onK(g:Gx dE):dE->Gx dE
 | .nx=>g
 | .bk=>aW .bk
 | .ct=>aW .ct
 | .rt p=>aW (.rt p)
def d0(f g:Gx dE):Gx dE:=bnd f (onK g)
def Ue:PSs X [] (tS X aa ab (aW .nx)):=Np.imp (by rintro D σ H ⟨F,st,R,h⟩;exact At.aW h F σ H R (Gr.refl F))
def Od(h1:PS X s (tS X aa ab f))(k:PSs X ss (tS X aa ab g)):PSs X (s::ss) (tS X aa ab (d0 f g)):=(Jh h1 k).imp λD σ H ⟨F,st,R,h⟩ =>
 ⟨F,st,R,At.imp (At.bnd h) (Gr.refl F) λo l q=>match o,q with
  | .nx,q=>λF1 t u m r=>⟨F1,l,m,Sa.mono q r⟩
  | .bk,q=>λd j i=>At.aW q d j i
  | .ct,q=>λd j i=>At.aW q d j i
  | .rt p,q=>λv d i=>At.aW q v d i⟩
def Ug(h1:PS X s (tS X aa ab f)):PSs X [s] (tS X aa ab f):=Nq h1
def Uh:PS X (.Pass pos) (tS X aa ab (aW .nx)):=Nr.imp (by rintro D σ H ⟨F,st,R,h⟩;exact At.aW h F σ H R (Gr.refl F))
def Oe:PS X (.Break pos) (tS X aa ab (aW .bk)):=Ji.imp (by rintro D σ H ⟨F,st,R,h⟩;exact At.aW h F σ H R (Gr.refl F))
def Ui:PS X (.Continue pos) (tS X aa ab (aW .ct)):=zx.imp (by rintro D σ H ⟨F,st,R,h⟩;exact At.aW h F σ H R (Gr.refl F))
def retS(fe:Gx PV):Gx dE:=bnd fe λp=>aW (.rt p)
def YL(he:PE X e (tE X aa ab fe)):PS X (.Return (some e) pos) (tS X aa ab (retS fe)):=(Tj he).imp (by rintro D σ H ⟨F,st,R,h⟩;exact⟨F,st,R,h.bnd λp v F1 l d i m j k=>At.aW k v F1 d i.c (Gr.refl _) j⟩)
def Uj:PS X (.Return none pos) (tS X aa ab (aW (.rt .bB))):=Nu.imp (by rintro D σ H ⟨F,st,R,h⟩;exact At.aW h _ F H R.c (Gr.refl _) (dv.mpr rfl))
def acX(hc:PT X c (tT X aa ab gc))(k:PSs X p (tS X aa ab f))(l:PSs X r (tS X aa ab g)):PS X (.If c p r pos) (tS X aa ab (dQ gc f g)) :=
 (XT hc k l).imp λD σ H ⟨F,st,R,h⟩=>⟨F,st,R,h.bnd λx y F1 d o i q m j=>by
  cases m;cases x with
  | true=>exact⟨F1,d,i,j⟩
  | false=>exact⟨F1,d,i,j⟩⟩
def fV(fe:Gx PV):Gx dE:=bnd fe λ_=>aW .nx
def Uk(he:PE X e (tE X aa ab fe))(d:swapsWith e none pos.line X.env=pure false:=by rfl):PS X (.Expr e pos) (tS X aa ab (fV fe)):=(Nt he d).imp λD σ H ⟨F,st,R,h⟩ =>
 ⟨F,st,R,h.bnd λp v F1 l i j m o k=>At.aW k F1 σ i j (Gr.refl _)⟩
abbrev Tg:=PV->cy->Option cy
abbrev W9:=List PV->cy->Option cy
def tG(K:W.Frag)(aa:Hp)(ab:Fz)(g:Tg):TG:=λv l H Q=>∃F d p h,Rep K aa ab F d l H/\bO K F p v/\g p d=some h/\∀i j k,Rep K aa ab k h i j->Gr F k->Q i j
def YM(K:W.Frag)(aa:Hp)(ab:Fz)(g:W9):Tn:=λm o H Q=>∃F d h i,Rep K aa ab F d o H/\aA K F h m/\g h d=some i/\∀j k l,Rep K aa ab l i j k->Gr F l->Q j k
noncomputable def aU(i:Nat):Tg:=λp d=>if i<d.ρ.length then some ⟨d.ρ.set i (some p),d.h⟩else none
def Lc.set{K:W.Frag}(L:Lc K F ρ σ)(d:i<ρ.length)(k:bO K F p v):Lc K F (ρ.set i (some p)) (σ.set i (some v)) where
 av:=λj q e=>by
  by_cases h:i=j
  ·subst h;rw[jf d]at e;cases e;exact⟨v,jf (by rw[<-L.len];exact d),k⟩
  ·rw[dy h]at e;rw[dy h];exact L.av j q e
 len:=by rw[qS,qS];exact L.len
def Ul(i:Nat)(h:PG X (.Name x pos) (gName i)):PG X (.Name x pos) (tG X.K aa ab (aU i)):=h.imp <| by
 rintro v σ H Q ⟨F,st,p,k,R,d,hf,q⟩
 obtain⟨j,rfl⟩:=aF hf;exact q _ _ _ ⟨R.c,R.l.set j d⟩ (Gr.refl F)
def oi:W9:=λd h=>match d with | []=>some h | _=>none
def dk(g:Tg)(r:W9):W9:=λd h=>match d with | p::d=>(g p h).bind λi=>r d i | []=>none
def Um:PGs X [] (YM X.K aa ab oi):=Nw.imp <| by
 rintro i σ H Q ⟨F,st,d,j,R,h,hf,q⟩
 cases d with
 | nil=>cases hf;exact⟨h.cX,q _ _ _ R (Gr.refl F)⟩
 | cons _ _=>cases hf
def Of(h1:PG X e (tG X.K aa ab t))(j:PGs X es (YM X.K aa ab u))(k:(assignEach (e::es) X.env).map (·.2)=assign e X.env::(assignEach es X.env).map (·.2):=by rfl) :
  PGs X (e::es) (YM X.K aa ab (dk t u)):=(Jl h1 j k).imp <| by
 rintro D σ H Q ⟨F,st,d,l,R,m,hf,q⟩
 cases d with
 | nil=>cases hf
 | cons p d =>
  obtain⟨v,r,rfl,o,b2⟩:=m.cx;obtain⟨h,e1,w⟩:=aO hf;exact⟨v,r,rfl,F,st,p,h,R,o,e1,λE I F1 x i=>⟨F1,h,d,l,x,b2.mono i,w,λy B F2 R2 C=>q y B F2 R2 (i.trans C)⟩⟩
noncomputable def iR(n:Nat)(t:W9):Tg:=λp h=>match p with | .nd .aq d=>if d.length=n then t d h else none | _=>none
def YN(hc:X.calm=true)(h:PGs X es (YM X.K aa ab t))(j:(assignEach es X.env).length=n:=by rfl)(l:(assignEach es X.env).findIdx? (·.1)=none:=by rfl) :
  PG X (.Tuple es k pos) (tG X.K aa ab (iR n t)):=(To hc h j l).imp <| by
 rintro v σ H Q ⟨F,st,p,m,R,o,d,q⟩
 unfold iR at d;split at d
 ·rename_i r;obtain⟨u,d⟩:=bM d;obtain⟨a,w,rfl,x,i⟩:=cg.mp o;exact⟨a,w,rfl,br R.sub x,by rw[<-i.length];exact u,F,st,r,m,R,i,d,q⟩
 ·cases d
noncomputable def stp(g:cy->Option cy):Gx dE:=λd=>(g d).map λh=>(.ok .nx,h)
def Sa.stp{st:cy}{g:cy->Option cy}(h:Sa X aa ab F D st (stp g)):∃d,g st=some d/\∀F' i H',Rep X.K aa ab F' d i H'->Gr F F'->D.nx i H':=by
 obtain⟨r,j,k⟩:=h;obtain⟨d,e1,l⟩:=aZ j;subst l;exact⟨d,e1,k⟩
def dc(fe:Gx PV)(g:Tg):Gx dE:=bnd fe λp=>stp (g p)
def Og{g:Tg}(h:tS X aa ab (dc fe g) D σ H):Nx (tE X aa ab fe) (tG X.K aa ab g) D σ H:=by
 obtain⟨F,d,R,h⟩:=h;refine⟨F,d,R,h.bnd λp v F1 i t j u k l=>?_⟩
 obtain⟨m,e,z⟩:=l.stp;exact⟨F1,i,p,m,j,k,e,λo q F2 R2 r=>z F2 o q R2 r⟩
def YO{g:Tg}(he:PE X e (tE X aa ab fe))(d:PG X tg (tG X.K aa ab g))(i:swapsWithSole [tg] e pos.line X.env=pure false:=by rfl)(hw:swappedStores [tg] e X.env=pure none:=by rfl)
  (h1:(assignEach [tg] X.env).map (·.2)=[assign tg X.env]:=by rfl):PS X (.Assign [tg] e pos) (tS X aa ab (dc fe g)):=(Jm he d i hw h1).imp λ_ _ _ h=>Og h
def Walk(K:W.Frag)(F:Fz)(ps:List PV)(J:It):Prop:=∀(aa:Hp) (ab d:Fz) (st:cy) (σ:St) (H:Hp),Rep K aa ab d st σ H->Gr F d->∀i:Nat,
 (∀p,ps[i]?=some p->J.go i H/\∀x j,J.yld i H x j->∃h,Rep K aa ab h st σ j/\Gr d h/\bO K h p x)/\(ps[i]?=none->J.stop i H)
abbrev tI(X:Cx)(aa:Hp)(ab:Fz)(f:Gx (List PV)):TI:=tX X aa ab (Walk X.K) f
def u4(r:Gx dE):dE->Gx dE
 | .nx=>r
 | .ct=>r
 | .bk=>aW .nx
 | .rt p=>aW (.rt p)
def dm(g:Tg)(body:Gx dE):List PV->Gx dE
 | []=>aW .nx
 | p::d=>bnd (stp (g p)) λ_=>bnd body (u4 (dm g body d))
def Sa.lQ{st:cy}(N:St->Hp->Prop)(hN:∀F1 j d i,Rep X.K aa ab F1 j d i->Gr F F1->Sa X aa ab F1 D j r->N d i)(h:Sa X aa ab F D st (U.bnd fb (u4 r))):Sa X aa ab F {D with nx:=N,ct:=N,bk:=D.nx} st fb :=
 At.imp (At.bnd h) (Gr.refl F) λo j q=>match o,q with
  | .nx,q=>λF1 d i l k=>hN F1 j d i l k (Sa.mono q k)
  | .ct,q=>λF1 d i l k=>hN F1 j d i l k (Sa.mono q k)
  | .bk,q=>λm u t=>At.aW q m u t
  | .rt p,q=>λv m t=>At.aW q v m t
def jr(gc:Gx Bool)(body:Gx dE):Nat->Gx dE
 | 0=>λ_=>none
 | n+1=>bnd gc λc=>if c=true then bnd body (u4 (jr gc body n))else aW .nx
def Oh(n:Nat)(hp:PassesOwn (model X.prog X.w) X.A X.env X.xe)(hc:PT X c (tT X aa ab gc))(v:PSs X body (tS X aa ab fb)):PS X (.While c body [] pos) (tS X aa ab (jr gc fb n)) :=
 (Jn hp hc v).imp <| by
 rintro D σ H ⟨F,st,R,h⟩
 refine⟨λm j k=>∃d i,Rep X.K aa ab d i j k/\Sa X aa ab d D i (jr gc fb m),⟨n,F,st,R,h⟩,λm j k ⟨d,i,B,l⟩=>?_⟩
 cases m with
 | zero=>obtain⟨r,e,_⟩:=l;cases e
 | succ m =>
  refine⟨d,i,B,Sa.bnd l λx y F1 C E o Q I p=>?_⟩
  cases I;cases x with
  | false=>exact At.aW p F1 j E o (Gr.refl _)
  | true=>exact⟨λq t=>∃F2 u,Rep X.K aa ab F2 u q t/\Sa X aa ab F2 D u (jr gc fb m),λq t J=>⟨m,qO m,J⟩,F1,C,o,Sa.lQ _ (λL M T Y N Z z=>⟨L,M,N,z⟩) p⟩
end
def _root_.L2.Inv.Et(I:Inv X c σ H s)(h:k9 X.K H a xs):∃(b:List Value) (n:Nat),Vals xs b/\s.heap.get? a=some {cls:=.type "list",data:=.seq b.toArray n}/\xs.length<=sizeLine:=by
 rcases h with h | ⟨b,n,e,z,r⟩
 ·obtain⟨z,b,n,r,e⟩:=h.ok I.hok;exact⟨b,n,r,e,z⟩
 ·exact⟨b,n,r,I.rg a _ e,by rw[r.length];exact z⟩
def sizeOk(n:Nat)(p:PV):Option PV:=if n<=fL then some p else none
def j4(h:sizeOk n p=some q):n<=sizeLine/\p=q:=by
 obtain⟨a,b⟩:=aF h;exact⟨fA a,b⟩
def rM(h:List ak)(p:PV):Option (List PV):=match cz h p with | some (.lst,a)=>some a | _=>none
def iS(e:rM h p=some ps):cz h p=some (.lst,ps):=by
 unfold rM at e;split at e
 ·grind
 ·cases e
def eG:G2:=λh p q=>match p,q with
 | .int i,.int j=>some (.int (i+j))
 | .str x,.str y=>sizeOk (x.length+y.length) (.str (x++y))
 | .nd .aq a,.nd .aq b=>sizeOk (a.length+b.length) (.aq (a++b))
 | p,q=>(rM h p).bind λa=>(rM h q).bind λb=>sizeOk (a.length+b.length) (.lst (a++b))
noncomputable def rN(c:Int->Int->Bool)(f:Int->Int->PV):G2:=λ_ p q=>match p,q with
 | .int i,.int j=>if c i j=true then some (f i j)else none
 | _,_=>none
def Eu:Int:=18446744073709551616
def YQ:G2:=rN (λ_ _=>true) λi j=>.int (i-j)
def uh:G2:=rN (λi j=>decide ((-Eu<i/\i<Eu)\/(-Eu<j/\j<Eu))) λi j=>.int (i*j)
def iU:G2:=rN (λ_ j=>decide (0<j/\j<1073741824)) λi j=>.int (i/j)
def gk:G2:=rN (λ_ j=>decide (0<j)) λi j=>.int (i%j)
def Oj:G2:=rN (λi j=>decide (0<=j/\j<=1000/\i.natAbs<1000)) λi j=>.int (i^j.toNat)
def JQ:G2:=rN (λ_ _=>true) λi j=>.bl (decide (i<j))
def leO:G2:=rN (λ_ _=>true) λi j=>.bl (decide (i<=j))
def geO:G2:=rN (λ_ _=>true) λi j=>.bl (decide (j<=i))
section
variable {X:Cx}
def JR{ws:List Value}(ht:IsTup s.heap t ([]:List Value).toArray)(h:IsTup s.heap b ws.toArray)(h1:Q (.ref b) s):wpAny (model prog w) A (binaryOp .Add (.ref t) (.ref b)) Q E s:=by
 obtain⟨⟨i,j,e,k⟩,ho,hc,n,hd⟩:=id ht;obtain⟨⟨l,c,o,d⟩,a,f,m,g⟩:=id h;simp only at hc hd f g;subst hc hd f g;exact concat_meets ⟨_,ho,rfl⟩ ⟨_,a,rfl⟩ B6 seq_tuple_add BO BM (BL _ _) (tuple_addW0 t b _ ws.toArray n m j c k d (by simp)) ⟨ho,a,h1⟩
def Ol:uZ X (binaryOp .Add) eG:=by
 rintro w s σ H x y v u Q I d f ⟨aa,ab,F,st,τ,pa,pb,p,e,R,l,m,k⟩
 unfold eG at e;split at e
 ·cases e;rw[aE.mp l]at d;rw[aE.mp m]at f;exact TF w s σ H _ _ v u Q I d f ⟨_,_,rfl,rfl,k _ H F R (Gr.refl F) (aE.mpr rfl)⟩
 ·obtain⟨i,rfl⟩:=j4 e;rw[cO.mp l]at d;rw[cO.mp m]at f;exact Cz w s σ H _ _ v u Q I d f ⟨_,_,rfl,rfl,i,k _ H F R (Gr.refl F) (cO.mpr rfl)⟩
 ·rename_i L N;obtain⟨i,rfl⟩:=j4 e;obtain⟨a,h,rfl,o,c⟩:=cg.mp l;obtain⟨b,ws,rfl,t,g⟩:=cg.mp m;have B:=br R.sub o;have M:=br R.sub t;cases L with
  | nil =>
   rw[c.cX]at B;cases d;cases f;obtain⟨C,T,Y,_⟩:=I.tuple B;obtain⟨D,E,Z,_⟩:=I.tuple M;cases T;exact JR Y Z ⟨.ref b,H,I,rfl,k _ H F R (Gr.refl F) (cg.mpr ⟨b,ws,rfl,t,g⟩)⟩
  | cons x0 xr =>
   refine NY w s σ H _ _ v u Q I d f ⟨a,b,h,ws,rfl,rfl,B,M,?_,by rw[<-c.length,<-g.length];exact i,λz=>?_,λz q hq=>?_⟩
   ·intro z;have:=c.length;rw[z]at this;cases this
   ·subst z;have hy:=nJ g.length;subst hy;rw[dU]at k;exact k _ H F R (Gr.refl F) (cg.mpr ⟨a,h,rfl,o,c⟩)
   ·obtain⟨R2,j⟩:=R.laid (.aq (h++ws)) hq;exact k _ _ _ R2 j (cg.mpr ⟨q,_,rfl,gX.of aB,(c.append g).mono j⟩)
 ·obtain⟨L,e1,e⟩:=aO e;obtain⟨N,J,e⟩:=aO e;obtain⟨i,rfl⟩:=j4 e;obtain⟨a,h,rfl,o,c⟩:=R.at (iS e1) l;obtain⟨b,ws,rfl,t,g⟩:=R.at (iS J) m;cases d;cases f;obtain⟨C,n,r,e1,z1⟩:=I.Et o;obtain⟨D,n2,E,J,z2⟩:=I.Et t;have hl:=r.length;have hl2:=E.length;have hz':h.length+ws.length<=sizeLine:=by rw[<-c.length,<-g.length];exact i
  refine PySem.P.add_list e1 J ?_ (by grind)
  have ea:C.toArray++D.toArray=(C++D).toArray:=by simp
  rw[ea];obtain⟨R2,j⟩:=R.laid (.lst (h++ws)) I.fresh;exact⟨.ref _,_,I.acJ (r.append E) (by grind),rfl,k _ _ _ R2 j (gv.mpr ⟨_,_,rfl,k9.of aB,(c.append g).mono j⟩)⟩
def gy(ho:OpR X f (rI C h))(hc:∀i j,c i j=true->C i j)(d:∀i j F,bO X.K F (g i j) (h i j)):uZ X f (rN c g):=by
 rintro l s σ H x y v u Q I a b ⟨r,t,F,st,w,B,D,p,e,R,m,o,k⟩
 unfold rN at e;split at e
 ·obtain⟨q,rfl⟩:=aF e;rw[aE.mp m]at a;rw[aE.mp o]at b;exact ho l s σ H _ _ v u Q I a b ⟨_,_,rfl,rfl,hc _ _ q,k _ H F R (Gr.refl F) (d _ _ F)⟩
 ·cases e
def zP(ho:OpR X f (NA h)):OpR X f (rI (λ_ _=>True) h):=(by rintro a s σ H x y v u Q I b c ⟨i,j,d,e,_,q⟩;exact ho a s σ H x y v u Q I b c ⟨i,j,d,e,q⟩)
end
def Up:Operator->Option G2
 | .Add=>some eG
 | .Sub=>some YQ
 | .Mult=>some uh
 | .FloorDiv=>some iU
 | .Mod=>some gk
 | .Pow=>some Oj
 | _=>none
def Om(h:Up op=some g):uZ X (binaryOp op) g:=by
 unfold Up at h;split at h<;>cases h
 ·exact Ol
 ·exact gy (zP TJ) (by grind) λ_ _ _=>aE.mpr rfl
 ·exact gy TK (λi j e=>show(-Eu<i/\i<Eu)\/(-Eu<j/\j<Eu)from dF e) λ_ _ _=>aE.mpr rfl
 ·exact gy NC (λ_ j e=>show 0<j/\j<1073741824 from dF e) λ_ _ _=>aE.mpr rfl
 ·exact gy TL (λ_ _ e=>dF e) λ_ _ _=>aE.mpr rfl
 ·exact gy TM (λ_ _ e=>let ⟨a,c,b⟩:=dF e;⟨a,by lia,lL b (by decide)⟩) λ_ _ _=>aE.mpr rfl
inductive Tr where
 | bB | bl (b:Bool) | int (i:Int) | str (x:Str) | aq (xs:List Tr) | lst (xs:List Tr)
mutual
def eqT:Tr->Tr->Bool
 | .bB,.bB=>true
 | .bl a,.bl b=>a==b
 | .bl a,.int b=>(if a then 1 else 0)==b
 | .int a,.bl b=>a==(if b then 1 else 0)
 | .int a,.int b=>a==b
 | .str a,.str b=>a==b
 | .aq xs,.aq c=>mz xs c
 | .lst xs,.lst c=>mz xs c
 | _,_=>false
def mz:List Tr->List Tr->Bool
 | [],[]=>true
 | x::xs,y::a=>eqT x y&&mz xs a
 | _,_=>false
end
mutual
def dep:Tr->Nat
 | .aq xs=>kQ xs+1
 | .lst xs=>kQ xs+1
 | _=>0
def kQ:List Tr->Nat
 | []=>0
 | x::xs=>max (dep x) (kQ xs)
end
mutual
theorem iV:∀p:Tr,eqT p p=true
 | .bB=>rfl
 | .bl b=>fH b
 | .int b=>fH b
 | .str b=>fH b
 | .aq xs=>oj xs
 | .lst xs=>oj xs
theorem oj:∀ps:List Tr,mz ps ps=true
 | []=>rfl
 | x::xs=>dR.mpr ⟨iV x,oj xs⟩
end
theorem mB:∀{xs a:List Tr},xs.length≠a.length->mz xs a=false
 | [],[],h=>absurd rfl h
 | [],_::_,_=>rfl
 | _::_,[],_=>rfl
 | x::xs,y::a,h=>by show(eqT x y&&mz xs a)=false;rw[mB (by simpa using h),Bool.and_false]
noncomputable def rO(xs a:List Tr)(j:Nat):Bool:=match xs[j]?,a[j]? with
 | some x,some y=>eqT x y
 | _,_=>true
theorem mD:∀{xs a:List Tr},xs.length=a.length->(List.range xs.length).all (rO xs a)=mz xs a
 | [],[],_=>rfl
 | [],_::_,h=>by cases h
 | _::_,[],h=>by cases h
 | x::xs,y::a,h=>by
  have ih:=mD (by simpa using h)
  rw[aN,List.range_succ_eq_map,gj,List.all_map];have b:rO (x::xs) (y::a) 0=eqT x y:=rfl;have e1:(rO (x::xs) (y::a) ∘ Nat.succ)=rO xs a:=by
   funext j
   simp[rO,Function.comp]
  rw[b,e1,ih];rfl
def Ew(h1:xs.length=m)(b:a.length=n):((List.range (min m n)).all (rO xs a)&&(m==n))=mz xs a:=by
 subst h1 b;by_cases h:xs.length=a.length
 ·rw[<-h,Nat.min_self,mD h];simp
 ·rw[mB h];simp[h]
mutual
def dI(s:Shared):Tr->Value->Prop
 | .bB,u=>u=.none
 | .bl b,u=>u=.bool b
 | .int i,u=>∃t,u=.int i t
 | .str x,u=>∃t,u=.str x t
 | .aq d,u=>∃a c,u=.ref a/\s.heap.IsTuple a c.toArray/\cB s d c
 | .lst d,u=>∃a c,u=.ref a/\s.heap.IsList a c.toArray/\cB s d c
def cB(s:Shared):List Tr->List Value->Prop
 | [],us=>us=[]
 | t::a,us=>∃u r,us=u::r/\dI s t u/\cB s a r
end
section
variable {A:Around} {s:Shared}
theorem cB.len:∀{a:List Tr} {us:List Value},cB s a us->a.length=us.length
 | [],_,h=>by simp only[cB]at h;rw[h];rfl
 | _::_,_,h=>by
  simp only[cB]at h;obtain⟨u,r,rfl,_,h⟩:=h;simp[cB.len h]
def kz(h1:s.heap.IsTuple a x)(f:s.heap.IsTuple a y):x=y:=by
 obtain⟨o,e,_,n,d⟩:=h1;obtain⟨g,b,_,h,c⟩:=f;rw[e]at b;cases b;rw[d]at c;cases c;rfl
def mn(h1:s.heap.IsList a x)(f:s.heap.IsList a y):x=y:=by
 obtain⟨o,e,_,n,d⟩:=h1;obtain⟨g,b,_,h,c⟩:=f;rw[e]at b;cases b;rw[d]at c;cases c;rfl
def rP(h1:s.heap.IsTuple a x)(g:s.heap.IsList a y):False:=by
 obtain⟨o,e,c,n,d⟩:=h1;obtain⟨h,b,f,i,j⟩:=g;rw[e]at b;cases b;rw[c]at f;simp at f
mutual
theorem dI.inj:∀{p q:Tr} {u:Value},dI s p u->dI s q u->p=q
 | .bB,q,u,h,c=>by cases q<;>simp_all [dI]
 | .bl b,q,u,h,c=>by cases q<;>simp_all [dI]
 | .int b,q,u,h,c=>by
  simp only[dI]at h;obtain⟨t,rfl⟩:=h;cases q<;>simp_all [dI]
 | .str b,q,u,h,c=>by
  simp only[dI]at h;obtain⟨t,rfl⟩:=h;cases q<;>simp_all [dI]
 | .aq xs,q,u,h,c=>by
  simp only[dI]at h;obtain⟨a,j,rfl,f,k⟩:=h;cases q with
  | aq l =>
   simp only[dI]at c;obtain⟨b,g,e,d,i⟩:=c;cases e;have:=kz f d;have e:j=g:=by simpa using this
   subst e;rw[cB.inj k i]
  | lst l =>
   simp only[dI]at c;obtain⟨b,g,e,d,i⟩:=c;cases e;exact(rP f d).elim
  | _=>simp[dI]at c
 | .lst xs,q,u,h,c=>by
  simp only[dI]at h;obtain⟨a,j,rfl,f,k⟩:=h;cases q with
  | lst l =>
   simp only[dI]at c;obtain⟨b,g,e,d,i⟩:=c;cases e;have:=mn f d;have e:j=g:=by simpa using this
   subst e;rw[cB.inj k i]
  | aq l =>
   simp only[dI]at c;obtain⟨b,g,e,d,i⟩:=c;cases e;exact(rP d f).elim
  | _=>simp[dI]at c
theorem cB.inj:∀{ps a:List Tr} {us:List Value},cB s ps us->cB s a us->ps=a
 | [],a,us,h,b=>by
  simp only[cB]at h;subst h;cases a with
  | nil=>rfl
  | cons _ _=>simp[cB]at b
 | p::ps,a,us,h,b=>by
  simp only[cB]at h;obtain⟨u,r,rfl,c,d⟩:=h;cases a with
  | nil=>simp[cB]at b
  | cons q a =>
   simp only[cB]at b;obtain⟨i,j,e,f,g⟩:=b;cases e;rw[dI.inj c f,cB.inj d g]
end
def rQ(h:b=c)(r:SeqAt.RcAt A s u w b):SeqAt.RcAt A s u w c:=h▸r
def lV(h:b = !c)(r:SeqAt.RcNeAt A s u w b):SeqAt.RcNeAt A s u w (!c):=h▸r
def Ex(c:∀x t,u≠.float x t)(h:SeqAt.RcAt A s u w b)(d:u=w->b=true):SeqAt.EqAt A s u w b:=λprog v E Q a=>by
 unfold eqBool;refine fI ?_;refine wpAny_ite_split (λz=>?_) (λ_=>?_)
 ·rw[d (aY z)]at a;exact ag (qW (aw a))
 ·cases u with
  | float x t=>exact absurd rfl (c x t)
  | _=>exact ag (h prog v E _ (lH a))
def dI.Rx(h:dI s p u):∀y t,u≠.float y t:=λy t z=>by
 subst z;cases p<;>simp[dI]at h
mutual
theorem xp:∀(p q:Tr) (A:Around) (u w:Value),dI s p u->dI s q w->A.units+dep p<cLine->SeqAt.RcAt A s u w (eqT p q)/\SeqAt.RcNeAt A s u w (!(eqT p q))
 | .bB,q,A,u,w,e,c,f=>by
  have b:A.units<cLine := ‹_›;subst e;cases q with
  | bB=>cases c;exact⟨.none_none,.none_none⟩
  | bl=>cases c;exact⟨(.none_bool _),(.none_bool _)⟩
  | int=>obtain⟨t,rfl⟩:=c;exact⟨(.none_int _ _),(.none_int _ _)⟩
  | str=>obtain⟨t,rfl⟩:=c;exact⟨(.none_str _ _),(.none_str _ _)⟩
  | aq=>obtain⟨a,g,rfl,d,_⟩:=c;exact⟨(.none_tuple d b),(.none_tuple d b)⟩
  | lst=>obtain⟨a,g,rfl,d,_⟩:=c;exact⟨(.none_list d b),(.none_list d b)⟩
 | .bl k,q,A,u,w,e,c,f=>by
  have b:A.units<cLine := ‹_›;subst e;cases q with
  | bB=>cases c;exact⟨(.bool_none _),(.bool_none _)⟩
  | bl=>cases c;exact⟨(.bool_bool _ _),(.bool_bool _ _)⟩
  | int=>obtain⟨t,rfl⟩:=c;exact⟨(.bool_int _ _ _),(.bool_int _ _ _)⟩
  | str=>obtain⟨t,rfl⟩:=c;exact⟨(.bool_str _ _ _),(.bool_str _ _ _)⟩
  | aq=>obtain⟨a,g,rfl,d,_⟩:=c;exact⟨(.bool_tuple _ d b),(.bool_tuple _ d b)⟩
  | lst=>obtain⟨a,g,rfl,d,_⟩:=c;exact⟨(.bool_list _ d b),(.bool_list _ d b)⟩
 | .int k,q,A,u,w,e,c,f=>by
  have b:A.units<cLine := ‹_›;obtain⟨B,rfl⟩:=e;cases q with
  | bB=>cases c;exact⟨(.int_none _ _),(.int_none _ _)⟩
  | bl=>cases c;exact⟨(.int_bool _ _ _),(.int_bool _ _ _)⟩
  | int=>obtain⟨t,rfl⟩:=c;exact⟨(.int_int _ _ _ _),(.int_int _ _ _ _)⟩
  | str=>obtain⟨t,rfl⟩:=c;exact⟨(.int_str _ _ _ _),(.int_str _ _ _ _)⟩
  | aq=>obtain⟨a,g,rfl,d,_⟩:=c;exact⟨(.int_tuple _ _ d b),(.int_tuple _ _ d b)⟩
  | lst=>obtain⟨a,g,rfl,d,_⟩:=c;exact⟨(.int_list _ _ d b),(.int_list _ _ d b)⟩
 | .str k,q,A,u,w,e,c,f=>by
  have b:A.units<cLine := ‹_›;obtain⟨B,rfl⟩:=e;cases q with
  | bB=>cases c;exact⟨(.str_none _ _),(.str_none _ _)⟩
  | bl=>cases c;exact⟨(.str_bool _ _ _),(.str_bool _ _ _)⟩
  | int=>obtain⟨t,rfl⟩:=c;exact⟨(.str_int _ _ _ _),(.str_int _ _ _ _)⟩
  | str=>obtain⟨t,rfl⟩:=c;exact⟨(.str_str _ _ _ _),(.str_str _ _ _ _)⟩
  | aq=>obtain⟨a,g,rfl,d,_⟩:=c;exact⟨(.str_tuple _ _ d b),(.str_tuple _ _ d b)⟩
  | lst=>obtain⟨a,g,rfl,d,_⟩:=c;exact⟨(.str_list _ _ d b),(.str_list _ _ d b)⟩
 | .aq xs,q,A,u,w,e,c,f=>by
  have b:A.units<cLine:=by lia
  obtain⟨C,h,rfl,pL,o⟩:=e;cases q with
  | bB=>cases c;exact⟨(.tuple_none pL b),(.tuple_none pL b)⟩
  | bl=>cases c;exact⟨(.tuple_bool _ pL b),(.tuple_bool _ pL b)⟩
  | int=>obtain⟨t,rfl⟩:=c;exact⟨(.tuple_int _ _ pL b),(.tuple_int _ _ pL b)⟩
  | str=>obtain⟨t,rfl⟩:=c;exact⟨(.tuple_str _ _ pL b),(.tuple_str _ _ pL b)⟩
  | lst=>obtain⟨a,g,rfl,d,_⟩:=c;exact⟨(.tuple_list pL d b),(.tuple_list pL d b)⟩
  | aq l =>
   obtain⟨a,i,rfl,d,tR⟩:=c;have e1:xs.length=h.toArray.size:=by rw[eA,o.len]
   have r:l.length=i.toArray.size:=by rw[eA,tR.len]
   have v:=λj (x:j<h.toArray.size) (y:j<i.toArray.size)=>xq xs l A.in1 h i o tR (by rw[wF];have f:_+(kQ _+1)<_:=f;lia) j (by simpa using x) (by simpa using y)
   exact⟨rQ (Ew e1 r) (.tuples pL d b v),lV (by rw[Ew e1 r];rfl) (.tuples pL d b v)⟩
 | .lst xs,q,A,u,w,e,c,f=>by
  have b:A.units<cLine:=by lia
  obtain⟨C,h,rfl,pL,o⟩:=e;cases q with
  | bB=>cases c;exact⟨(.list_none pL b),(.list_none pL b)⟩
  | bl=>cases c;exact⟨(.list_bool _ pL b),(.list_bool _ pL b)⟩
  | int=>obtain⟨t,rfl⟩:=c;exact⟨(.list_int _ _ pL b),(.list_int _ _ pL b)⟩
  | str=>obtain⟨t,rfl⟩:=c;exact⟨(.list_str _ _ pL b),(.list_str _ _ pL b)⟩
  | aq=>obtain⟨a,g,rfl,d,_⟩:=c;exact⟨(.list_tuple pL d b),(.list_tuple pL d b)⟩
  | lst l =>
   obtain⟨a,i,rfl,d,tR⟩:=c;have e1:h.toArray.size=xs.length:=by rw[eA,o.len]
   have r:i.toArray.size=l.length:=by rw[eA,tR.len]
   by_cases m:xs.length=l.length
   ·have sz:h.toArray.size=i.toArray.size:=by rw[e1,r];exact m
    have v:=λj (x:j<h.toArray.size) (y:j<i.toArray.size)=>xq xs l A.in1 h i o tR (by rw[wF];have f:_+(kQ _+1)<_:=f;lia) j (by simpa using x) (by simpa using y)
    exact⟨rQ (by rw[e1,mD m];rfl) (.lists pL d sz b v),lV (by rw[e1,mD m];rfl) (.lists pL d sz b v)⟩
   ·have sz:(h.toArray.size != i.toArray.size)=true:=by rw[e1,r];simpa using m
    exact⟨rQ (mB m).symm (.lists_lengths pL d sz b),lV (cS not (mB m)).symm (.lists_lengths pL d sz b)⟩
theorem xq:∀(ps a:List Tr) A (us zs:List Value),cB s ps us->cB s a zs->A.units+kQ ps<cLine ->
  ∀j h1 (c:j<zs.length),SeqAt.EqAt A s us[j] zs[j] (rO ps a j)
 | [],a,A,us,zs,b,b2,f=>λj h1 c=>by
  simp only[cB]at b;subst b;cases h1
 | p::ps,a,A,us,zs,b,b2,f=>λj h1 c=>by
  simp only[cB]at b;obtain⟨u,l,rfl,d,i⟩:=b;cases a with
  | nil =>
   simp only[cB]at b2;subst b2;cases c
  | cons q a =>
   simp only[cB]at b2;obtain⟨z,m,rfl,g,k⟩:=b2;have h:A.units+dep p<cLine/\A.units+kQ ps<cLine:=by
    simp only[kQ]at f
    lia
   cases j with
   | zero =>
    refine Ex d.Rx (xp p q A _ _ d g h.1).1 λe=>?_
    simp only[List.getElem_cons_zero]at e;rw[e]at d;rw[d.inj g];exact iV q
   | succ j=>exact xq ps a A _ _ i k h.2 j (by simpa using h1) (by simpa using c)
end
def Uq(a:dI s p u)(b2:dI s q w)(b:A.units+dep p<cLine):SeqAt.EqAt A s u w (eqT p q):=by
 refine Ex a.Rx (xp p q A _ _ a b2 b).1 λz=>?_
 rw[z]at a;rw[a.inj b2];exact iV q
end
noncomputable def cb{a b:Type}(f:a->Option b):List a->Option (List b)
 | []=>some []
 | x::xs=>(f x).bind λy=>(cb f xs).map λc=>y::c
def JS:Kd->List Tr->Option Tr
 | .aq,a=>some (.aq a)
 | .lst,a=>some (.lst a)
 | _,_=>none
def toT(h:List ak):Nat->PV->Option Tr
 | 0,_=>none
 | n+1,p=>match p with
  | .bB=>some .bB
  | .bl b=>some (.bl b)
  | .int i=>some (.int i)
  | .str x=>some (.str x)
  | .fn _=>none
  | p=>(cz h p).bind λq=>(cb (toT h n) q.2).bind (JS q.1)
def d8(h:cb f (x::xs)=some a):∃y r,f x=some y/\cb f xs=some r/\a=y::r:=by
 obtain⟨y,b,c⟩:=aO h;obtain⟨r,d,e⟩:=aZ c;exact⟨y,r,b,d,e.symm⟩
theorem xt(h:List ak):∀(n:Nat) (p:PV) (t:Tr),toT h n p=some t->dep t<=n
 | 0,_,_,e=>by cases e
 | n+1,p,t,e=>by
  have d:((cz h p).bind λq=>(cb (toT h n) q.2).bind (JS q.1))=some t->dep t<=n+1:=λe=>by
   obtain⟨q,_,e⟩:=aO e;obtain⟨a,e1,c⟩:=aO e;have hd:∀b a,cb (toT h n) b=some a->kQ a<=n:=by
    intro b;induction b with
    | nil=>intro a z;cases z;simp[kQ]
    | cons p b ih =>
     intro a z;obtain⟨y,r,f,g,rfl⟩:=d8 z;have:=xt h n p y f;have:=ih r g;simp only[kQ];lia
   have:=hd _ _ e1;unfold JS at c;split at c<;>cases c<;>simp only[dep]<;>lia
  unfold toT at e;split at e<;>first | (cases e;simp[dep];done) | (cases e;done) | exact d e
section
variable {X:Cx} {ae:List (Addr×Obj)} {σ τ:St} {s:Shared} {aa H:Hp} {ab F:Fz} {st:cy}
theorem Rep.tree(R:Rep X.K aa ab F st τ H)(I:Inv X ae σ H s):∀(n:Nat) (p:PV) (t:Tr) (v:V) (u:Value),toT st.h n p=some t->bO X.K F p v->RelV v u->dI s t u
 | 0,_,_,_,_,e,_,_=>by cases e
 | n+1,p,t,v,u,e,b,r=>by
  have C:((cz st.h p).bind λq=>(cb (toT st.h n) q.2).bind (JS q.1))=some t->dI s t u:=λe=>by
   obtain⟨⟨k,f⟩,D,e⟩:=aO e;obtain⟨g,e1,i⟩:=aO e;obtain⟨a,j,rfl,d,B⟩:=R.at D b;have hd:∀f g j o,cb (toT st.h n) f=some g->aA X.K F f j->Vals j o->cB s g o:=by
    intro f;induction f with
    | nil=>intro g j o z b r;cases z;rw[b.cX]at r;cases r;simp[cB]
    | cons p f ih =>
     intro g j o z b r;obtain⟨y,q,E,d,rfl⟩:=d8 z;obtain⟨v,w,rfl,J,b2⟩:=b.cx;cases r with
     | cons L m =>
      simp only[cB];exact⟨_,_,rfl,R.tree I n p y v _ E J L,ih q w _ d b2 m⟩
   cases r
   match k,i,d with
   | .aq,i,d =>
    cases i;obtain⟨x,m,pl,_⟩:=I.tuple d.2;simp only[dI];exact⟨a,x,rfl,pl,hd _ _ _ _ e1 B m⟩
   | .lst,i,d =>
    cases i;obtain⟨x,m,pl,_⟩:=I.list (k9.sq d);simp only[dI];exact⟨a,x,rfl,pl.isList,hd _ _ _ _ e1 B m⟩
  unfold toT at e;split at e
  ·cases e;rw[dv.mp b]at r;cases r;simp[dI]
  ·cases e;rw[b8.mp b]at r;cases r;simp[dI]
  ·cases e;rw[aE.mp b]at r;obtain⟨t,rfl⟩:=r;simp[dI]
  ·cases e;rw[cO.mp b]at r;obtain⟨t,rfl⟩:=r;simp[dI]
  ·cases e
  ·exact C e
end
def eH:Nat:=1000
def eqB(h:List ak)(p q:PV):Option Bool:=(toT h eH p).bind λx=>(toT h eH q).map λy=>eqT x y
def j5:G2:=λh p q=>(eqB h p q).map .bl
def Ij:G2:=λh p q=>(eqB h p q).map λb=>.bl !b
noncomputable def mE:PV->Bool
 | .bB=>true
 | _=>false
def YS:G2:=λ_ p q=>match q with | .bB=>some (.bl (mE p)) | _=>none
def Ik(h:List ak)(p:PV)(ps:List PV):Option Bool:=(toT h eH p).bind λx=>(cb (toT h eH) ps).map λa=>a.any λy=>eqT y x
section
variable {X:Cx}
def zQ(e:eqB h p q=some b):∃x y,toT h eH p=some x/\toT h eH q=some y/\b=eqT x y:=by
 obtain⟨x,e1,e⟩:=aO e;obtain⟨y,a,c⟩:=aZ e;exact⟨x,y,e1,a,c.symm⟩
def Ur(l:X.A.units+1150<cLine):uZ X (compareOp .Eq) j5:=by
 rintro m s σ H x y v u Q I a c ⟨o,q,F,st,r,t,B,p,e,R,d,f,k⟩
 obtain⟨b,g,rfl⟩:=aZ e;obtain⟨h,i,e1,j,rfl⟩:=zQ g;have hd:=xt _ _ _ _ e1;exact(xp h i X.A v u (R.tree I _ _ _ _ _ e1 d a) (R.tree I _ _ _ _ _ j f c) (by unfold eH at hd;lia)).1 X.prog X.w X.xe _ ⟨.bl _,H,I,rfl,k _ H F R (Gr.refl F) (b8.mpr rfl)⟩
def Us(l:X.A.units+1150<cLine):uZ X (compareOp .NotEq) Ij:=by
 rintro m s σ H x y v u Q I a c ⟨o,q,F,st,r,t,B,p,e,R,d,f,k⟩
 obtain⟨b,g,rfl⟩:=aZ e;obtain⟨h,i,e1,j,rfl⟩:=zQ g;have hd:=xt _ _ _ _ e1;exact(xp h i X.A v u (R.tree I _ _ _ _ _ e1 d a) (R.tree I _ _ _ _ _ j f c) (by unfold eH at hd;lia)).2 X.prog X.w X.xe _ ⟨.bl _,H,I,rfl,k _ H F R (Gr.refl F) (b8.mpr rfl)⟩
def Ey{K:W.Frag}(b:bO K F p x):decide (x=.bB)=mE p:=by
 cases p with
 | bB=>rw[dv.mp b];rfl
 | bl _=>rw[b8.mp b];rfl
 | int _=>rw[aE.mp b];rfl
 | str _=>rw[cO.mp b];rfl
 | ref _=>obtain⟨_,_,rfl⟩:=c9.mp b;rfl
 | fn _=>obtain⟨_,rfl,_⟩:=rJ.mp b;rfl
 | nd _ _=>obtain⟨_,_,rfl,_⟩:=jl.mp b;rfl
def Ut:uZ X (compareOp .Is) YS:=by
 rintro a s σ H x y v u Q I b c ⟨g,h,F,st,i,j,l,p,e,R,d,f,k⟩
 unfold YS at e;split at e
 ·cases e;exact TQ a s σ H x y v u Q I b c ⟨dv.mp f,k _ H F R (Gr.refl F) (b8.mpr (by rw[Ey d]))⟩
 ·cases e
open Classical in
noncomputable def mF (s:Shared) (p:Tr) (u:Value):Bool:=if h:∃q,dI s q u then eqT h.choose p else false
def Ez(b:dI s q u):mF s p u=eqT q p:=by
 have h:∃q,dI s q u:=⟨q,b⟩
 unfold mF;rw[dif_pos h,dI.inj h.choose_spec b]
theorem xu:∀{a:List Tr} {us:List Value},cB s a us->us.any (mF s p)=a.any λy=>eqT y p
 | [],_,b=>by simp only[cB]at b;subst b;rfl
 | q::a,_,b=>by
  simp only[cB]at b;obtain⟨u,r,rfl,c,d⟩:=b;rw[ji,ji,Ez c,xu d]
theorem xw(d:dI s p w):∀{c:List Tr} {us:List Value},cB s c us->A.units+kQ c<cLine->∀u∈us,SeqAt.EqAt A s u w (mF s p u)
 | [],_,b,_=>λu a=>by simp only[cB]at b;subst b;cases a
 | q::c,_,b,f=>λu a=>by
  simp only[cB]at b;obtain⟨h,r,rfl,e,g⟩:=b;simp only[kQ]at f;rcases aK.mp a with rfl | a
  ·rw[Ez e];exact Uq e d (by lia)
  ·exact xw d g (by lia) u a
theorem Rep.trees{st:cy}(R:Rep X.K k m F st o H)(I:Inv X t σ H s)(n:Nat):∀(ps:List PV) (a:List Tr) (vs:List V) (us:List Value),cb (toT st.h n) ps=some a->aA X.K F ps vs->Vals vs us->cB s a us/\kQ a<=n
 | [],a,vs,us,z,b,r=>by cases z;rw[b.cX]at r;cases r;simp[cB,kQ]
 | p::ps,a,vs,us,z,b,r=>by
  obtain⟨y,q,d,e,rfl⟩:=d8 z;obtain⟨v,w,rfl,f,b2⟩:=b.cx;cases r with
  | cons g i =>
   obtain⟨j,u⟩:=R.trees I n ps q w _ e b2 i;have:=xt _ _ _ _ d;simp only[kQ];exact⟨⟨_,_,rfl,R.tree I n p y v _ d f g,j⟩,by lia⟩
def JT(e:Ik h p ps=some b):∃x a,toT h eH p=some x/\cb (toT h eH) ps=some a/\b=a.any λy=>eqT y x:=by
 obtain⟨x,e1,e⟩:=aO e;obtain⟨y,c,d⟩:=aZ e;exact⟨x,y,e1,c,d.symm⟩
def JU(N:X.A.units+1150<cLine){st:cy}(I:Inv X i σ H s)(o:RelV x v)(p:RelV y u)(R:Rep X.K T Y F st Z H)(B:bO X.K F C x)(D:bO X.K F E y)
  (J:CQ st.h E=some ps) (L:Ik st.h C ps=some b) :
  (Q (.bl b) H->wpAny (model X.prog X.w) X.A (compareOp .In v u) (EP X i σ Q) X.xe s)/\(Q (.bl !b) H->wpAny (model X.prog X.w) X.A (compareOp .NotIn v u) (EP X i σ Q) X.xe s):=by
 obtain⟨t,j,e1,k,rfl⟩:=JT L;obtain⟨a,vs,rfl,d,l⟩:=R.seq J D;have m:=R.tree I _ _ _ _ _ e1 B o;cases p;rcases d with d | d
 ·obtain⟨c,r,pl,_⟩:=I.tuple d;obtain⟨e,g⟩:=R.trees I _ _ _ _ _ k l r;have f:=λw (hw:w∈c.toArray)=>xw (A:=X.A.in1) m e (by rw[wF];unfold eH at g;lia) w (by grind)
  have M:c.toArray.any (mF s t)=j.any λy=>eqT y t:=by rw[show c.toArray.any (mF s t)=c.any (mF s t) by simp,xu e]
  exact⟨λq=>SeqAt.in_tupleAt (mF s t) pl f ⟨.bl _,H,I,rfl,by grind⟩,λq=>SeqAt.notIn_tupleAt (mF s t) pl f ⟨.bl _,H,I,rfl,by grind⟩⟩
 ·obtain⟨c,r,pl,_⟩:=I.list d.sq;obtain⟨e,g⟩:=R.trees I _ _ _ _ _ k l r;have f:=λw (hw:w∈c.toArray)=>xw (A:=X.A.in1) m e (by rw[wF];unfold eH at g;lia) w (by grind)
  have M:c.toArray.any (mF s t)=j.any λy=>eqT y t:=by rw[show c.toArray.any (mF s t)=c.any (mF s t) by simp,xu e]
  exact⟨λq=>SeqAt.in_listAt (mF s t) pl.isList f ⟨.bl _,H,I,rfl,by grind⟩,λq=>SeqAt.notIn_listAt (mF s t) pl.isList f ⟨.bl _,H,I,rfl,by grind⟩⟩
end
section
variable {K:W.Frag} {F:Fz}
def aA.lb{ps:List PV}{vs:List V}{i:Int}{p:PV}(h:aA K F ps vs)(e:L2.lb ps i=some p):∃v,L2.lb vs i=some v/\bO K F p v:=by
 unfold L2.lb at e ⊢;rw[<-h.length];cases z:NZ ps.length i with
 | none=>rw[z]at e;cases e
 | some j =>
  rw[z]at e;exact h.get e
def j6(xs:List PV)(lo a:Option Int):List PV:=(xs.drop (HT.eE xs.length 0 lo)).take (HT.eE xs.length xs.length a-HT.eE xs.length 0 lo)
def aA.cut{ps:List PV}{vs:List V}(h:aA K F ps vs)(lo a:Option Int):aA K F (j6 ps lo a) (zF vs lo a):=by
 unfold j6 zF;rw[h.length];exact(h.drop _).take _
def dJ{p:PV}{vs:List V}(b:aA K F [p] vs):∃v,vs=[v]/\bO K F p v:=by
 obtain⟨v,r,rfl,c,d⟩:=b.cx;rw[d.cX];exact⟨v,rfl,c⟩
def js{p q:PV}{vs:List V}(b:aA K F [p,q] vs):∃v w,vs=[v,w]/\bO K F p v/\bO K F q w:=by
 obtain⟨v,r,rfl,c,d⟩:=b.cx;obtain⟨w,rfl,e⟩:=dJ d;exact⟨v,w,rfl,c,e⟩
end
def mG{prog:Program}{w:World}{A:Around}{E:Value->Shared->Prop}{s:Shared}{t c:Addr}{a:Array Value}{d e:Value}{lo b:Option Int}{Q:Value->Shared->Prop}(ht:IsTup s.heap t a)(f:s.heap.IsSliceOf c d e .none)(pl:IsPart d lo)(g:IsPart e b)
  (i:HT.eE a.size 0 lo=0) (h1:HT.eE a.size a.size b=a.size) (h:Q (.ref t) s):wpAny (model prog w) A (getItem (.ref t) (.ref c)) Q E s:=by
 obtain⟨j,k,l,o⟩:=id f;have m:s.TypeIs (.ref c) "slice":=⟨j,k,l⟩;unfold getItem
 try with_reducible refine fI ?_
 first | refine ag (aw ?_) | skip
 refine ag (wpAny_sequenceKey ht.typeIs (by decide) ?_)
 refine ag (lD ht.typeIs nI (iw nI ht.typeIs entry_tuple_getitem ?_ (args_tuple_getitem _ _)));show wpAny _ _ (Builtin.Tuple.tupleItemsOf (.ref t) >>= _) _ _ s;refine ag (tupleItemsOf_ ht (ag (qU m ?_)));refine ag (HT.iO f pl g ?_);have hc:(((HT.eE a.size 0 lo:Nat):Int)==0&&(1:Int)==1&&(HT.eE a.size a.size b-HT.eE a.size 0 lo)==a.size)=true:=by
  rw[i,h1];simp
 show wpAny _ _ (if(((HT.eE a.size 0 lo:Nat):Int)==0&&1==1&&(HT.eE a.size a.size b-HT.eE a.size 0 lo)==a.size)=true then _ else _) _ _ s
 rw[if_pos hc];unfold Builtin.Tuple.tupleIsExact;refine ag (ag (qU ht.typeIs (aw ?_)));exact ag (qW (aw ⟨_,rfl,aw h⟩))
def Il(h:List ak)(lo b:Option Int)(p:PV):Option PV:=match cz h p with
 | some (.lst,a)=>some (.lst (j6 a lo b))
 | some (.aq,a)=>some (.aq (j6 a lo b))
 | _=>none
section
variable {X:Cx} {aa:Hp} {ab:Fz} {a b e:Expr} {es:List Expr} {fa fb:Gx PV} {ts:Gx (List PV)} {pos p1 p2:Pos} {lo hi:Option Expr}
def rSl(K:W.Frag):V->Option Int->Option Int->Hp->VK->Prop:=λx lo hi H Q=>∃aa ab F c f g p,Il c.h lo hi g=some p/\Rep K aa ab F c f H/\bO K F g x/\∀v i d,Rep K aa ab d c f i->Gr F d->bO K d p v->Q v i
def slT:SlR X (rSl X.K):=by
 rintro t s σ H x v u w lo hi y Q I i j pl pu ⟨aa,ab,F,st,J,C,p,e,R,l,k⟩
 unfold Il at e;split at e
 ·rename_i z;cases e;obtain⟨a,d,rfl,h,f⟩:=R.at z l;refine N1 t s σ H _ v u w lo hi y Q I i j pl pu ⟨a,d,rfl,k9.sq h,λq m=>?_⟩
  obtain⟨R2,g⟩:=R.laid (.lst (zF d lo hi)) m;exact k _ _ _ R2 g (gv.mpr ⟨q,_,rfl,k9.of aB,(f.cut lo hi).mono g⟩)
 ·rename_i B z;cases e;cases C with
  | nd kk pp =>
   cases z;obtain⟨a,d,rfl,h,f⟩:=cg.mp l;by_cases hw:HT.eE d.length 0 lo=0/\HT.eE d.length d.length hi=d.length
   ·cases i;obtain⟨D,r,ht,L⟩:=I.tuple (br R.sub h);have M:D.toArray.size=d.length:=by rw[eA];exact r.length.symm
    refine⟨"tuple",_,nI.lookup,ht.typeIs,?_⟩;refine mG ht j pl pu (by grind) (by grind) ⟨.ref a,H,I,rfl,k _ H F R (Gr.refl F) ?_⟩
    have hc:j6 B lo hi=B:=by
     unfold j6;rw[f.length,hw.1,hw.2,List.drop_zero,wR,<-f.length,List.take_length]
    rw[hc];exact l
   ·refine T2 t s σ H _ v u w lo hi y Q I i j pl pu ⟨a,d,rfl,br R.sub h,hw,λq m=>?_⟩
    obtain⟨R2,g⟩:=R.laid (.aq (zF d lo hi)) m;exact k _ _ _ R2 g (cg.mpr ⟨q,_,rfl,gX.of aB,(f.cut lo hi).mono g⟩)
  | ref n =>
   obtain⟨c,e1,E⟩:=aO z;obtain⟨o,N⟩:=aF E;have hk:c.k=.aq:=by grind
   unfold live at o;rw[hk]at o;cases o
  | _=>cases z
 ·cases e
abbrev Uu(X:Cx)(aa:Hp)(ab:Fz)(f:Gx (Option Int)):TO:=tX X aa ab (λ_ a b=>a=b) f
def _root_.L2.PO.imp{X:Cx}{e:Option Expr}{t t':TO}(h:PO X e t)(hi:∀c H Q,t' c H Q->t c H Q):PO X e t':=λd s c H Q I hw=>h d s c H Q I (hi _ _ _ hw)
def mH:PV->Option Int | .int i=>some i | _=>none
def fM{p:PV}{i:Int}(h:mH p=some i):p=.int i:=by
 cases p<;>first | (cases h;rfl) | cases h
def u5(fe:Gx PV):Gx (Option Int):=bnd fe λp=>j3 ((mH p).map some)
def Uv:PO X none (Uu X aa ab (aW none)):=NW.imp λc H Q h=>xo h λ_=>rfl
def Uw(h:PE X e (tE X aa ab fa)):PO X (some e) (Uu X aa ab (u5 fa)):=(NX h).imp λσ H Q ⟨F,st,R,h⟩=>⟨F,st,R,h.bnd λp v F1 j d f k c g=>by
 obtain⟨o,e,z⟩:=g.j3;obtain⟨i,e1,rfl⟩:=aZ e;rw[fM e1]at c;exact⟨i,aE.mp c,z _ d F1 f (Gr.refl _) rfl⟩⟩
def cutE(fa:Gx PV)(c d:Gx (Option Int)):Gx PV:=bnd fa λp=>bnd c λl=>bnd d λr=>hp λh=>Il h l r p
def YT{c d:Gx (Option Int)}(f:PE X e (tE X aa ab fa))(g:PO X lo (Uu X aa ab c))(i:PO X hi (Uu X aa ab d)):PE X (.Subscript e (.Slice lo hi none p2) pos) (tE X aa ab (cutE fa c d)):=(JB slT f g i).imp λσ H Q ⟨F,st,R,h⟩ =>
 ⟨F,st,R,h.bnd λp v F1 j I k J m q=>⟨F1,j,k,q.bnd λl L F2 t M R2 u b2 w=>⟨F2,t,R2,w.bnd λr N x y T B C D E=>by
  cases b2;cases D;obtain⟨o,e,z⟩:=E.hp;exact⟨aa,ab,x,y,σ,p,o,e,B,m.mono (u.trans C),z⟩⟩⟩⟩
abbrev GC:=List ak->List PV->Option PV
def rC(K:W.Frag)(g:GC):List V->Hp->VK->Prop:=λk H Q=>∃aa ab F c f i p,g c.h i=some p/\Rep K aa ab F c f H/\aA K F i k/\∀v j d,Rep K aa ab d c f j->Gr F d->bO K d p v->Q v j
abbrev JV(X:Cx)(f:Value)(g:GC):Prop:=mq X f (rC X.K g)
def gm(g:GC)(ts:Gx (List PV)):Gx PV:=bnd ts λc=>hp λh=>g h c
def mI{g:GC}{c:St}{H:Hp}{Q:VK}(h:tE X aa ab (gm g ts) c H Q):tCB (rC X.K g) (tA X aa ab ts) c H Q:=by
 obtain⟨F,d,R,h⟩:=h;refine⟨F,d,R,h.bnd λf m F1 i p j q k l=>?_⟩
 obtain⟨o,e,z⟩:=l.hp;exact⟨aa,ab,F1,i,c,f,o,e,j,k,z⟩
def YU(h:List ak)(p:PV):Option Nat:=match cz h p with
 | some (.aq,c)=>some c.length
 | some (.lst,c)=>some c.length
 | some (.eR _ ks,_)=>some ks.length
 | _=>none
def gM:GC:=λh c=>match c with
 | [.str z]=>if z.length<=fL then some (.int z.length)else none
 | [p]=>(YU h p).map λn=>.int n
 | _=>none
def GF:GC:=λh d=>match d with
 | [.nd .aq c]=>some (.aq c)
 | [p]=>(rM h p).map λc=>.aq c
 | _=>none
noncomputable def GG:GC:=λ_ c=>match c with
 | [.int i]=>some (.int i)
 | [.bl b]=>some (.int (if b then 1 else 0))
 | _=>none
noncomputable def GH:GC:=λ_ c=>match c with
 | [.int i]=>if 0<=i/\i<1000 then some (.str (toString i))else none
 | _=>none
def mJ(ps:List PV):Option (List Int):=cb mH ps
def GI:GC:=λh c=>match c with
 | [p]=>(rM h p).bind λd=>(mJ d).map λf=>.int f.sum
 | _=>none
def zR{A:Around}{E:Value->Shared->Prop}{s:Shared}{d:Addr}{o:Obj}{es:Array DictEntry}{f n:Nat}{Q:Value->Shared->Prop}(hd:(d==sysModules)=false)(ho:s.heap.get? d=some o)(hc:o.ExactDict)(g:o.data=.dict es f)(i:es.size=n)(j:(n:Int)<2^63)
  (h:Q (.int n (s.toks+1)) {s with toks:=s.toks+1+1}):wpAny (model X.prog X.w) A (call (.builtin "len") [.ref d]) Q E s:=by
 have ty:s.TypeIs (.ref d) "dict":=⟨o,ho,hc.1⟩;have k:MeetsIn X.prog X.w (Builtin.«dict.__len__» ⟨[.ref d],[]⟩) (λ_ R c=>c.heap.get? d=some o/\R (.ok (.ret (.int n c.toks))) {c with toks:=c.toks+1}):=.of_wp <| by
  rintro A R c ⟨l,m⟩
  show wpAny _ _ (dictSize d >>= _) _ _ c;refine ag (ag (qL l g (aw ?_)));refine ag (wpAny_pendingCount_other hd ?_);refine wpAny_ret_mkInt ?_;rw[Nat.add_zero,i];exact m
 refine Calls.call_function_entry kind_len plain_len entry_len (args_len1 _) ?_;refine ag (aw ?_);refine ag (lD ty F.slot_dict_len (call_meetsIn F.slot_dict_len ty F.entry_dict_len (F.args_dict_len_1 _) k ⟨ho,?_⟩));show wpAny _ _ _ _ _ {s with toks:=s.toks+1}
 refine ag (fI (aw ?_));refine ag (wpAny_letGo ?_);show wpAny _ _ (if((n:Nat):Int)>=2^63 then _ else _) _ _ _
 rw[if_neg (by lia)]
 exact ag (wpAny_mkInt (aw ⟨_,rfl,h⟩))
def EA{n:Nat}(h:n<=sizeLine):(n:Int)<2^63:=by
 have d:n<=2^62:=bP h (by decide)
 have c:2^62=4611686018427387904:=by decide
 lia
def Ot{k:List (Addr×Obj)}{s:Shared}{l:St}{H:Hp}{a:Addr}{t:Bool}{ks:List (List bh)}{vs:List V}{m:List Value}{Q:VK}{F:Hp}(I:Inv X k l H s)(x:Vals [V.ref a] m)(h:kL X.K F H a false (.eR t ks) vs)(q:Q (.int ks.length) H):wpAny (model X.prog X.w) X.A (call (.builtin "len") m) (λu B=>∃v H',Inv X k l H' B/\RelV v u/\Q v H') X.xe s:=by
 obtain⟨u,rfl,C⟩:=jH x;cases C;cases t with
 | false =>
  obtain⟨c,d,D,M⟩:=h;obtain⟨z,y,ws,hk,o,es,E,f,g,i,p,r,N⟩:=(I.hok a _ d);have j:ks.length=c.length:=by grind
  have J:es.size=ks.length:=by rw[j,nU hk,<-r.length,iu]
  exact zR y f g i J (EA (by grind)) ⟨.int ks.length,H,I.tok _,⟨_,rfl⟩,q⟩
 | true =>
  obtain⟨L,d,_,D,_⟩:=h;obtain⟨z,y,o,es,E,f,g,i,p,r⟩:=(I.hok a _ d);have j:ks.length=L.length:=by grind
  exact zR y f g i (by rw[<-iu,p,aj,j]) (EA (by grind)) ⟨.int ks.length,H,I.tok _,⟨_,rfl⟩,q⟩
def GJ:JV X (.builtin "len") gM:=by
 rintro g s σ H xs us Q I rs ⟨aa,ab,F,st,i,j,p,e,R,bs,k⟩
 unfold gM at e;split at e
 ·obtain⟨h,rfl⟩:=aF e;obtain⟨v,rfl,b⟩:=dJ bs;rw[cO.mp b]at rs;exact xi g s σ H _ us Q I rs ⟨_,rfl,fA h,k _ H F R (Gr.refl F) (aE.mpr rfl)⟩
 ·obtain⟨n,e1,rfl⟩:=aZ e;obtain⟨v,rfl,b⟩:=dJ bs;unfold YU at e1;split at e1
  ·rename_i z;cases e1;obtain⟨a,d,rfl,c,f⟩:=R.at z b;exact mw g s σ H _ us Q I rs ⟨a,d,rfl,.inr c.2,k _ H F R (Gr.refl F) (aE.mpr (by rw[f.length]))⟩
  ·rename_i z;cases e1;obtain⟨a,d,rfl,c,f⟩:=R.at z b;exact mw g s σ H _ us Q I rs ⟨a,d,rfl,.inl (k9.sq c),k _ H F R (Gr.refl F) (aE.mpr (by rw[f.length]))⟩
  ·rename_i z;cases e1;obtain⟨a,d,rfl,c,f⟩:=R.at z b;exact Ot I rs c (k _ H F R (Gr.refl F) (aE.mpr rfl))
  ·cases e1
 ·cases e
def GL:JV X (.type "tuple") GF:=by
 rintro f s σ H xs us Q I rs ⟨aa,ab,F,st,j,l,p,e,R,bs,k⟩
 unfold GF at e;split at e
 ·cases e;obtain⟨v,rfl,b⟩:=dJ bs;obtain⟨a,c,rfl,d,g⟩:=cg.mp b;exact lg f s σ H _ us Q I rs ⟨a,c,rfl,.inr ⟨br R.sub d,k _ H F R (Gr.refl F) b⟩⟩
 ·obtain⟨m,e1,rfl⟩:=aZ e;obtain⟨v,rfl,b⟩:=dJ bs;obtain⟨a,c,rfl,d,g⟩:=R.at (iS e1) b;refine lg f s σ H _ us Q I rs ⟨a,c,rfl,.inl ⟨k9.sq d,λq i=>?_⟩⟩
  obtain⟨R2,h⟩:=R.laid (.aq c) i;exact k _ _ _ R2 h (cg.mpr ⟨q,_,rfl,gX.of aB,g.mono h⟩)
 ·cases e
def GN:JV X (.type "int") GG:=by
 rintro c s σ H xs us Q I rs ⟨aa,ab,F,st,d,f,p,e,R,bs,k⟩
 unfold GG at e;split at e
 ·cases e;obtain⟨v,rfl,b⟩:=dJ bs;rw[aE.mp b]at rs;exact uO c s σ H _ us Q I rs (.inl ⟨_,rfl,k _ H F R (Gr.refl F) (aE.mpr rfl)⟩)
 ·cases e;obtain⟨v,rfl,b⟩:=dJ bs;rw[b8.mp b]at rs;exact uO c s σ H _ us Q I rs (.inr ⟨_,rfl,k _ H F R (Gr.refl F) (aE.mpr rfl)⟩)
 ·cases e
def GO:JV X (.type "str") GH:=by
 rintro c s σ H xs us Q I rs ⟨aa,ab,F,st,d,f,p,e,R,bs,k⟩
 unfold GH at e;split at e
 ·rename_i i;obtain⟨⟨g,j⟩,rfl⟩:=aF e;obtain⟨v,rfl,b⟩:=dJ bs;rw[aE.mp b]at rs;exact xc c s σ H _ us Q I rs ⟨i,rfl,(by
   by_cases h:i.natAbs=0
   ·simp_all
   ·exact nN (Nat.log2_le_self _) (by lia)),k _ H F R (Gr.refl F) (cO.mpr rfl)⟩
 ·cases e
theorem rR{K:W.Frag}{F:Fz}:∀{ps:List PV} {ns:List Int} {vs:List V},mJ ps=some ns->aA K F ps vs->vs=ns.map V.int
 | [],ns,vs,h,b=>by cases h;exact b.cX
 | p::r,ns,vs,h,b=>by
  obtain⟨i,j,f,g,rfl⟩:=d8 h;obtain⟨v,k,rfl,c,d⟩:=b.cx;rw[fM f]at c;rw[aE.mp c,rR g d];rfl
def Ou{d:List (Addr×Obj)}{f:St}{H:Hp}{s:Shared}{F:Fz}(I:Inv X d f H s){a:Addr}{vs:List V}{ps:List PV}{c:List Int}(g:mJ ps=some c)(h:k9 X.K H a vs)(i:aA X.K F ps vs) :
  ∃xs:Array (Int×Tok),s.heap.IsList a (intItems xs)/\c=xs.toList.map (·.1):=by
 obtain⟨k,r,pl,_⟩:=I.list h.sq;have j:=rR g i;subst j;have hi:=rE r;obtain⟨xs,ex⟩:=hi.allInts.items;exact⟨xs,by rw[<-ex];exact pl.isList,by rw[<-hi.numsOf,<-nums_intItems,<-ex]⟩
def GP(hc:X.A.handled=none):JV X (.builtin "sum") GI:=by
 rintro o s σ H c us Q I rs ⟨aa,ab,F,st,q,r,p,e,R,bs,k⟩
 unfold GI at e;split at e
 ·obtain⟨t,e1,e⟩:=aO e;obtain⟨d,f,rfl⟩:=aZ e;obtain⟨v,rfl,b⟩:=dJ bs;obtain⟨a,w,rfl,g,h⟩:=R.at (iS e1) b;obtain⟨c,i,j⟩:=Ou I f g h;obtain⟨u,rfl,l⟩:=jH rs;cases l;refine sum_intListG hc i λx y m hk=>⟨.int d.sum,H,I.kept hk,⟨m,?_⟩,k _ H F R (Gr.refl F) (aE.mpr rfl)⟩
  rw[preSum_eq,qD (by simp),j]
 ·cases e
inductive Ty where
 | int | str | bool | tuple | list
noncomputable def Ty.nm:Ty->String
 | .int=>"int" | .str=>"str" | .bool=>"bool" | .tuple=>"tuple" | .list=>"list"
def YV(h:List ak):PV->Option String
 | .bB=>some "NoneType"
 | .bl _=>some "bool"
 | .int _=>some "int"
 | .str _=>some "str"
 | p=>match cz h p with
  | some (.aq,_)=>some "tuple"
  | some (.lst,_)=>some "list"
  | _=>none
def Ux(t:Ty)(y:String):Bool:=y==t.nm || (t.nm=="int"&&y=="bool")
def isV(t:Ty)(fa:Gx PV):Gx PV:=bnd fa λp=>hp λh=>(YV h p).map λy=>.bl (Ux t y)
def rIs(K:W.Frag)(t:Ty):List V->Hp->VK->Prop:=λd H Q=>∃aa ab F c f p x y,d=[x,.ty t.nm]/\Rep K aa ab F c f H/\bO K F p x/\YV c.h p=some y/\Q (.bl (Ux t y)) H
def Ov(t:Ty):mq X (.builtin "isinstance") (rIs X.K t):=by
 rintro m s σ H xs us Q I rs ⟨aa,ab,F,st,D,p,x,y,ex,R,b,c,q⟩
 subst ex;obtain⟨u,w,rfl,f,r⟩:=Rb rs;cases r;have la:∀g,EP X m σ Q (.bool (Ux t y)) {s with toks:=g}:=λg=>⟨.bl _,H,I.tok g,rfl,q⟩
 have d:(match cz st.h p with
  | some (.aq,_)=>some "tuple"
  | some (.lst,_)=>some "list"
  | _=>none)=some y->wpAny (model X.prog X.w) X.A (call (.builtin "isinstance") [u,.type t.nm]) (EP X m σ Q) X.xe s:=λc=>by
  split at c
  ·rename_i z;cases c;obtain⟨a,v,rfl,j,B⟩:=R.at z b;cases f;obtain⟨C,_,⟨o,l,j,_⟩,_⟩:=I.tuple j.2;exact W.kia_one W.kitx_tuple I.rg ⟨o,l,j⟩ (by cases t<;>kernel_rfl) (λz=>nomatch z) la
  ·rename_i z;cases c;obtain⟨a,v,rfl,j,B⟩:=R.at z b;cases f;obtain⟨C,n,_,l,_⟩:=I.Et j;exact W.kia_one W.kitx_list I.rg ⟨_,l,rfl⟩ (by cases t<;>kernel_rfl) (λz=>nomatch z) la
  ·cases c
 cases p with
 | bB =>
  cases c;rw[dv.mp b]at f;cases f;exact W.kia_one W.kitx_none I.rg True.intro (by cases t<;>kernel_rfl) (λz=>nomatch z) la
 | bl y =>
  cases c;rw[b8.mp b]at f;cases f;exact W.kia_one W.kitx_bool I.rg True.intro (by cases t<;>kernel_rfl) (λz=>nomatch z) la
 | int i =>
  cases c;rw[aE.mp b]at f;obtain⟨g,rfl⟩:=f;exact W.kia_one W.kitx_int I.rg True.intro (by cases t<;>kernel_rfl) (λz=>nomatch z) la
 | str y =>
  cases c;rw[cO.mp b]at f;obtain⟨g,rfl⟩:=f;exact W.kia_one W.kitx_str I.rg True.intro (by cases t<;>kernel_rfl) (λz=>nomatch z) la
 | ref n=>exact d c
 | fn x=>exact d c
 | nd k E=>exact d c
def pH:bootBuiltins "isinstance"=some (.builtin "isinstance"):=by kernel_rfl
def kB(t:Ty):bootBuiltins (Str.ofString t.nm)=some (.type t.nm):=by cases t<;>kernel_rfl
noncomputable def tys:List Ty:=[.int,.str,.bool,.tuple,.list]
def EB(x:Str):Option Ty:=tys.find? λt=>x==Str.ofString t.nm
def JW{x:Str}{t:Ty}(h:EB x=some t):x=Str.ofString t.nm:=by
 have:=List.find?_some h;exact aY this
def ac0{x:Str}{t:Ty}(ht:EB x=some t)(i:Gl X "isinstance")(j:X.mg "isinstance"=none)(c:Gl X x)(d:X.mg x=none)(k:PE X a (tE X aa ab fa))(f:∀es,starEach (a::es) X.env=(false,eval a X.env)::starEach es X.env) :
  PE X (.Call (.Name "isinstance" p1) [a,.Name x p2] [] pos) (tE X aa ab (isV t fa)):=by
 have l:=JW ht;subst l;refine(rA (Ov t) i j pH (jq k (jq (Nm (v:=.ty t.nm) c d (kB t) rfl (by cases t<;>decide) (by cases t<;>decide)) rp rfl) (f _)) (by decide) (by decide) (f _)).imp λσ H Q ⟨F,st,R,h⟩=>?_
 refine⟨F,st,R,h.bnd λp v F1 m q g w r u=>?_⟩
 obtain⟨o,e,z⟩:=u.hp;obtain⟨y,e1,rfl⟩:=aZ e;exact⟨aa,ab,F1,m,σ,p,v,y,rfl,g,r,e1,z _ q F1 g (Gr.refl _) (b8.mpr rfl)⟩
def zS(fa:Gx PV):Gx PV:=bnd fa λp=>j3 ((mH p).map λi=>.int (-i))
def YW(d:PE X a (tE X aa ab fa)):PE X (.UnaryOp .USub a pos) (tE X aa ab (zS fa)):=(X1 TN d).imp λσ H Q ⟨F,st,R,h⟩=>⟨F,st,R,h.bnd λp v F1 k f g l c j=>by
 obtain⟨o,e,z⟩:=j.j3;obtain⟨i,e1,rfl⟩:=aZ e;rw[fM e1]at c;exact⟨i,aE.mp c,z _ f F1 g (Gr.refl _) (aE.mpr rfl)⟩⟩
end
noncomputable def zT:PV->Option bh
 | .int i=>some (.inl i)
 | .str x=>some (.inr x)
 | _=>none
def ie:Bool->PV->Option (List bh)
 | false,p=>(zT p).map λk=>[k]
 | true,.nd .aq a=>if a.length<1000 then cb zT a else none
 | true,_=>none
noncomputable def iz(k:List bh)(ks:List (List bh)):Bool:=ks.any λj=>decide (j=k)
noncomputable def eY(k:List bh):List (List bh)->List PV->Option PV
 | j::ks,p::a=>if j=k then some p else eY k ks a
 | _,_=>none
noncomputable def ui(k:List bh)(q:PV):List (List bh)->List PV->List PV
 | j::ks,p::a=>(if j=k then q else p)::ui k q ks a
 | _,a=>a
def rV:ui k q [] ps=ps:=by cases ps<;>rfl
def mK(t:Bool)(k:List bh)(q:PV)(ks:List (List bh))(ps:List PV):ak:=if iz k ks=true then⟨.eR t ks,ui k q ks ps⟩else⟨.eR t (ks++[k]),ps++[q]⟩
section
variable {K:W.Frag} {F:Fz}
def rW(h:zT p=some k)(b:bO K F p v):v=kV k:=by
 cases p<;>cases h
 ·exact aE.mp b
 ·exact cO.mp b
theorem u6:∀{ps:List PV} {ks:List bh} {vs:List V},cb zT ps=some ks->aA K F ps vs->vs=ks.map kV
 | [],_,_,h,b=>by cases h;exact b.cX
 | _::_,_,_,h,b=>by
  obtain⟨k,r,a,c,rfl⟩:=d8 h;obtain⟨v,w,rfl,d,b2⟩:=b.cx;rw[rW a d,u6 c b2];rfl
def iW(h:ie false p=some k)(b:bO K F p v):∃j,k=[j]/\v=kV j:=by
 obtain⟨j,e,rfl⟩:=aZ h;exact⟨j,rfl,rW e b⟩
def j7(h:ie true p=some k)(b:bO K F p v):∃c,v=.ref c/\gX K F.F c (k.map kV):=by
 unfold ie at h;split at h
 ·grind
 ·obtain⟨_,h⟩:=bM h;obtain⟨c,e,rfl,a,d⟩:=cg.mp b;rw[u6 h d]at a;exact⟨c,rfl,a⟩
 ·cases h
theorem j8(j:bh):∀kvs:List (bh×V),iz [j] (kvs.map λy=>[y.1])=(gZ kvs j).isSome
 | []=>rfl
 | (i,v)::r=>by
  have ih:=j8 j r;unfold iz at ih ⊢;rw[aM,ji,ih];by_cases h:i=j
  ·subst h;rw[mx rfl];simp
  ·rw[my h];simp[h]
theorem qe:∀{kvs:List (bh×V)} {ps:List PV} {p:PV},eY [j] (kvs.map λy=>[y.1]) ps=some p->aA K F ps (kvs.map (·.2))->∃v,gZ kvs j=some v/\bO K F p v
 | [],_,_,h,_=>by cases h
 | (i,v)::r,[],_,h,_=>by cases h
 | (i,v)::r,q::ps,p,h,b=>by
  obtain⟨d,w,e,c,b2⟩:=b.cx;cases e;have h:(if [i]=[j]then some q else eY [j] (r.map λy=>[y.1]) ps)=some p:=h
  by_cases a:i=j
  ·subst a;rw[if_pos rfl]at h;cases h;exact⟨v,mx rfl,c⟩
  ·rw[if_neg (by grind)]at h
   rw[my a];exact qe h b2
def JX(a:bO K F q v)(b:aA K F ps (kvs.map (·.2))) :
  ∃c d,mK false [j] q (kvs.map λy=>[y.1]) ps=⟨.eR false c,d⟩/\(putK kvs j v).map (λy=>[y.1])=c/\aA K F d ((putK kvs j v).map (·.2)):=by
 unfold mK putK;rw[j8,rF];cases e:(gZ kvs j).isSome with
 | false=>exact⟨_,_,rfl,by simp,by simpa using b.append (.cons a .nil)⟩
 | true =>
  refine⟨_,_,rfl,?_,?_⟩
  ·rw[if_pos rfl,cJ];exact List.map_congr_left λy _=>by grind
  ·rw[if_pos rfl];clear e;induction kvs generalizing ps with
   | nil=>rw[nV,rV];exact b
   | cons y r ih =>
    cases ps with
    | nil=>have:=b.length;simp at this
    | cons p ps =>
     obtain⟨h,w,e,g,b2⟩:=b.cx;simp only[aM,B9]at e;obtain⟨rfl,rfl⟩:=e;have ih:=ih b2;by_cases f:y.1=j
     ·simpa only[aM,ui,f,jZ]using aA.cons a ih
     ·have:¬ [y.1]=[j]:=by grind
      simpa only[aM,ui,f,this,fy]using aA.cons g ih
def CV(k:List bh)(xs:List (List bh×Addr×Value)):iz k (xs.map (·.1))=(atKey xs k).isSome:=(GB xs k).symm
theorem EC:∀{xs:List (List bh×Addr×Value)} {ps:List PV} {vs:List V} {p:PV},eY k (xs.map (·.1)) ps=some p->aA K F ps vs->Vals vs (xs.map (·.2.2))->∃a r v,atKey xs k=some (a,r)/\RelV v r/\bO K F p v
 | [],_,_,_,h,_,_=>by cases h
 | x::r,[],_,_,h,_,_=>by cases h
 | x::r,q::ps,vs,p,h,b,e=>by
  obtain⟨f,w,rfl,g,b2⟩:=b.cx;cases e with
  | cons i j =>
   have h:(if x.1=k then some q else eY k (r.map (·.1)) ps)=some p:=h
   by_cases c:x.1=k
   ·rw[if_pos c]at h;cases h;exact⟨x.2.1,x.2.2,f,by simp[atKey,c],i,g⟩
   ·rw[if_neg c]at h;obtain⟨a,l,v,d,m,o⟩:=EC h b2 j;exact⟨a,l,v,by unfold atKey at d ⊢;rw[qT,lJ c];exact d,m,o⟩
def Uy(l:bO K F q v)(m:RelV v r)(hc:gX K F.F c (k.map kV))(hk:eQ K F.F xs)(b:aA K F ps vs)(f:Vals vs (xs.map (·.2.2))) :
  ∃o t d,mK true k q (xs.map (·.1)) ps=⟨.eR true o,t⟩/\(storedH xs k c r).map (·.1)=o/\eQ K F.F (storedH xs k c r)/\aA K F t d/\Vals d ((storedH xs k c r).map (·.2.2)):=by
 unfold mK storedH;rw[CV];cases e:(atKey xs k).isSome with
 | false =>
  refine⟨_,_,vs++[v],rfl,by simp,λx a=>?_,b.append (.cons l .nil),by simpa using f.append (.cons m .nil)⟩
  simp only[jU,fy,bA,aD]at a;rcases a with a | rfl
  ·exact hk x a
  ·exact hc
 | true =>
  simp only[jZ];have u:(xs.map (putAt k r)).map (·.1)=xs.map (·.1):=by
   rw[cJ];exact List.map_congr_left λy _=>by simp only[Function.comp,putAt];split<;>rfl
  have g:eQ K F.F (xs.map (putAt k r)):=λx a=>by
   obtain⟨y,B,rfl⟩:=au.mp a;have:=hk y B;unfold putAt;split<;>exact this
  suffices h:∃d,aA K F (ui k q (xs.map (·.1)) ps) d/\Vals d ((xs.map (putAt k r)).map (·.2.2)) by
   obtain⟨d,i,j⟩:=h;exact⟨_,_,d,rfl,u,g,i,j⟩
  clear e hk u g;induction xs generalizing ps vs with
  | nil=>exact⟨vs,by rw[nV,rV];exact b,f⟩
  | cons x xs ih =>
   cases ps with
   | nil=>rw[b.cX]at f;cases f
   | cons p ps =>
    obtain⟨C,w,rfl,D,b2⟩:=b.cx;cases f with
    | cons E H =>
     obtain⟨d,i,j⟩:=ih b2 H;by_cases a:x.1=k
     ·exact⟨v::d,by simpa only[aM,ui,a,jZ]using aA.cons l i,by simpa only[aM,putAt,a,jZ]using Paired.cons m j⟩
     ·exact⟨C::d,by simpa only[aM,ui,a,fy]using aA.cons D i,by simpa only[aM,putAt,a,fy]using Paired.cons E j⟩
end
def bQ:G2:=λh p q=>match p with
 | .str z=>(mH q).bind λi=>if z.length<=fL then(lb z.cps.toList i).map λc=>.str ⟨#[c]⟩else none
 | p=>match cz h p with
  | some (.aq,a)=>(mH q).bind (lb a)
  | some (.lst,a)=>(mH q).bind (lb a)
  | some (.eR t ks,a)=>(ie t q).bind λk=>eY k ks a
  | _=>none
section
variable {X:Cx} {aa:Hp} {ab:Fz} {a b e:Expr} {fa fb:Gx PV} {pos:Pos}
def ixT(hu:X.A.units+1150<cLine):W7 X (rT X.K bQ):=by
 rintro value slice M s σ H x y v u Q I D g ⟨aa,ab,F,st,τ,pa,pb,p,e,R,N,l,k⟩ E
 have d:(match cz st.h pa with
  | some (.aq,q)=>(mH pb).bind (lb q)
  | some (.lst,q)=>(mH pb).bind (lb q)
  | some (.eR t ks,q)=>(ie t pb).bind λk=>eY k ks q
  | _=>none)=some p->wpAny (model X.prog X.w) X.A (subscriptTail value slice v u) (EP X M σ Q) X.xe s:=λe=>by
  split at e
  ·rename_i z;obtain⟨i,e1,f⟩:=aO e;rw[fM e1]at l;rw[aE.mp l]at g;obtain⟨a,T,rfl,B,C⟩:=R.at z N;obtain⟨w,hw,m⟩:=C.lb f;exact T4 value slice M s σ H _ _ v u Q I D g ⟨a,T,_,w,rfl,rfl,B.2,hw,k _ H F R (Gr.refl F) m⟩ E
  ·rename_i z;obtain⟨i,e1,f⟩:=aO e;rw[fM e1]at l;rw[aE.mp l]at g;obtain⟨a,T,rfl,B,C⟩:=R.at z N;obtain⟨w,hw,m⟩:=C.lb f;exact N0 value slice M s σ H _ _ v u Q I D g ⟨a,T,_,w,rfl,rfl,k9.sq B,hw,k _ H F R (Gr.refl F) m⟩ E
  ·rename_i t ks q z;obtain⟨kk,e1,f⟩:=aO e;obtain⟨a,T,rfl,B,C⟩:=R.at z N;cases D;cases t with
   | false =>
    obtain⟨kvs,Y,Z,g3⟩:=B;obtain⟨j,rfl,rfl⟩:=iW e1 l;subst Z g3;obtain⟨w,hw,m⟩:=qe f C;obtain⟨_,hd,us,CW,dd⟩:=Ep I.hok (.inl Y);have J:=CW.val j;rw[hw]at J;cases hv:valueAt us j with
    | none=>rw[hv]at J;exact J.elim
    | some u' =>
     rw[hv]at J;exact tail_any dd.typeIs PySem.F.slot_dict_getitem.lookup (wpAny_getItem_of (oV g) dd.mapOf hv ⟨w,H,I.tok _,J,k _ H F R (Gr.refl F) m⟩) E
   | true =>
    obtain⟨xs,Y,Z,g3,g4⟩:=B;obtain⟨c,rfl,hc⟩:=j7 e1 l;cases g;subst g3;obtain⟨ad,r,w,hw,T3,m⟩:=EC f C g4;obtain⟨_,hd,dd⟩:=uY I (.inl Y) (λz L=>br R.sub (Z z L))
    obtain⟨o,_,_,ho,hx,_⟩:=id dd;refine tail_any ⟨o,ho,hx.1⟩ PySem.F.slot_dict_getitem.lookup (Yo (by lia) I (.inl Y) (λz L=>br R.sub (Z z L)) (br R.sub hc) hw λs' I'=>⟨w,H,I',T3,k _ H F R (Gr.refl F) m⟩) E
  ·cases e
 cases pa with
 | str z =>
  obtain⟨i,e1,f⟩:=aO e;rw[fM e1]at l;obtain⟨L,f⟩:=bM f;obtain⟨c,e3,rfl⟩:=aZ f;rw[cO.mp N]at D;rw[aE.mp l]at g;exact T5 value slice M s σ H _ _ v u Q I D g ⟨z,i,c,rfl,rfl,fA L,e3,k _ H F R (Gr.refl F) (cO.mpr rfl)⟩ E
 | bB=>exact d e
 | bl _=>exact d e
 | int _=>exact d e
 | ref _=>exact d e
 | fn _=>exact d e
 | nd _ _=>exact d e
def ac2(c:X.A.units+1150<cLine)(d:PE X a (tE X aa ab fa))(f:PE X b (tE X aa ab fb))(g:qc b):PE X (.Subscript a b pos) (tE X aa ab (op2 bQ fa fb)):=(Rg (ixT c) d f g).imp λ_ _ _ h=>qd h
def jK(n:Bool):G2:=λh p q=>match cz h q with
 | some (.eR t ks,_)=>(ie t p).map λk=>.bl (if n=true then !iz k ks else iz k ks)
 | _=>(CQ h q).bind λc=>(Ik h p c).map λb=>.bl (if n=true then !b else b)
def Uz(r:X.A.units+1150<cLine):uZ X (compareOp .In) (jK false):=by
 rintro J s σ H x y v u Q I d l ⟨aa,ab,F,st,L,M,N,p,e,R,f,m,k⟩
 unfold jK at e;split at e
 ·rename_i t ks T z;obtain⟨kk,e1,rfl⟩:=aZ e;obtain⟨a,Y,rfl,o,Z⟩:=R.at z m;cases l;cases t with
  | false =>
   obtain⟨g,h,i,q⟩:=o;obtain⟨j,rfl,rfl⟩:=iW e1 f;obtain⟨_,hd,us,w,B⟩:=Ep I.hok (.inl h);refine wpAny_in_of (oV d) hd B.mapOf ⟨.bl (gZ g j).isSome,H,I.tok _,?_,k _ H F R (Gr.refl F) (b8.mpr ?_)⟩
   ·rw[(w.val j).uW];rfl
   ·rw[<-i,j8];rfl
  | true =>
   obtain⟨xs,h,i,q,g4⟩:=o;obtain⟨c,rfl,hc⟩:=j7 e1 f;cases d;exact Ym (by lia) I (.inl h) (λz C=>br R.sub (i z C)) (br R.sub hc) λs' D=>⟨.bl _,H,D,rfl,k _ H F R (Gr.refl F) (b8.mpr (by rw[<-q,CV];rfl))⟩
 ·obtain⟨qs,e1,e⟩:=aO e;obtain⟨b,E,rfl⟩:=aZ e;exact(JU r I d l R f m e1 E).1 (k _ H F R (Gr.refl F) (b8.mpr rfl))
def GQ(r:X.A.units+1150<cLine):uZ X (compareOp .NotIn) (jK true):=by
 rintro J s σ H x y v u Q I d l ⟨aa,ab,F,st,L,M,N,p,e,R,f,m,k⟩
 unfold jK at e;split at e
 ·rename_i t ks T z;obtain⟨kk,e1,rfl⟩:=aZ e;obtain⟨a,Y,rfl,o,Z⟩:=R.at z m;cases l;cases t with
  | false =>
   obtain⟨g,h,i,q⟩:=o;obtain⟨j,rfl,rfl⟩:=iW e1 f;obtain⟨_,hd,us,w,B⟩:=Ep I.hok (.inl h);refine wpAny_notIn_of (oV d) hd B.mapOf ⟨.bl (!(gZ g j).isSome),H,I.tok _,?_,k _ H F R (Gr.refl F) (b8.mpr ?_)⟩
   ·rw[(w.val j).uW];rfl
   ·rw[<-i,j8];rfl
  | true =>
   obtain⟨xs,h,i,q,g4⟩:=o;obtain⟨c,rfl,hc⟩:=j7 e1 f;cases d;exact Yn (by lia) I (.inl h) (λz C=>br R.sub (i z C)) (br R.sub hc) λs' D=>⟨.bl _,H,D,rfl,k _ H F R (Gr.refl F) (b8.mpr (by rw[<-q,CV];rfl))⟩
 ·obtain⟨qs,e1,e⟩:=aO e;obtain⟨b,E,rfl⟩:=aZ e;exact(JU r I d l R f m e1 E).2 (k _ H F R (Gr.refl F) (b8.mpr rfl))
end
def JY:G2:=λ_ p q=>match q with | .bB=>some (.bl (!mE p)) | _=>none
def Ow:uZ X (compareOp .IsNot) JY:=by
 rintro a s σ H x y v u Q I b c ⟨g,h,F,st,i,j,l,p,e,R,d,f,k⟩
 unfold JY at e;split at e
 ·cases e;exact NF a s σ H x y v u Q I b c ⟨dv.mp f,k _ H F R (Gr.refl F) (b8.mpr (by rw[Ey d]))⟩
 ·cases e
def CY:CmpOp->Option G2
 | .Eq=>some j5
 | .NotEq=>some Ij
 | .Lt=>some JQ
 | .LtE=>some leO
 | .GtE=>some geO
 | .Is=>some YS
 | .IsNot=>some JY
 | .In=>some (jK false)
 | .NotIn=>some (jK true)
 | _=>none
def kC(a:X.A.units+1150<cLine)(h:CY op=some g):uZ X (compareOp op) g:=by
 have b:∀i j:Int,(λ_ _=>true) i j=true->(λ_ _=>True) i j:=by grind
 cases op<;>cases h
 ·exact Ur a
 ·exact Us a
 ·exact gy (zP X2) b λ_ _ _=>b8.mpr rfl
 ·exact gy (zP X3) b λ_ _ _=>b8.mpr rfl
 ·exact gy (zP X4) b λ_ _ _=>b8.mpr rfl
 ·exact Ut
 ·exact Ow
 ·exact Uz a
 ·exact GQ a
end L2.U
namespace L2
open PySem PySem.Spec PyProof.Rows
section
variable {X:Cx}
def JZ:PE X (.Dict [] [] pos) (Ri (.dK [])):=λa s b H Q I h =>
 wpAny_Dict_empty ⟨.ref s.heap.objs.size,_,I.laid (o:=.dK []) (λ_ _ q=>bf _ q) (az _)
  ⟨fJ _,fu.mpr (dz (bD (rG I))),[],.nil,Heap.DictOf.new s.heap⟩,rfl,h _ (I.hok.fresh (az _))⟩
def YX:V->List V->Hp->VK->Prop:=λx c H Q=>∃a b k y,x=.ref a/\c=[kV k,y]/\H a=some (.dK b)/\b.length<sizeLine/\(∀v,gZ b k=some v->Q v H)/\(gZ b k=none->Q y (cu H a (.dK (b++[(k,y)]))))
def UA:W8 X "dict.setdefault" YX:=by
 intro N s R H x T v Y Q I m p h;obtain⟨a,b,k,y,rfl,rfl,e,r,t,u⟩:=h;cases m;obtain⟨Z,B,rfl,C,g⟩:=p.two;obtain⟨z,hd,D,f,i⟩:=JK I.hok e;refine call_meetsIn IE i.typeIs PySem.F.entry_dict_setdefault (PySem.F.args_dict_setdefault_3 _ _ _) (kt_meets_setdefault (b9 X.prog X.w) a (oV C) hd B) ⟨D,i,by rw[<-f.length];exact z,λw hw=>?_,λE J j L=>?_⟩
 ·have rk:=f.val k;rw[hw]at rk;cases d:gZ b k with
  | none=>rw[d]at rk;exact rk.elim
  | some v0=>rw[d]at rk;exact⟨v0,H,I.tok _,rk,t v0 d⟩
 ·have rk:=f.val k;rw[E]at rk;have d:gZ b k=none:=by
   cases d:gZ b k with
   | none=>rfl
   | some v0=>rw[d]at rk;exact rk.elim
  have l:=f.put k g;rw[JJ y d]at l;have he:∃q,J.get? a=some q:=let ⟨q,_,_,M,_⟩:=j;⟨q,M⟩
  exact⟨y,_,I.write (o:=.dK (b++[(k,y)])) (by rw[e];exact True.intro) (.inl rfl) (λc q' hc z=>(L.2 c hc).trans z) he ⟨by rw[aV];exact r,hd,_,l,j⟩,g,u d⟩
def ED:V->List V->Hp->VK->Prop:=λx a H Q=>∃(l:Addr) (xs:List V) (i:Int) (y:V),x=.ref l/\a=[.int i,y]/\H l=some (.lst xs)/\xs.length<sizeLine/\0<=i/\i<=1000000/\Q .bB (cu H l (.lst (xs.take i.toNat++y::xs.drop i.toNat)))
def UB(c:0<=i)(d:i<=1000000):¬(!Builtin.List.listFitsIndex i)=true:=by
 unfold Builtin.List.listFitsIndex;have a:decide (-(2^63:Int)<=i)=true:=by grind
 have b:decide (i<2^63)=true:=by grind
 rw[a,b];simp
noncomputable def YY(i:Int)(u:Value):Array Value->Array Value:=λa=>have k:=if i<0 then(i+((a.size:Nat):Int)).toNat else min i.toNat a.size;(a.extract 0 k).push u++a.extract k
def Oy(e:0<=i)(a:List Value)(u:Value):YY i u a.toArray=(a.take i.toNat++u::a.drop i.toNat).toArray:=by
 unfold YY;have b:¬i<0:=by lia
 simp only[b,eA];apply Array.ext';simp only[List.extract_eq_drop_take];by_cases c:i.toNat<=a.length
 ·rw[Nat.min_eq_left c];have d:List.take (a.length-i.toNat) (List.drop i.toNat a)=List.drop i.toNat a:=qD (by grind)
  simp[d]
 ·grind
def GR:MtM X "list.insert" ED:=by
 intro m s o H x p v u Q I f g h;obtain⟨l,w,i,y,rfl,rfl,a,B,b,j,q⟩:=h;cases f;obtain⟨C,c,rfl,⟨t,rfl⟩,k⟩:=g.two;obtain⟨z,d,n,r,D,e⟩:=I.gY a;have E:=r.length;have J:=I.N2 (t':=s.toks) a e (Oy b d c) ((r.take i.toNat).append (.cons k (r.drop i.toNat))) (by grind)
 exact lO F.slot_list_insert ⟨_,e,rfl⟩ F.entry_list_insert (F.args_list_insert_3 _ _ _) (@PySem.AutoListH.list_insert_list_int_val_1 l d.toArray n i t c (UB b j) (by grind)) ⟨e,.bB,_,J,rfl,q⟩
def UC(K:W.Frag):V->List V->Hp->VK->Prop:=λx d H Q=>∃l b c a,x=.ref l/\d=[.ref b]/\H l=some (.lst c)/\(gX K H b a\/k9 K H b a)/\c.length+a.length<=sizeLine/\Q .bB (cu H l (.lst (c++a)))
def xx(l:Addr)(c:Array Value)(n:Nat)(b:Addr)(a:Array Value)(f:Nat)(i:Option Addr)(j:Array (Option Value))(o:¬(!c.isEmpty&&Builtin.List.listTooLong (c.size+a.size))=true)(h1:c.size<=sizeLine)(k:c.size+a.size<=sizeLine+1) :
  Meets (Builtin.«list.extend» ⟨[.ref l,.ref b],[]⟩) (λ_ R s=>s.heap.get? l=some {cls:=.type "list",dict:=none,data:=.seq c n,slots:=#[]}/\s.heap.get? b=some {cls:=.type "tuple",dict:=i,data:=.seq a f,slots:=j} /\
   R (.ok (.ret Value.none)) {s with heap:=s.heap.update l (Obj.mapSeq λx=>x++a),toks:=s.toks}) :=
 .of_wp λprog w A R s h=>by
  obtain⟨hp,g,d,p,q⟩:=s;obtain⟨e,m,h⟩:=h;have r:=AutoSeq1.idx_int;have t:=AutoSeq1.sub_tuple_tuple;have u:=AutoSeq1.sub_list_list;have v:=AutoSeq1.sub_tuple_list;have y:=AutoSeq1.sub_list_tuple
  wp_walk using (wpAny_updateSeq e rfl (_hz':=(by rw[Array.size_append];exact k))),jT e,jT m
  exact⟨_,rfl,h⟩
def UD:MtM X "list.extend" (UC X.K):=by
 intro y s B H x Y v Z Q I C D h;obtain⟨l,b,xs,E,rfl,rfl,t,f,hz,q⟩:=h;cases C;obtain⟨u,rfl,J⟩:=D.one;cases J;obtain⟨z,c,n,r,hl,e⟩:=I.gY t;have w:∀a,Vals E a->(¬(!c.toArray.isEmpty&&Builtin.List.listTooLong (c.toArray.size+a.toArray.size))=true/\c.toArray.size<=sizeLine/\c.toArray.size+a.toArray.size<=sizeLine+1) /\
   EP X y B Q Value.none {s with heap:=s.heap.update l (Obj.mapSeq λx=>x++a.toArray),toks:=s.toks}:=λa d=>by
  have L:=d.length;have g:c.toArray.size+a.toArray.size<=sizeLine:=by grind
  refine⟨⟨?_,by grind,(Nat.le_add_right_of_le ‹_›)⟩,.bB,_,I.N2 t e (by simp) (r.append d) (by grind),rfl,q⟩
  rw[JF g,Bool.and_false];exact dh
 rcases f with f | f
 ·obtain⟨a,d,⟨⟨M,N,R,T⟩,i,hc,j,hd⟩,_⟩:=I.tuple f;simp only at hc hd;subst hc hd;obtain⟨⟨k,m,o⟩,p⟩:=w a d;exact lO F.slot_list_extend ⟨_,e,rfl⟩ F.entry_list_extend (F.args_list_extend_2 _ _) (xx l c.toArray n b a.toArray j N T k m o) ⟨e,i,p⟩
 ·obtain⟨a,j,d,i,_⟩:=I.Et f;obtain⟨⟨k,m,o⟩,p⟩:=w a d;exact lO F.slot_list_extend ⟨_,e,rfl⟩ F.entry_list_extend (F.args_list_extend_2 _ _) (AutoSeq1.list_extend_list_list_0 l c.toArray n b a.toArray j k m o) ⟨e,i,p⟩
def EE(kvs:List (bh×V))(k:bh)(v:V):(putK kvs k v).length<=kvs.length+1:=by
 unfold putK;split
 ·grind
 ·grind
def YZ:Jj:=λo i v H Q=>∃a b k,o=.ref a/\i=kV k/\H a=some (.dK b)/\b.length<sizeLine/\Q (cu H a (.dK (putK b k v)))
def UG:Jk X YZ:=by
 rintro w s σ H o i v x y u Q I g h j ⟨a,b,k,ex,l,e1,B,q⟩
 subst ex l;cases g;obtain⟨z,hd,C,e,m⟩:=JK I.hok e1;refine wpAny_setItem_pairs (oV h) m (λp f d=>?_) (by rw[<-e.length];exact z)
 have r:=e.put k j;have he:∃q,p.get? a=some q:=let ⟨q,_,_,t,_⟩:=f;⟨q,t⟩
 exact⟨_,I.write (o:=.dK (putK b k v)) (by rw[e1];exact True.intro) (.inl rfl) (λc D hc z=>(d.2 c hc).trans z) he ⟨by have:=EE b k v;lia,hd,_,r,f⟩,q⟩
def Y0(K:W.Frag):Jj:=λo i v H Q=>∃a b c k,o=.ref a/\i=.ref b/\H a=some (.dT c)/\eQ K H c/\gX K H b (k.map kV)/\c.length<sizeLine/\∀r,RelV v r->Q (cu H a (.dT (storedH c k b r)))
def UH(c:X.A.units+1<cLine):Jk X (Y0 X.K):=by
 rintro p s σ H o i v r t u Q I d e f ⟨a,b,xs,k,ex,g,e1,h,j,l,q⟩
 subst ex g;cases d;cases e;exact T7 c I e1 h j l λw m=>⟨_,m,q u f⟩
end
end L2
namespace L2.U
open PySem PySem.Spec PyProof.Rows
abbrev MG:=ak->List PV->Option (ak×PV)
def iA(h:List ak):PV->Option (Nat×ak)
 | .ref n=>(h[n]?).bind λc=>if live c=true then some (n,c)else none
 | _=>none
def eZ(e:iA h p=some (n,c)):p=.ref n/\h[n]?=some c/\live c=true:=by
 cases p with
 | ref m =>
  obtain⟨d,e1,a⟩:=aO e;obtain⟨b,f⟩:=aF a;cases f;exact⟨rfl,e1,b⟩
 | _=>cases e
def iB(g:MG)(p:PV)(as:List PV):Gx PV:=λa=>(iA a.h p).bind λc=>(g c.2 as).map λr=>(.ok r.2,⟨a.ρ,a.h.set c.1 r.1⟩)
section
variable {X:Cx} {aa H:Hp} {ab F:Fz} {st:cy} {σ:St}
def zV(K:W.Frag)(r:V->List V->Hp->VK->Prop)(g:MG):Prop:=∀(aa H:Hp) (ab F:Fz) (st:cy) (σ:St) (n:Nat) (c d:ak) (a:Addr) (as:List PV) (ws:List V) (q:PV) (Q:VK),
 Rep K aa ab F st σ H->st.h[n]?=some c->live c=true->F.μ[n]?=some a->g c as=some (d,q)->aA K F as ws->(∀v b e,Rep K aa ab b ⟨st.ρ,st.h.set n d⟩ σ e->Gr F b->bO K b q v->Q v e)->r (.ref a) ws H Q
def Rep.put(R:Rep X.K aa ab F st σ H){c d:ak}(hc:st.h[n]?=some c)(b:live c=true)(e:F.μ[n]?=some a)(f:kL X.K F.F (cu H a o) a true d.k vs)(g:aA X.K F d.ps vs) :
  Rep X.K aa ab F ⟨st.ρ,st.h.set n d⟩ σ (cu H a o):=⟨R.c.write hc b e f g,R.l⟩
noncomputable def gY(f:List PV->List PV->Option (List PV)):MG:=λc as=>match c.k with
 | .lst=>(f c.ps as).map λa=>(⟨.lst,a⟩,.bB)
 | _=>none
def xy
  (h:∀(H:Hp) (F:Fz) (ps as b:List PV) (vs ws:List V) (a:Addr) (Q:VK) (h:List ak),cL F.F H->f ps as=some b->H a=some (.lst vs)->aA X.K F ps vs->aA X.K F as ws->(∀e,aA X.K F b e->Q .bB (cu H a (.lst e)))->r (.ref a) ws H Q):zV X.K r (gY f):=by
 intro aa H ab F st σ n c t a as ws q Q R hc g i d l k;unfold gY at d;split at d
 ·rename_i hk;obtain⟨b,e1,m⟩:=aZ d;cases m;obtain⟨_,vs,j,o⟩:=R.c.cell n c a hc i g;rw[hk]at j;exact h H F c.ps as b vs ws a Q st.h R.sub e1 j o l λe p=>k _ F _ (R.put hc g i aB p) (Gr.refl _) (dv.mpr rfl)
 ·cases d
def xA:List PV->List PV->Option (List PV):=λa as=>match as with | [p]=>if a.length<fL then some (a++[p])else none | _=>none
def Oz:zV X.K Eo (gY xA):=xy λH F j as l f ws a Q h m c g d e k=>by
 unfold xA at c;split at c
 ·obtain⟨i,rfl⟩:=aF c;obtain⟨v,rfl,b⟩:=dJ e;exact⟨a,f,v,rfl,rfl,g,by rw[<-d.length];exact b7 i (fA (az _)),k _ (d.append e)⟩
 ·cases c
def OA:List PV->List PV->Option (List PV):=λa as=>match as with | []=>some a.reverse | _=>none
def OB:zV X.K zH (gY OA):=xy λH F g as i c ws a Q h j b d e f k=>by
 unfold OA at b;split at b
 ·cases b;exact⟨a,c,rfl,f.cX,d,k _ e.reverse⟩
 ·cases b
def J0:List PV->List PV->Option (List PV):=λa as=>match as with
 | [.int i,p]=>if(0<=i/\i<=1000000/\a.length<fL)then some (a.take i.toNat++p::a.drop i.toNat)else none
 | _=>none
def OC:zV X.K ED (gY J0):=xy λH F o as p d ws a Q h q b e c f k=>by
 unfold J0 at b;split at b
 ·obtain⟨⟨g,i,j⟩,rfl⟩:=aF b;obtain⟨r,l,rfl,m,b2⟩:=js f;rw[aE.mp m];exact⟨a,d,_,l,rfl,rfl,e,b7 (by rw[<-c.length];exact j) (fA (az _)),g,i,k _ ((c.take _).append (.cons b2 (c.drop _)))⟩
 ·cases b
def zW(p:PV)(as:List PV):Gx PV:=λst=>match as with
 | [q]=>(CQ st.h q).bind λa=>iB (gY λb _=>if b.length+a.length<=fL then some (b++a)else none) p [] st
 | _=>none
def zX:MG:=λc as=>match c.k,as with
 | .eR false ks,[a,y]=>(ie false a).bind λk=>if ks.length<fL then(if iz k ks=true then(eY k ks c.ps).map λp=>(c,p)else some (⟨.eR false (ks++[k]),c.ps++[y]⟩,y))else none
 | _,_=>none
def OD:zV X.K YX zX:=by
 intro aa H ab F st σ n c M a as ws q Q R hc t u f B k;unfold zX at f;split at f
 ·rename_i ks N y hk;obtain⟨kk,e1,d⟩:=aO f;obtain⟨T,d⟩:=bM d;obtain⟨Y,g,rfl,C,b2⟩:=js B;obtain⟨j,rfl,rfl⟩:=iW e1 C;obtain⟨_,vs,m,o⟩:=R.c.cell n c a hc u t;have D:=m;rw[hk]at m;obtain⟨b,E,r,I⟩:=m;rw[<-I]at o;refine⟨a,b,j,g,rfl,rfl,E,(by
   have:ks.length=b.length:=by grind
   exact b7 (by grind) (fA (az _))),λv l=>?_,λl=>?_⟩
  ·rw[if_pos (by rw[<-r,j8,l];rfl)]at d
   obtain⟨p,w,J⟩:=aZ d;cases J;rw[<-r]at w;obtain⟨Z,x,L⟩:=qe w o;rw[l]at x;cases x;have e:st.h.set n c=st.h:=by
    apply List.ext_getElem?;intro i;by_cases hi:n=i
    ·grind
    ·grind
   rw[e]at k;exact k v F H R (Gr.refl _) L
  ·rw[if_neg (by rw[<-r,j8,l];simp)]at d
   cases d;refine k g F _ (R.put (vs:=b.map (·.2)++[g]) hc t u ⟨b++[(j,g)],aB,by grind⟩ ?_) (Gr.refl _) b2
   exact o.append (.cons b2 .nil)
 ·cases f
def Tx.mut(b:zV X.K r g)(h:Tx X aa ab (bO X.K) F st (iB g p as) σ Q)(R:Rep X.K aa ab F st σ H)(d:bO X.K F p v)(e:aA X.K F as ws):r v ws H Q:=by
 obtain⟨q,f,i⟩:=h;obtain⟨⟨n,c⟩,e1,j⟩:=aO f;obtain⟨⟨k,x⟩,l,m⟩:=aZ j;subst m;obtain⟨rfl,hc,o⟩:=eZ e1;obtain⟨a,t,rfl⟩:=c9.mp d;exact b aa H ab F st σ n c k a as ws x Q R hc o t l e λv u w y B C=>i v w u y B C
def Tx.ext{Q:VK}(h:Tx X aa ab (bO X.K) F st (zW p as) σ Q)(R:Rep X.K aa ab F st σ H)(l:bO X.K F p v)(m:aA X.K F as ws):UC X.K v ws H Q:=by
 obtain⟨x,d,o⟩:=h;unfold zW at d;split at d
 ·rename_i q;obtain⟨M,r,d⟩:=aO d;obtain⟨w,rfl,t⟩:=dJ m;obtain⟨b,u,rfl,B,f⟩:=R.seq r t;obtain⟨⟨n,c⟩,e1,C⟩:=aO d;obtain⟨⟨N,y⟩,e,D⟩:=aZ C;subst D;obtain⟨rfl,hc,g⟩:=eZ e1;obtain⟨a,i,rfl⟩:=c9.mp l;unfold gY at e;split at e
  ·rename_i hk;obtain⟨T,E,I⟩:=aZ e;cases I;obtain⟨J,rfl⟩:=aF E;obtain⟨_,L,j,k⟩:=R.c.cell n c a hc i g;rw[hk]at j;exact⟨a,b,L,u,rfl,rfl,j,B,by rw[<-k.length,<-f.length];exact fA J,o .bB _ F (R.put hc g i aB (k.append f)) (Gr.refl _) (dv.mpr rfl)⟩
  ·cases e
 ·cases d
end
section
variable {prog:Program} {w:World} {A:Around} {R:Result->Shared->Prop} {s:Shared}
abbrev nb(prog:Program)(w:World)(A:Around)(a:Env)(R:Result->Shared->Prop):Value->Shared->Prop:=notedBy (model prog w) A a λe b=>R (.error e) b
noncomputable abbrev EF(b:List Expr)(a:Env):Sem Bool:=forIn b true λc r=>if r=true then do let ok <-isTrue c a (eval c a);pure (ForInStep.yield ok)else pure (ForInStep.yield r)
def GS(I:Nat->Shared->Prop)
  (lQ:∀n s,I n s->wpAny (model prog w) A (pyNext it) (λr s1=>match r with
   | none=>R (.ok .next) s1
   | some v=>wpAny (model prog w) A (letOwnedTupleGo d it v) (λ_ a=>wpAny (model prog w) A (assign d env v) (λ_ s2=>wpAny (model prog w) A (EF ifs env) (λok b =>
      if ok=true then wpAny (model prog w) A (eval elt env) (λx e=>wpAny (model prog w) A (call (.builtin "list.append") [acc,x]) (λ_ f=>∃m,m<n/\I m f) (nb prog w A env R) e) (nb prog w A env R) b
      else ∃m,m<n/\I m b) (nb prog w A env R) s2) (nb prog w A env R) a) (nb prog w A env R) s1) (nb prog w A env R) s)
  (n:Nat) (h:I n s):codeAny (model prog w) A (.compLoop (.ListComp elt [⟨d,iter,ifs,0⟩] scope pos) 0 it acc env) R s:=by
 refine codeAny_loop rfl I (λn s j=>?_) n h
 refine wpAny_noted ?_;rw[compTurn_list];refine ag (wpAny_standAt (ag (thn (lQ n s j) λr s1 g=>?_)))
 cases r with
 | none=>exact aw g
 | some v =>
  refine ag (thn g λ_ a c=>ag (thn c λ_ s2 k=>ag (thn k λok b i=>?_)))
  cases ok with
  | false=>exact aw ⟨rfl,i⟩
  | true=>exact ag (ag (thn i λx e l=>ag (thn l λ_ f o=>aw (aw ⟨rfl,o⟩))))
end
noncomputable def j9(a:Env):List (Str×NameKind)->List (Str×Addr)->List (Str×Addr)
 | [],cs=>cs
 | (n,k)::r,cs=>j9 a r (if k==.free then(match a.cells.lookup n with | some c=>(n,c)::cs | none=>cs)else cs)
def rX(h:∀y∈scope.names,y.2=.free->∃c,env.cells.lookup y.1=some c):closureFor scope env=pure (j9 env scope.names []):=by
 have all:∀(l:List (Str×NameKind)) (cs:List (Str×Addr)),(∀y∈l,y.2=.free->∃c,env.cells.lookup y.1=some c) ->
   (forIn l cs λx r=>(match x with | (name,kind)=>if(kind==NameKind.free)=true then do let a <-cellOf env name;pure (ForInStep.yield ((name,a)::r))else pure (ForInStep.yield r):Sem (ForInStep (List (Str×Addr)))))=pure (j9 env l cs):=by
  intro l;induction l with
  | nil=>intro cs _;rfl
  | cons y l ih =>
   intro cs b;obtain⟨n,k⟩:=y;rw[List.forIn_cons];by_cases hk:k=.free
   ·subst hk;obtain⟨c,hc⟩:=b (n,.free) aJ rfl;have e:=hc;have e1:cellOf env n=pure c:=by unfold cellOf;rw[e]
    simp only[e1,j9,e];exact ih _ λy d=>b y (aH _ d)
   ·have f:(k==NameKind.free)=false:=by simpa using hk
    simp only[f,j9];exact ih _ λy d=>b y (aH _ d)
 unfold closureFor;have:=all scope.names [] h;simp only[bind_pure]at this ⊢;exact this
theorem zY:∀(l:List (Str×NameKind)) (cs:List (Str×Addr)) (p:Str×Addr),p∈j9 env l cs->p∈cs\/env.cells.lookup p.1=some p.2
 | [],_,_,h=>.inl h
 | (n,k)::r,cs,p,h=>by
  unfold j9 at h;rcases zY r _ p h with q | q
  ·grind
  ·grind
def cf(h:(j9 env l []).lookup x=some c):env.cells.lookup x=some c:=by
 rcases zY l [] (x,c) (eu h)with q | q
 ·cases q
 ·exact q
theorem u7:∀(l:List (Str×NameKind)) (cs:List (Str×Addr)),(∃c,(x,c)∈cs)->∃c,(x,c)∈j9 env l cs
 | [],_,h=>h
 | (n,k)::r,cs,⟨c,h⟩=>by
  unfold j9;refine u7 r _ ⟨c,?_⟩;split
  ·grind
  ·exact h
theorem ka:∀(l:List (Str×NameKind)) (cs:List (Str×Addr)),(x,NameKind.free)∈l->(∃c,env.cells.lookup x=some c)->∃c,(x,c)∈j9 env l cs
 | [],_,h,_=>by cases h
 | (n,k)::r,cs,h,hc=>by
  unfold j9;rcases aK.mp h with z | z
  ·cases z;obtain⟨c,e⟩:=hc;refine u7 r _ ⟨c,?_⟩;simp[e]
  ·exact ka r _ z hc
theorem iC:∀{l:List (Str×Addr)},(x,c)∈l->∃a,l.lookup x=some a
 | [],h=>by cases h
 | (n,d)::r,h=>by
  rw[jW];cases b:x==n with
  | true=>exact⟨d,rfl⟩
  | false =>
   rcases aK.mp h with z | z
   ·grind
   ·exact iC z
def cU(X:Cx)(N:List Str)(a:Scope)(C:Addr)(s:Shared)(H:Hp)(b:List Addr):Cx where
 prog:=X.prog
 w:=X.w
 K:=X.K
 mg:=X.mg
 base:=X.base
 A:=X.A
 N:=N
 s₀:=s
 aa:=H
 env:=compEnvC a (j9 X.env a.names []) C X.env
 ay:=X.stack
 stack:=X.stack
 ex:=b
 fn:=λ_=>false
 calm:=X.calm
 pn:=[]
 xe:=λ_ _=>False
theorem gQ{a:Env}:∀(b:List (Str×NameKind)) (x:Str),(b.map fun(n,k)=>if(k==NameKind.free&&a.scope.kind==.function&&a.kindOf n==some .cell)then(n,NameKind.cell)else(n,k)).lookup x =
  (b.lookup x).map λk=>if(k==NameKind.free&&a.scope.kind==.function&&a.kindOf x==some .cell)then NameKind.cell else k
 | [],_=>rfl
 | (n,j)::r,x=>by
  have e:(if(j==NameKind.free&&a.scope.kind==.function&&a.kindOf n==some .cell)=true then(n,NameKind.cell)else(n,j))=(n,if(j==NameKind.free&&a.scope.kind==.function&&a.kindOf n==some .cell)=true then NameKind.cell else j):=by split<;>rfl
  show List.lookup x ((if(j==NameKind.free&&a.scope.kind==.function&&a.kindOf n==some .cell)=true then(n,NameKind.cell)else(n,j))::_)=_
  rw[e,jW,jW];cases c:x==n with
  | true =>
   have d:=aY c;subst d;rfl
  | false=>exact gQ r x
def mL{b:Env}{a:List (Str×NameKind)}(h:(a.map fun(n,k)=>if(k==NameKind.free&&b.scope.kind==.function&&b.kindOf n==some .cell)then(n,NameKind.cell)else(n,k)).lookup x=some k) :
  a.lookup x=some k\/(k=.cell/\a.lookup x=some .free):=by
 rw[gQ]at h;cases z:a.lookup x with
 | none=>rw[z]at h;cases h
 | some j =>
  rw[z]at h;have h:(if(j==NameKind.free&&b.scope.kind==.function&&b.kindOf x==some .cell)=true then NameKind.cell else j)=k:=by grind
  split at h
  ·grind
  ·grind
def xB{b:Env}{a:List (Str×NameKind)}(h:a.lookup x=some .free) :
  (a.map fun(n,k)=>if(k==NameKind.free&&b.scope.kind==.function&&b.kindOf n==some .cell)then(n,NameKind.cell)else(n,k)).lookup x=some .cell \/
  (a.map fun(n,k)=>if(k==NameKind.free&&b.scope.kind==.function&&b.kindOf n==some .cell)then(n,NameKind.cell)else(n,k)).lookup x=some .free:=by
 rw[gQ,h];show some (if _ then _ else _)=_\/some (if _ then _ else _)=_
 split
 ·grind
 ·grind
structure iX (X:Cx) (N:List Str) (link:List (Option Nat)) (scope:Scope):Prop where
 kind:scope.kind=.function
 cell:∀y∈scope.names,y.2≠.cell
 names:∀y∈scope.names,y.2=.local->scope.names.lookup y.1=some .local
 free:∀y∈scope.names,y.2=.free->(X.env.kindOf y.1=some .cell\/X.env.kindOf y.1=some .free)
 len:link.length=N.length
 link:∀(i j:Nat) (x:Str),link[i]?=some (some j)->N[i]?=some x->X.N[j]?=some x/\scope.names.lookup x=some .free
noncomputable def gu(link:List (Option Nat))(a:St):St:=link.map λo=>o.bind λj=>(a[j]?).join
section
variable {X:Cx} {ae:List (Addr×Obj)} {σ:St} {H:Hp} {s:Shared}
def Inv.adopt(I:Inv X ae σ H s)(f:H D=none)(h1:X.s₀.heap.objs.size<=D)(g:D≠X.env.locals)(h:∀x c,X.env.cells.lookup x=some c->c≠D)(j:∀p∈X.pn++ae,p.1≠D)
  (ho:fG X.prog X.w (cu H D o) s.heap D o):Inv X ae σ (cu H D o) s:=by
 have ne:∀b u,H b=some u->b≠D:=λb u e z=>by rw[z,f]at e;cases e
 refine I.step (ch:=[D]) (λb a=>?_) (λb u _ _ _ e _=>e) (λb u _ _ _ e _=>⟨u.slots,e⟩) (λb u hc _ n=>?_) (λb u _ e=>⟨u,e⟩)
  (λb d e=>by rw[aI (ne b _ e)];exact e) (λb u d e=>by rw[aI (ne b _ e)];exact e) (λb l e=>by rw[aI (ne b _ e)];exact e) (λm k=>k) (λb u e=>?_) I.bare
 ·have e:b=D:=by simpa using a
  subst e;exact⟨.inr h1,g,h,j⟩
 ·rw[aI (λz=>hc (by simp[z]))];exact n
 ·by_cases a:b=D
  ·subst a;rw[aB]at e;cases e;exact ho
  ·rw[aI a]at e;exact(I.hok b u e).wY (λ_ _ _ q=>q) (λc q=>by rw[aI (ne c _ q)];exact q) (λc d q=>by rw[aI (ne c _ q)];exact q) λc r v q=>by rw[aI (ne c _ q)];exact q
def CZ{N:List Str}{link:List (Option Nat)}(S:iX X N link scope)(I:Inv X ae σ H s)(g:∀b∈M,xb X ae H b)
  (E:s.heap.objs.size<=C) (Y:h.Ns C λ_=>none) (hk:∀b o,s.heap.get? b=some o->h.get? b=some o) (J:∀b∈M,∃o,s.heap.get? b=some o) :
  Inv (cU X N scope C s H M) [] (gu link σ) H {s with heap:=h,toks:=tk}:=by
 have Q:∀y∈scope.names,y.2=.free->∃c,X.env.cells.lookup y.1=some c:=λy Z t=>I.ok.has y.1 (S.free y Z t)
 have ac5:∀x c,X.env.cells.lookup x=some c->c<s.heap.objs.size:=λx c e=>let ⟨v,o,ho,_⟩:=I.cell x c e;aX ho
 refine⟨⟨I.ok.mod,S.kind,I.ok.glob,I.ok.blt,E,λx y c B h2=>I.ok.inj x y c (cf B) (cf h2),λx L=>?_,λx c L=>(by cases L),I.ok.hd,I.ok.frames,.inl rfl,λb k=>⟨?_,λx c e=>(g b k).2.2.2.2.1 x c (cf e)⟩,I.bs,bP I.ok.bsz I.sz,
  λb o e k=>?_,λb k z=>?_,I.stack,I.w6,I.tabs⟩,rfl,I.bare,Un.kept hk,⟨_,Y,λi x v e1 f e3=>?_⟩,λx c e=>?_,I.hok.fresh E,λx c e=>I.freeC x c (cf e),λp hp=>(by cases hp),I.hok.kept hk,by unfold gu;rw[aj];exact S.len⟩
 ·-- QR cells are there
  have CP:=L;have t:scope.names.lookup x=some .free:=by
   rcases CP with B | B
   ·rcases mL B with q | ⟨_,q⟩
    ·exact absurd rfl (S.cell _ (eu q))
    ·exact q
   ·rcases mL B with q | ⟨z,_⟩
    ·exact q
    ·cases z
  have w:=eu t;obtain⟨c,hc⟩:=ka scope.names [] w (Q _ w rfl);exact iC hc
 ·intro z;obtain⟨o,ho⟩:=J b k;exact absurd (b7 (aX ho) (bP E (jY z.symm))) (gI _)
 ·rcases(g b k).2.2.2.1 with z | z
  ·exact I.ok.noex b o e z
  ·exact absurd (b7 (aX e) (bP I.ok.bsz z)) (gI _)
 ·rcases aK.mp (I.wZ b z)with q | q
  ·exact(g b k).2.1 q
  ·exact(g b k).2.2.1 q
 ·-- a slot: aeR over from QR ac6
  have R:i<link.length:=by
   have:=(bj.mp f).1;unfold gu at this
   rwa [aj]at this
  unfold gu at f;rw[bz,bC R]at f;have f:=bI f;cases z:link[i]with
  | none=>rw[z]at f;cases f
  | some j =>
   rw[z]at f;have f:(σ[j]?).join=some v:=f;obtain⟨hX,t⟩:=S.link i j x (by rw[bC R,z]) e1
   have w:=eu t;have D:=S.free _ w rfl;obtain⟨m,hn,hl⟩:=I.loc;obtain⟨u,r,l⟩:=hl j x v hX (by
    cases q:σ[j]? with
    | none=>rw[q]at f;cases f
    | some q'=>rw[q]at f;cases q' with
     | none=>cases f
     | some v'=>cases f;rfl) (by rcases D with q | q;exact .inr (.inl q);exact .inr (.inr q))
   refine⟨u,r,.inr ⟨xB t,?_⟩⟩;obtain⟨c,hc⟩:=ka scope.names [] w (Q _ w rfl);obtain⟨c',T⟩:=iC hc;refine⟨c',T,?_⟩;rcases l with⟨lk,_⟩ | ⟨_,d,hd,j0⟩
   ·rcases D with q | q<;>(rw[show X.env.kindOf x=some .local from lk]at q;cases q)
   ·have:=cf T;rw[hd]at this;cases this;exact j0.keeps hk
 ·obtain⟨v,o,ho,hd⟩:=I.cell x c (cf e);exact⟨v,o,hk _ _ ho,hd⟩
end
abbrev TB:=V->St->Hp->(Option V->St->Hp->Prop)->Prop
def PB(X:Cx)(h:Expr)(c:List Expr)(d:Expr)(i:TB):Prop :=
 ∀(e:List (Addr×Obj)) (s:Shared) (σ:St) (H:Hp) (v:V) (u:Value) (Q:Option V->St->Hp->Prop),Inv X e σ H s->RelV v u->i v σ H Q ->
  wpAny (model X.prog X.w) X.A (assign h X.env u) (λ_ j=>wpAny (model X.prog X.w) X.A (EF c X.env) (λok f =>
   if ok=true then wpAny (model X.prog X.w) X.A (eval d X.env) (λy k=>∃g a b,Inv X e a b k/\RelV g y/\Q (some g) a b) X.xe f
   else ∃a b,Inv X e a b f/\Q none a b) X.xe j) X.xe s
def J1(f:PG X i g)(he:PE X elt j):PB X i [] elt (λv b H Q=>g v b H λa c=>j a c λy d=>Q (some y) a d):=by
 intro e s b H v u Q I r h;refine thn (f e s b H v u _ I r h) λ_ s2 ⟨a,c,k,l⟩=>aw ?_
 rw[if_pos rfl];exact thn (he e s2 a c _ k l) (by rintro y s4 ⟨m,d,o,p,q⟩;exact⟨m,a,d,o,p,q⟩)
def OF(m:PG X o g)(hc:PT X c p)(he:PE X elt q) :
  PB X o [c] elt (λv f H Q=>g v f H λa i=>p a i λb d=>if b=true then q a d λy j=>Q (some y) a j else Q none a d):=by
 intro k s f H v u Q I r h;refine thn (m k s f H v u _ I r h) λ_ s2 ⟨a,i,t,w⟩=>?_
 refine wpAny_tests_one (thn (hc k s2 a i _ t w) λb s3 ⟨d,l,e⟩=>?_)
 cases b with
 | true =>
  rw[if_pos rfl]at e ⊢;exact thn (he k s3 a d _ l e) (by rintro y s4 ⟨x,j,B,C,D⟩;exact⟨x,a,j,B,C,D⟩)
 | false =>
  rw[if_neg dh]at e ⊢;exact⟨a,d,l,e⟩
def u9(link:List (Option Nat))(g:TI)(h:TB):TE:=λc H Q=>g c H λJ j=>∃W:Nat->Nat->List V->St->Hp->Prop,(∃m,W 0 m [] (gu link c) j)/\∀i m a d b,W i m a d b ->
 (J.stop i b/\a.length<=sizeLine/\∀D,b D=none->Q (.ref D) (cu b D (.lst a))) \/
 (J.go i b/\a.length<sizeLine/\∀x e,J.yld i b x e->h x d e λo k l=>∃f,f<m/\W (i+1) f (a++o.toList) k l)
structure ac7 (X:Cx) (ae:List (Addr×Obj)) (H:Hp) (C:Addr):Prop where
 free:H C=none
 above:X.s₀.heap.objs.size<=C
 loc:C≠X.env.locals
 cell:∀x c,X.env.cells.lookup x=some c->c≠C
 pin:∀p∈X.pn++ae,p.1≠C
def vb(hc:X.calm=true)(S:iX X N link scope)(hi:PI X tg iter wi)
  (hb:∀(C:Addr) (s:Shared) (H:Hp) (g:List Addr),PB (cU X N scope C s H g) tg ifs elt tb) (hs:∀x,foldedSetIterable iter X.env x=pure x) (I:Inv X ae σ H s) (h:u9 link wi tb σ H Q)
  (ac8:∀(s5:Shared) (D C:Addr) (H5:Hp) (m:Str->Option Value),Inv X ae σ H5 s5->Q (.ref D) H5->s5.heap.Ns C m->ac7 X ae H5 C->compPost (model X.prog X.w) X.A X.xe use Q' (.ref D) C (.ok .next) s5) :
  wpAny (model X.prog X.w) X.A (comprehension (.ListComp elt [⟨tg,iter,ifs,0⟩] scope pos) scope X.env ub (newList []) false (eval iter X.env) use) Q' X.xe s:=by
 have zw:∀y∈scope.names,y.2=.free->∃c,X.env.cells.lookup y.1=some c:=λy hy hf=>I.ok.has y.1 (S.free y hy hf)
 refine wpAny_comprehension_free rfl hs (rX zw) S.kind S.names (thn (hi ae s σ H _ I h) λv s1 h1=>thn h1 λitv f h2=>?_)
 obtain⟨it,g,tn,J,k,rfl,t,T,eX,f2,W,⟨m0,w0⟩,lQ⟩:=h2;refine gF (wpAny_newFunctionEnv S.cell (by grind) (λl ns sb=>?_) S.kind)
 dsimp only at ns sb ⊢
 generalize hD:f.heap.push {cls:=.type "list",dict:=none,data:=.seq [].toArray}=HD at ns sb ⊢
 have hC:HD.objs.size=f.heap.objs.size+1:=by rw[<-hD,Heap.size_push]
 have M:f.heap.objs.size≠HD.objs.size:=by grind
 have J2:f.heap.objs.size<=HD.objs.size:=by grind
 have old:∀b o,f.heap.get? b=some o->l.get? b=some o:=λb o e=>by
  have eS:=aX e;exact sb.extBut b o (bD (b7 eS J2)) (bf _ (by rw[<-hD];exact bf _ e))
 have ac9:l.get? f.heap.objs.size=some {cls:=.type "list",data:=.seq [].toArray} :=
  sb.extBut _ _ M (bf _ (by rw[<-hD];exact cP _ rfl))
 generalize L:f.heap.objs.size=D at *
 generalize eC:HD.objs.size=C at *
 have exO:∀b∈g,∃o,f.heap.get? b=some o:=λb a=>let ⟨o,e,_⟩:=T.obj _ _ eX b a;⟨o,e⟩
 have I3:∀tk,Inv (cU X N scope C f k g) [] (gu link σ) k {f with heap:=l,toks:=tk}:=λtk =>
  CZ S t f2 (by rw[L];exact J2) ns old exO
 have fpD:∀b∈g,b≠D:=λb a z=>by
  obtain⟨o,e⟩:=exO b a;have:=aX e;rw[z,<-L]at this;exact gI _ this
 have Cv:∀{H':Hp} {pl:List (Addr×Obj)},(∀b∈g,H' b=none)->(∀p∈pl,p.1=D)->∀b∈g,xb (cU X N scope C f k g) pl H' b:=λ{H' pl} hn hp b a=>by
  have K0:=(I3 0).ok.exf b a;exact⟨hn b a,K0.1,(I3 0).ok.exfs b a,.inl a,K0.2,λp J3 z=>fpD b a (z▸hp p (by simpa[cU]using J3))⟩
 have Y1:∀x c,(cU X N scope C f k g).env.cells.lookup x=some c->c≠D:=λx c e z=>by
  obtain⟨v,o,ho,_⟩:=t.cell x c (cf e);have:=aX ho;rw[z,<-L]at this;exact gI _ this
 have fsD:D∉(cU X N scope C f k g).fs:=λz=>by
  obtain⟨_,o,ho,_⟩:=t.stack.mem z;have:=aX ho;rw[<-L]at this;exact gI _ this
 have loop:∀s3:Shared,s3={f with heap:=l,toks:=f.toks+([]:List (Str×Value)).length} ->
   codeAny (model X.prog X.w) X.A (.compLoop (.ListComp elt [⟨tg,iter,ifs,0⟩] scope pos) 0 (.ref it) (.ref D) (cU X N scope C f k g).env) (compPost (model X.prog X.w) X.A X.xe use Q' (.ref D) C) s3:=by
  rintro s3 rfl
  refine GS (λn s'=>∃i E bJ H' j B,Inv (cU X N scope C f k g) [] bJ H' s'/\tn i s'.heap/\(∀b∈g,H' b=none)/\H' D=none/\s'.heap.get? D=some {cls:=.type "list",data:=.seq j.toArray B}/\Vals E j/\W i n E bJ H') ?_ m0
   ⟨0,[],_,k,[],0,I3 _,T.keep _ _ _ eX λb a o e=>old b o e,λb a=>(f2 b a).1,t.hok.fresh (jY L),ac9,.nil,w0⟩
  rintro n s4 ⟨i,E,Oi,H4,j,B,I4,Ii,fr4,hD4,JG,hv,w4⟩
  have Y2:Inv (cU X N scope C f k g) [(D,{cls:=.type "list",data:=.seq j.toArray B})] Oi H4 s4:=I4.mj λp hp=>by
   have e:p=(D,{cls:=.type "list",data:=.seq j.toArray B}):=by simpa using hp
   subst e;exact⟨JG,hD4,M,fsD,λv=>by simp⟩
  have J4:∀p∈[(D,({cls:=.type "list",data:=.seq j.toArray B}:Obj))],p.1=D:=λp hp=>by
   have e:p=(D,{cls:=.type "list",data:=.seq j.toArray B}):=by simpa using hp
   rw[e]
  rcases lQ i n E Oi H4 w4 with⟨stop,hz,q⟩ | ⟨go,hz,step⟩
  ·refine thn (T.done (cU X N scope C f k g) rfl rfl rfl hc i _ s4 Oi H4 _ Y2 (Cv fr4 J4) Ii stop) λr s5 ⟨hr,R⟩=>?_
   subst hr;obtain⟨m,hn,_⟩:=R.loc;have pD:=R.pin (D,{cls:=.type "list",data:=.seq j.toArray B}) (de _ (aD.mpr rfl))
   have Y:∀b o,f.heap.get? b=some o->b≠D/\b≠C:=λb o e=>by
    have:=aX e;rw[L]at this;exact⟨bD this,bD (b7 this J2)⟩
   have Ry:X.env.locals≠D/\X.env.locals≠C:=by
    have:=t.lt;rw[L]at this;exact⟨bD this,bD (b7 this J2)⟩
   have I6:=t.QY R.os R.base R.hok R.bare λb a=>⟨(f2 b a).2.2.2.1,(f2 b a).2.1,(f2 b a).2.2.2.2.1,(f2 b a).2.2.2.2.2⟩
   have I7:=Inv.adopt (o:=.lst E) I6 pD.2.1 (bP t.sz (jY L)) (dz Ry.1) (λx c e=>let ⟨v,o,ho,_⟩:=t.cell x c e;(Y c o ho).1)
    (λp hp=>(Y p.1 p.2 (t.pin p hp).1).1) ⟨hz,j,B,hv,pD.1⟩
   exact ac8 s5 D C _ m I7 (q D pD.2.1) hn ⟨by rw[aI (dz M)];exact R.free,bP (bP t.sz (jY L)) J2,dz Ry.2,λx c e=>let ⟨v,o,ho,_⟩:=t.cell x c e;(Y c o ho).2,λp hp=>(Y p.1 p.2 (t.pin p hp).1).2⟩
  ·refine thn (T.item (cU X N scope C f k g) rfl rfl rfl hc i _ s4 Oi H4 _ Y2 (Cv fr4 J4) Ii go) λr s5 ⟨u,hr,h5⟩=>?_
   subst hr;refine thn h5 λ_ s5' z9=>?_
   obtain⟨x,H5,R,r5,y5,Tv,fr5⟩:=z9;have I5':=R.pinned (Cv fr5 J4) (T.obj _ _ Tv);have la:∀{o:Option V} {σ6:St} {H6:Hp} {s6:Shared},Inv (cU X N scope C f k g) ([(D,{cls:=.type "list",data:=.seq j.toArray B})]++rj g s5'.heap) σ6 H6 s6 ->
     tn (i+1) s6.heap/\(∀b∈g,H6 b=none)/\H6 D=none/\s6.heap.get? D=some {cls:=.type "list",data:=.seq j.toArray B}:=λ{o σ6 H6 s6} I6=>by
    have pD:=I6.pin (D,_) (de _ (gf _ (aD.mpr rfl)));refine⟨T.keep _ _ _ Tv λb a o e=>(I6.pin (b,o) (de _ (de _ (jo a e)))).1,λb a=>?_,pD.2.1,pD.1⟩
    obtain⟨o,e,d⟩:=T.obj _ _ Tv b a;exact(I6.pin (b,o) (de _ (de _ (jo a e)))).2.1
   refine jj (hb C f k g _ s5' Oi H5 x u _ I5' r5 (step x H5 y5)) (λ_ s6 h6=>jj h6 (λok s7 h7=>?_) λ_ _ z=>False.elim z) λ_ _ z=>False.elim z
   cases ok with
   | false =>
    rw[if_neg dh]at h7 ⊢;obtain⟨Z,H8,I8,m',hm',w8⟩:=h7;obtain⟨a1,a2,a3,a4⟩:=la (o:=none) I8;exact⟨m',hm',i+1,_,Z,H8,j,B,I8.mj (λp hp=>by cases hp),a1,a2,a3,a4,by simpa using hv,w8⟩
   | true =>
    rw[if_pos rfl]at h7 ⊢;refine jj h7 (λy s8 z9=>?_) λ_ _ z=>False.elim z
    obtain⟨v8,Z,H8,I8,r8,m',hm',w8⟩:=z9;obtain⟨a1,a2,a3,a4⟩:=la (o:=some v8) I8;have hl:=hv.length;refine lO F.slot_list_append ⟨_,a4,rfl⟩ F.entry_list_append (F.args_list_append_2 _ _) (PySem.list_append D j.toArray B y (by rw[eA];lia)) ⟨a4,?_⟩
    have I9:Inv (cU X N scope C f k g) [] Z H8 s8:=I8.mj (λp hp=>by cases hp)
    have qq:=PySem.IsL.update a4 λz=>z.push y
    have hp:j.toArray.push y=(j++[y]).toArray:=by simp
    rw[hp]at qq;refine⟨m',hm',i+1,_,Z,H8,j++[y],_,I9.turned (λb o hne e=>(wq _ _ (dz hne)).trans e) a3 M (.inr (jY L)) Y1 (λp hp=>by simp[cU]at hp),T.keep _ _ _ a1 λb a o e=>(wq _ _ (dz (fpD b a))).trans e,a2,a3,qq,hv.append (.cons r8 .nil),w8⟩
 exact codeAny_compStart_list (loop _ rfl) (T.self _ 0 _ _ _ (T.keep _ _ _ eX λb a o e=>old b o e) (loop _ rfl))
def EG(hc:X.calm=true)(S:iX X N link scope)(d:PI X c iter f)
  (g:∀(C:Addr) (s:Shared) (H:Hp) (i:List Addr),PB (cU X N scope C s H i) c ifs elt j) (k:∀x,foldedSetIterable iter X.env x=pure x:=by intro _;rfl) :
  PE X (.ListComp elt [⟨c,iter,ifs,0⟩] scope pos) (u9 link f j):=by
 intro u s v H Q I h;rw[eval_ListComp];refine vb hc S d g k I h λw D C l m p q r L=>⟨m,r,λy t=>?_⟩
 exact⟨.ref D,l,p.turned (λb o a e=>(t.2 b a).trans e) L.free L.loc (.inr L.above) L.cell L.pin,rfl,q⟩
def EH(hc:X.calm=true)(hN:X.N.Nodup)(l:X.N[i]?=some x)(j:X.env.scope.names.lookup x=some .local)(S:iX X N link scope)(p:PI X c iter t)
  (u:∀(C:Addr) (s:Shared) (H:Hp) (y:List Addr),PB (cU X N scope C s H y) c ifs elt B) (hw:swapsWith (.ListComp elt [⟨c,iter,ifs,0⟩] scope pos) (some (.Name x E)) J.line X.env=pure true) (M:∀x,foldedSetIterable iter X.env x=pure x:=by intro _;rfl) :
  PS X (.Assign [.Name x E] (.ListComp elt [⟨c,iter,ifs,0⟩] scope pos) J) (Nx (u9 link t B) (gName i)):=by
 intro ae s σ H D I h;rw[exec_Assign_Name_used _ _ _ _ hw];refine ag (wpAny_standAt (ag ?_));refine ag (thn (vb hc S p u M I h λs5 a C Q m R q T L=>?_) λ_ s' q=>aw (aw q))
 refine wpAny_assign_Name (store_ok2 (v:=.ref a) R hN l (.inl j) rfl (λs6 Y k=>?_) (.inr j))
 refine⟨m,?_,λh' Z=>?_⟩
 ·obtain⟨o,es,ep,ho,r⟩:=T;obtain⟨b,d,f⟩:=k;have ne:C≠b:=λz=>by
   rcases f with w | w
   ·exact L.loc (z.trans w)
   ·exact L.cell x b w z.symm
  exact⟨o,es,ep,(d.2 C ne).trans ho,r⟩
 ·exact⟨_,Q,Y.turned (λb o g e=>(Z.2 b g).trans e) L.free L.loc (.inr L.above) L.cell L.pin,q⟩
noncomputable def bY(link:List (Option Nat))(ρ:List (Option PV)):List (Option PV):=link.map λo=>o.bind λj=>(ρ[j]?).join
def KG(L:List Nat)(g:Tg):Prop:=∀p a b,g p a=some b->b.ρ.length=a.ρ.length/\∀j:Nat,j∉L->b.ρ[j]?=a.ρ[j]?
def Y3(L:List Nat)(g:W9):Prop:=∀p a b,g p a=some b->b.ρ.length=a.ρ.length/\∀j:Nat,j∉L->b.ρ[j]?=a.ρ[j]?
def OG(i:Nat):KG [i] (aU i):=λp b c h=>by
 obtain⟨_,rfl⟩:=aF h;exact⟨qS,λj a=>dy (λz=>a (by simp[z]))⟩
def OH:Y3 [] oi:=λp a b h=>by
 cases p with
 | nil=>cases h;exact⟨rfl,λ_ _=>rfl⟩
 | cons _ _=>cases h
def J5(h1:KG L g)(c:Y3 M r):Y3 (L++M) (dk g r):=λp d e h=>by
 cases p with
 | nil=>cases h
 | cons p f =>
  obtain⟨a,e1,i⟩:=aO h;obtain⟨k,l⟩:=h1 p d a e1;obtain⟨m,o⟩:=c f a e i;exact⟨m.trans k,λj b=>(o j λz=>b (de _ z)).trans (l j λz=>b (gf _ z))⟩
def UI(h:Y3 L r):KG L (iR n r):=λp a b e=>by
 unfold iR at e;split at e
 ·obtain⟨_,e⟩:=bM e;exact h _ a b e
 ·cases e
section
variable {K:W.Frag} {F:Fz} {ρ:List (Option PV)} {σ:St}
def Lc.gu(L:Lc K F ρ σ)(link:List (Option Nat)):Lc K F (bY link ρ) (gu link σ) where
 av:=λi p e=>by
  unfold bY at e;rw[bz]at e;cases z:link[i]? with
  | none=>rw[z]at e;cases e
  | some o =>
   rw[z]at e;cases o with
   | none=>cases e
   | some j =>
    have e:(ρ[j]?).join=some p:=bI e;cases w:ρ[j]? with
    | none=>rw[w]at e;cases e
    | some q =>
     rw[w]at e;cases e;obtain⟨v,a,b⟩:=L.av j p w;refine⟨v,?_,b⟩;unfold L2.U.gu;rw[bz,z];show some ((σ[j]?).join)=_;rw[a];rfl
 len:=by unfold bY L2.U.gu;rw[aj,aj]
def Lc.back{L:List Nat}(R:Lc K F C4 σ)(b:a.length=σ.length)(c:a=bY link ρ)(hk:∀j:Nat,j∉L->C4[j]?=a[j]?)(d:∀i∈L,link[i]?=some none):Lc K F a σ where
 av:=λi p e=>by
  refine R.av i p ?_;rw[hk i λf=>?_]
  ·exact e
  ·rw[c]at e;unfold bY at e;rw[bz,d i f]at e;cases e
 len:=b
end
noncomputable def okR{b:Type}:Rs b×cy->Option (b×List ak)
 | (.ok a,st)=>some (a,st.h)
 | _=>none
abbrev Bd:=List (Option PV)->PV->List ak->Option (Option PV×List ak)
def kR(g:Tg)(fe:Gx PV):Bd:=λa p h=>(g p ⟨a,h⟩).bind λb=>(fe b).bind λr=>(okR r).map λx=>(some x.1,x.2)
def mM(g:Tg)(c:Gx Bool)(fe:Gx PV):Bd:=λd p h=>(g p ⟨d,h⟩).bind λe=>(c e).bind λr=>match r with
 | (.ok b,a)=>if b=true then(fe a).bind λr=>(okR r).map λx=>(some x.1,x.2)else some (none,a.h)
 | _=>none
noncomputable def fg(bd:PV->List ak->Option (Option PV×List ak)):List PV->List ak->Option (List PV×List ak)
 | [],h=>some ([],h)
 | p::a,h=>(bd p h).bind λr=>(fg bd a r.2).map λs=>(r.1.toList++s.1,s.2)
section
variable {X:Cx} {aa:Hp} {ab:Fz} {N:List Str} {link:List (Option Nat)} {scope:Scope} {tg iter elt c:Expr} {pos:Pos} {fi:Gx (List PV)} {g:Tg} {fe:Gx PV} {ft:Gx Bool} {L:List Nat} {cl:Bool}
def zZ(e:okR r=some (a,h)):∃st,r=(.ok a,st)/\st.h=h:=by
 obtain⟨r,st⟩:=r;cases r with
 | ok x=>cases e;exact⟨st,rfl,rfl⟩
 | ex m C=>cases e
def _root_.L2.U.PB.imp(h:PB Y tg ifs elt d)(i:∀v a H Q,b v a H Q->d v a H Q):PB Y tg ifs elt b:=λe s a H v u Q I r w=>h e s a H v u Q I r (i _ _ _ _ w)
def tb1(X:Cx)(aa:Hp)(ab:Fz)(g:Tg)(fe:Gx PV):TB:=λv b H Q=>tG X.K aa ab g v b H λa d=>∀Y:Cx,Y.K=X.K->tE Y aa ab fe a d λy e=>Q (some y) a e
def tb2(X:Cx)(aa:Hp)(ab:Fz)(g:Tg)(ft:Gx Bool)(fe:Gx PV):TB:=λv d H Q=>tG X.K aa ab g v d H λa e=>∀Y:Cx,Y.K=X.K->tT Y aa ab ft a e λt b=>if t=true then tE Y aa ab fe a b λy f=>Q (some y) a f else Q none a b
section
variable (ht:∀(C:Addr) (s:Shared) (H:Hp) (fp:List Addr),PG (cU X N scope C s H fp) tg (tG X.K aa ab g)) (he:∀(C:Addr) (s:Shared) (H:Hp) (fp:List Addr),PE (cU X N scope C s H fp) elt (tE (cU X N scope C s H fp) aa ab fe))
include ht he
def pb1(C:Addr)(s:Shared)(H:Hp)(fp:List Addr):PB (cU X N scope C s H fp) tg [] elt (tb1 X aa ab g fe) :=
 (J1 (ht C s H fp) (he C s H fp)).imp (by rintro v σ H Q ⟨F,st,p,a,R,b,e,q⟩;exact⟨F,st,p,a,R,b,e,λd f h i j=>q d f h i j _ rfl⟩)
def pb2(hw:∀(C:Addr) (s:Shared) (H:Hp) (fp:List Addr),PT (cU X N scope C s H fp) c (tT (cU X N scope C s H fp) aa ab ft))(C:Addr)(s:Shared)(H:Hp)(fp:List Addr):PB (cU X N scope C s H fp) tg [c] elt (tb2 X aa ab g ft fe) :=
 (OF (ht C s H fp) (hw C s H fp) (he C s H fp)).imp (by rintro v σ H Q ⟨F,st,p,a,R,b,e,q⟩;exact⟨F,st,p,a,R,b,e,λd f h i j=>q d f h i j _ rfl⟩)
end
def qf(h:tS X aa ab (dc fe (aU i)) D σ H):tE X aa ab fe σ H λv a=>D.nx (σ.set i (some v)) a:=by
 obtain⟨F,d,R,h⟩:=h;refine⟨F,d,R,h.bnd λp v F1 m a b o f j=>?_⟩
 obtain⟨q,e,z⟩:=j.stp;obtain⟨k,rfl⟩:=aF e;exact z F1 _ a ⟨b.c,b.l.set k f⟩ (Gr.refl _)
end
def SI(h:Heap)(it l:Addr)(k:Nat)(xs:Array Value):Prop:=(h.IsListIter it l k/\h.IsList l xs)\/(h.IsTupleIter it l k/\h.IsTuple l xs)
def SI.at{h h':Heap}{it l:Addr}{k:Nat}{xs:Array Value}(x:SI h it l k xs)(h1:∀o,h.get? it=some o->h'.get? it=some o)(d:∀o,h.get? l=some o->h'.get? l=some o):SI h' it l k xs:=by
 rcases x with⟨⟨o,e,r⟩,⟨a,b,c⟩⟩ | ⟨⟨o,e,r⟩,⟨a,b,c⟩⟩
 ·exact .inl ⟨⟨o,h1 o e,r⟩,⟨a,d a b,c⟩⟩
 ·exact .inr ⟨⟨o,h1 o e,r⟩,⟨a,d a b,c⟩⟩
def SI.Rz{h:Heap}{it l:Addr}{k:Nat}{xs:Array Value}(x:SI h it l k xs):∃o,h.get? it=some o/\∃vs,o.data=.fields vs:=by
 rcases x with⟨⟨o,e,_,d⟩,_⟩ | ⟨⟨o,e,_,d⟩,_⟩
 ·grind
 ·grind
def SI.sq{h:Heap}{it l:Addr}{k:Nat}{xs:Array Value}(x:SI h it l k xs):∃o n,h.get? l=some o/\o.data=.seq xs n:=by
 rcases x with⟨_,⟨o,e,_,n,d⟩⟩ | ⟨_,⟨o,e,_,n,d⟩⟩
 ·grind
 ·grind
def SI.ne{h:Heap}{it l:Addr}{k:Nat}{xs:Array Value}(x:SI h it l k xs):l≠it:=λz=>by
 obtain⟨o,e,c,d⟩:=x.Rz;obtain⟨f,n,a,b⟩:=x.sq;subst z;rw[e]at a;cases a;rw[d]at b;cases b
section
variable {prog:Program} {w:World} {A:Around} {E:Value->Shared->Prop} {s:Shared}
def C5{it t:Addr}{i:Nat}{c:Array Value}{x:Value}{Q:Value->Shared->Prop}(a:s.heap.IsTupleIter it t i)(ht:s.heap.IsTuple t c)(d:c[i]?=some x)
  (e:∀h',h'.IsTupleIter it t (i+1)->Heap.SameBut it s.heap h'->Q x {s with heap:=h'}):wpAny (model prog w) A (Builtin.SmallTypes.nextOf (.ref it)) Q E s:=by
 obtain⟨o,ho,hc,hd⟩:=id a;obtain⟨g,b,_,h,f⟩:=ht;refine ag (lD a.typeIs wc (iw wc a.typeIs IG (by
  show wpAny _ _ (field (.ref it) 0 >>= _) _ _ s;refine ag (gK ho hd rfl ?_);show wpAny _ _ (if(Value.ref t==Value.none)=true then _ else _) _ _ s
  rw[if_neg (show ¬((Value.ref t==Value.none)=true)from dh)]
  show wpAny _ _ (field (.ref it) 1 >>= _) _ _ s;refine ag (gK ho hd (x:=.int i 0) rfl ?_);show wpAny _ _ (seqItems? (.ref t) >>= _) _ _ s;refine ag (wpAny_seqItems b f ?_);simp only[gE,d];refine ag (wM ho hd (by simp) (aw ⟨x,rfl,aw (e _ ⟨_,qF _ ho (Obj.isFreed_of_fields (wA hd _)),(Obj.cls_mapFields ..).trans hc,by rw[wA hd];simp[rawInt]⟩ (qG ..))⟩))) (IF _)))
def C6{it t:Addr}{i:Nat}{d:Array Value}{Q:Value->Shared->Prop}(f:A.handled=none)(b:s.heap.IsTupleIter it t i)(ht:s.heap.IsTuple t d)(g:d[i]?=none)
  (h:∀h' e,Heap.ExtBut it s.heap h'->(∃o,h'.get? e=some o/\o.cls=.type "StopIteration")->E (.ref e) {s with heap:=h'}):wpAny (model prog w) A (Builtin.SmallTypes.nextOf (.ref it)) Q E s:=by
 obtain⟨o,ho,hc,hd⟩:=id b;obtain⟨k,c,_,l,j⟩:=ht;refine ag (lD b.typeIs wc (iw wc b.typeIs IG (by
  show wpAny _ _ (field (.ref it) 0 >>= _) _ _ s;refine ag (gK ho hd rfl ?_);refine ag (gK ho hd (x:=.int i 0) rfl ?_);show wpAny _ _ (seqItems? (.ref t) >>= _) _ _ s;refine ag (wpAny_seqItems c j ?_);simp only[gE,g];refine ag (qW (ag (wM ho hd (by simp) ?_)))
  show wpAny _ _ (newExc (.type "StopIteration") [] >>= _) _ _ _;refine ag ?_;simp only[newExc,newTuple];refine ag (gF ?_ (by size_fits))
  refine ag (m:=firstArgMember _ _) (gJ (a:=Value.none) (by first | rfl | (simp only[firstArgMember];rfl)) ?_)
  refine gF ?_ (by size_fits)
  simp only[raiseNew];refine ag (wpAny_handled ?_)
  first | rw[show A.in1.handled=none from f] | rw[f]
  exact ag (aw (wpAny_throw (h _ _ (((qG ..).extBut.push _).push _) ⟨_,cP _ rfl,rfl⟩)))) (IF _)))
def SI.next{it l:Addr}{k:Nat}{xs:Array Value}{x:Value}{Q:Value->Shared->Prop}(e:SI s.heap it l k xs)(f:xs[k]?=some x)(g:∀h',SI h' it l (k+1) xs->Heap.SameBut it s.heap h'->Q x {s with heap:=h'}) :
  wpAny (model prog w) A (Builtin.SmallTypes.nextOf (.ref it)) Q E s:=by
 have ne:=e.ne;rcases e with⟨d,c⟩ | ⟨d,c⟩
 ·exact wpAny_nextOf_list_item d c f λh' a b=>g h' (.inl ⟨a,c.extBut b.extBut ne⟩) b
 ·exact C5 d c f λh' a b=>g h' (.inr ⟨a,c.extBut b.extBut ne⟩) b
def SI.stop{it l:Addr}{k:Nat}{xs:Array Value}{Q:Value->Shared->Prop}(c:A.handled=none)(g:SI s.heap it l k xs)(d:xs[k]?=none)
  (f:∀h' e,Heap.ExtBut it s.heap h'->(∃o,h'.get? e=some o/\o.cls=.type "StopIteration")->E (.ref e) {s with heap:=h'}):wpAny (model prog w) A (Builtin.SmallTypes.nextOf (.ref it)) Q E s:=by
 rcases g with⟨a,b⟩ | ⟨a,b⟩
 ·exact wpAny_nextOf_list_end c a b d f
 ·exact C6 c a b d f
end
section
variable {prog:Program} {w:World} {A:Around} {E:Value->Shared->Prop} {s:Shared} {z TI TO i1 i2 l1 l2:Nat} {k:Nat} {xs ys:Array Value}
def vc(h:Heap)(l:Addr)(xs:Array Value)(c:String):Prop:=(c="list_iterator"/\h.IsList l xs)\/(c="tuple_iterator"/\h.IsTuple l xs)
def qg{l:Addr}{xs:Array Value}{c:String}{Q:Value->Shared->Prop}(h:vc s.heap l xs c)(a:Q (.ref s.heap.objs.size) {s with heap:=s.heap.push {cls:=.type c,data:=.fields #[.ref l,.int 0 0]}}):wpAny (model prog w) A (pyIter (.ref l)) Q E s:=by
 rcases h with⟨rfl,h⟩ | ⟨rfl,h⟩
 ·exact wpAny_pyIter_list h a
 ·exact B0 h a
end
def Im(K:W.Frag)(H:Hp)(c:Bool)(l:Addr)(vs:List V):Prop:=if c=true then w9 K H l vs else gX K H l vs
def OI(h:Heap)(c:Bool)(it l:Addr)(k:Nat):Prop:=if c=true then h.IsListIter it l k else h.IsTupleIter it l k
def J6(c:Bool):String:=if c=true then "list_iterator" else "tuple_iterator"
section
variable {X:Cx} {ae:List (Addr×Obj)} {σ:St} {H:Hp} {s:Shared}
def Im.get(I:Inv X ae σ H s){c:Bool}{l:Addr}{vs:List V}(h:Im X.K H c l vs):∃a:List Value,Vals vs a/\vc s.heap l a.toArray (J6 c):=by
 unfold J6;cases c with
 | true =>
  obtain⟨a,r,pl,_⟩:=I.list (h);exact⟨a,r,.inl ⟨rfl,pl.isList⟩⟩
 | false =>
  obtain⟨a,r,pl,_⟩:=I.tuple (h);exact⟨a,r,.inr ⟨rfl,pl⟩⟩
def Im.inj(I:Inv X ae σ H s){c:Bool}{l:Addr}{vs ws:List V}(h:Im X.K H c l vs)(h':Im X.K H c l ws):vs=ws:=by
 cases c with
 | true=>exact I.mn h h'
 | false=>exact I.kz h h'
def RA{h:Heap}{c:Bool}{it l:Addr}{k:Nat}{xs:Array Value}(h1:OI h c it l k)(a:vc h l xs (J6 c)):SI h it l k xs:=by
 cases c with
 | true =>
  rcases a with⟨_,q⟩ | ⟨q,_⟩
  ·exact .inl ⟨h1,q⟩
  ·exact absurd q (by decide)
 | false =>
  rcases a with⟨q,_⟩ | ⟨_,q⟩
  ·exact absurd q (by decide)
  ·exact .inr ⟨h1,q⟩
def OJ{h:Heap}{c:Bool}{it l:Addr}{k k':Nat}{xs:Array Value}{b:Heap}(h1:SI h it l k xs)(d:vc b l xs (J6 c))(j:∀o,b.get? l=some o->h.get? l=some o):OI h c it l k:=by
 cases c with
 | true =>
  rcases d with⟨_,⟨o,e,hc,_⟩⟩ | ⟨q,_⟩
  ·rcases h1 with⟨a,_⟩ | ⟨_,⟨f,g,i,_⟩⟩
   ·exact a
   ·grind
  ·exact absurd q (by decide)
 | false =>
  rcases d with⟨q,_⟩ | ⟨_,⟨o,e,hc,_⟩⟩
  ·exact absurd q (by decide)
  ·rcases h1 with⟨_,⟨f,g,i,_⟩⟩ | ⟨a,_⟩
   ·grind
   ·exact a
def Inv.turns{t':Nat}{h':Heap}{ch:List Addr}(I:Inv X ae σ H s)(a:∀b∈ch,xb X ae H b)(d:∀b o,b∉ch->s.heap.get? b=some o->h'.get? b=some o):Inv X ae σ H {s with heap:=h',toks:=t'}:=by
 have g:∀b u,H b=some u->b∉ch:=λb u e z=>by rw[(a b z).1]at e;cases e
 refine I.step (λb f=>⟨(a b f).2.2.2.1,(a b f).2.1,(a b f).2.2.2.2.1,(a b f).2.2.2.2.2⟩) (λb o _ _ hc e _=>d b o hc e) (λb o _ _ hc e _=>⟨o.slots,d b o hc e⟩) (λ_ _ _ _ n=>n)
  (λb o hc e=>⟨o,d b o hc e⟩) (λ_ _ e=>e) (λ_ _ _ e=>e) (λ_ _ e=>e) (λm h=>?_) (λb u e=>?_) I.bare
 ·obtain⟨o,j,k,ho,r⟩:=h;exact⟨o,j,k,d _ o (λz=>(a _ z).2.1 rfl) ho,r⟩
 ·refine(I.hok b u e).wY (λc v hc q=>d c v ?_ q) (λ_ q=>q) (λ_ _ q=>q) λ_ _ _ q=>q
  rcases hc with z | z
  ·rw[z];exact g b u e
  ·exact g c _ z
end
def OI.at{h h':Heap}{c:Bool}{it l:Addr}{k:Nat}(x:OI h c it l k)(h1:∀o,h.get? it=some o->h'.get? it=some o):OI h' c it l k:=by
 cases c with
 | true =>
  obtain⟨o,e,r⟩:=(x);exact(⟨o,h1 o e,r⟩)
 | false =>
  obtain⟨o,e,r⟩:=(x);exact(⟨o,h1 o e,r⟩)
def OI.obj{h:Heap}{c:Bool}{it l:Addr}{k:Nat}(x:OI h c it l k):∃o,h.get? it=some o/\∀v,o.data≠.cell v:=by
 unfold OI at x;split at x
 ·obtain⟨o,e,_,d⟩:=x;exact⟨o,e,λv=>by grind⟩
 ·obtain⟨o,e,_,d⟩:=x;exact⟨o,e,λv=>by grind⟩
def J7{prog:Program}{w:World}{A:Around}{it l:Addr}{xs:Array Value}(g:A.handled=none):Draws prog w A it [it,l] xs.size (λi x=>xs[i]?=some x) (λi h=>SI h it l i xs) where
 live:=λi h c=>by
  obtain⟨o,e,_⟩:=c.Rz;exact⟨o,e⟩
 frame:=λi h d c k=>c.at (λo e=>k it (by simp) o e) (λo e=>k l (by simp) o e)
 item:=λi s Q E f c j=>SI.next c (lA f) λd a b=>j _ d s.toks (lA f) a b
 done:=λs Q E c m=>SI.stop g c (wt (az _)) m
set_option maxHeartbeats 2000000 in
theorem J8(l:Addr)(xs:Array Value)(c:String)(b:Obj) :
  Meets (Builtin.«enumerate.__new__» ⟨[.type "enumerate",.ref l],[]⟩) (λ_ R s=>vc s.heap l xs c/\s.heap.get? l=some b /\
   ∀h1 k:Heap,h1=s.heap.push {cls:=.type c,data:=.fields #[.ref l,.int 0 0]}->k=h1.push {cls:=.type "enumerate",data:=.fields #[.none,.bool false,.ref s.heap.objs.size,rawInt 0,.none,.none]}->R (.ok (.ret (.ref h1.objs.size))) {s with heap:=k}) :=
 .of_wp λprog w A R s h=>by
  obtain⟨hp,g,d,p,q⟩:=s;obtain⟨m,r,h⟩:=h;have f:vc (Shared.heap ⟨hp,g,d,p,q⟩) l xs c:=m;have x:=sub_enumerate;rcases m with⟨rfl,⟨o,e,hc,n,hd⟩⟩ | ⟨rfl,⟨o,e,hc,n,hd⟩⟩
  ·obtain⟨i,t,a,u⟩:=o;replace hc:i=.type "list":=hc;replace hd:a=.seq xs n:=hd
   wp_walk using jT e
   refine wpAny_stack_any λv=>aw ?_
   split
   ·rename_i j _ _ _ _ _;cases(j==Value.type "enumerate")<;>(wp_walk using jT e,qg f)<;>exact⟨_,rfl,h _ _ rfl rfl⟩
   ·wp_walk using jT e,qg f
    exact⟨_,rfl,h _ _ rfl rfl⟩
  ·obtain⟨i,t,a,u⟩:=o;replace hc:i=.type "tuple":=hc;replace hd:a=.seq xs n:=hd
   wp_walk using jT e
   refine wpAny_stack_any λv=>aw ?_
   split
   ·rename_i j _ _ _ _ _;cases(j==Value.type "enumerate")<;>(wp_walk using jT e,qg f)<;>exact⟨_,rfl,h _ _ rfl rfl⟩
   ·wp_walk using jT e,qg f
    exact⟨_,rfl,h _ _ rfl rfl⟩
def OK{prog:Program}{w:World}{A:Around}{E:Value->Shared->Prop}{s:Shared}{e it l:Addr}{k:Nat}{i:Int}{xs:Array Value}{a:Value}{Q:Option Value->Shared->Prop}(c:A.handled=none)(b:IsEnum s.heap e it i a)(st:SI s.heap it l k xs)(d:xs[k]?=none)(f:∀h',Heap.ExtBut it s.heap h'->Q none {s with heap:=h'}):wpAny (model prog w) A (pyNext (.ref e)) Q E s:=by
 have ty:s.TypeIs (.ref e) "enumerate":=⟨_,b,rfl⟩;unfold pyNext;refine ag (wpAny_attempt (lD ty F.slot_enumerate_next (iw F.slot_enumerate_next ty F.entry_enumerate_next (by
  show wpAny _ _ (field (.ref e) 2 >>= _) _ _ _;refine ag (gK b rfl rfl (ag (SI.stop c st d λh' y g ⟨o,ho,hc⟩=>?_)))
  exact ag (wpAny_isInstance ⟨o,ho,hc⟩ isSubtype_stop (aw (f _ g)))) (F.args_enumerate_next_1 _))))
def Ien(K:W.Frag)(c:Bool)(l:Addr):It where
 go:=λi H=>∃a v,Im K H c l a/\a[i]?=some v
 yld:=λi H x b=>∃T v,H T=none/\x=.ref T/\b=cu H T (.aq [.int i,v])/\∀a,Im K H c l a->a[i]?=some v
 stop:=λi H=>∃a,Im K H c l a/\a.length<=i
def eTn(e it l:Nat)(c:Bool)(i:Nat)(h:Heap):Prop:=(∃a,IsEnum h e it i a)/\OI h c it l i
def OL{P:Program}{w:World}{K:W.Frag}{g:List Expr}{x1:Nat}{TV:Pos}{e it l:Nat}{c:Bool}(j:it<e)(Z:l<it) :
  Turn P w K (.Tuple g x1 TV) (Ien K c l) [e,it] e (eTn e it l c) where
 mem:=aJ
 obj:=by
  rintro i h ⟨⟨_,a1⟩,a2⟩ b a
  simp only[aK,fx,fK]at a;rcases a with rfl | rfl
  ·exact⟨_,a1,λv=>by simp⟩
  ·exact a2.obj
 keep:=(by rintro i h h' ⟨⟨old,a1⟩,a2⟩ k;exact⟨⟨old,k e (by simp) _ a1⟩,a2.at λo x=>k it (by simp) o x⟩)
 item:=by
  rintro X C hw J hc i ae s σ H E I hf ⟨⟨old,a1⟩,a2⟩ ⟨vs,v,t,ev⟩
  subst C hw J;obtain⟨u,L,y⟩:=t.get I;obtain⟨x,ex,rx⟩:=L.get ev;have ne:e≠it:=wQ j;have m:e≠l:=wQ (lL Z j);have Y4:X.A.in1.handled=none:=I.ok.hd hc;refine wpAny_pyNext_enum_itemD (J7 (xs:=u.toArray) (l:=l) Y4) a1 (RA a2 y) (by
   have:=(bj.mp ex).1;simpa using this) ne (by simp[ne,m]) λM h' B CP hO st hT hs' kp=>⟨_,rfl,?_⟩
  have xe:M=x:=by
   have e1:u.toArray[i]?=some x:=by simpa using ex
   rw[e1]at CP;cases CP;rfl
  subst xe;refine wpAny_letOwnedTupleGo_enum hO λf N p=>?_
  have r:∀b∈[e,it],b<s.heap.objs.size:=λb a=>by
   simp only[aK,fx,fK]at a;have h1:e<s.heap.objs.size:=aX a1;rcases a with rfl | rfl<;>lia
  have eT:e≠s.heap.objs.size:=bD (r e (by simp))
  have R:∀b o,b∉[e,it]->s.heap.get? b=some o->f.get? b=some o:=λb o a z=>by
   simp only[aK,fx,fK,not_or]at a;exact p.extBut _ _ a.1 (kp b o a.1 a.2 z)
  have I1:Inv X ae σ H {s with heap:=f,toks:=B+1}:=Inv.turns I hf R
  have T:H s.heap.objs.size=none:=I.fresh;have d:=I.Cr (H':=H) (az _) T;have pr:f.get? s.heap.objs.size=some {cls:=.type "tuple",data:=.seq #[.int i B,M]}:=p.extBut _ _ (dz eT) hT
  have I2:=Inv.adopt (D:=s.heap.objs.size) (o:=.aq [.int i,v]) I1 T (by
    rcases d.2.2.2.1 with q | q
    ·exact I.sz
    ·exact q) d.2.1 d.2.2.2.2.1 d.2.2.2.2.2 ⟨(by show 2<=sizeLine;decide),[.int i B,M],.cons ⟨B,rfl⟩ (.cons rx .nil),⟨_,pr,rfl,0,rfl⟩⟩
  refine⟨.ref s.heap.objs.size,_,I2,rfl,⟨s.heap.objs.size,v,T,rfl,rfl,λxl h1=>?_⟩,⟨⟨_,N⟩,?_⟩,λb a=>?_⟩
  ·rw[<-Im.inj I t h1];exact ev
  ·have Y:l≠it:=bD Z;have q:=OJ (k':=i) st y λo z=>kp l o (dz m) Y z
   exact q.at λo z=>p.extBut _ _ (dz ne) z
  ·rw[aI (bD (r b a))];exact(hf b a).1
 done:=by
  rintro X C hw J hc i ae s σ H E I hf ⟨⟨old,a1⟩,a2⟩ ⟨vs,t,he⟩
  subst C hw J;obtain⟨u,L,y⟩:=t.get I;have hz:u.toArray[i]?=none:=wt (by rw[eA,<-L.length];exact he)
  refine OK (I.ok.hd hc) a1 (RA a2 y) hz λh' p=>⟨rfl,?_⟩
  exact Inv.turns (t':=s.toks) I hf λb o a z=>by
   simp only[aK,fx,fK,not_or]at a;exact p b o a.2 z
 self:=(by rintro A i s Q E ⟨⟨_,a1⟩,_⟩ q;exact wpAny_pyIter_enum a1 q)
def RB:Expr->Bool
 | .Tuple _ _ _=>true
 | _=>false
def uk:PV->Option (List PV)
 | .nd .aq a=>some a
 | .nd .lst a=>some a
 | _=>none
def Aa(p q:PV):PV:=.aq [p,q]
def J9{K:W.Frag}(h:uk p=some ps)(b:bO K F p x):∃c l vs,x=.ref l/\Im K F.F c l vs/\aA K F ps vs/\∀F',cL F.F F'->Im K F' c l vs:=by
 unfold uk at h;split at h
 ·cases h;obtain⟨l,vs,rfl,a,d⟩:=cg.mp b;exact⟨false,l,vs,rfl,a,d,λF' s=>br s a⟩
 ·cases h;obtain⟨l,vs,rfl,a,d⟩:=gv.mp b;exact⟨true,l,vs,rfl,a.sq,d,λF' s=>(zK s a).sq⟩
 ·cases h
def GV{K:W.Frag}(d:w9 K F.F a vs)(c:aA K F ps vs):Walk K F ps (Itl K a):=by
 intro j k f l m H R s i;have b:=(s.s.trans R.sub).seq d;refine⟨λp e=>?_,λe=>?_⟩
 ·obtain⟨v,e1,g⟩:=c.get e;refine⟨⟨vs,v,b,e1⟩,λx o ⟨h,y⟩=>?_⟩
  subst h;have:=y vs b;rw[e1]at this;cases this;exact⟨f,R,Gr.refl _,g.mono s⟩
 ·refine⟨vs,b,?_⟩;rw[<-c.length];exact jS.mp e
def Ka{K:W.Frag}(d:gX K F.F a vs)(c:aA K F ps vs):Walk K F ps (Itt K a):=by
 intro j k f l m H R s i;have b:=br (s.s.trans R.sub) d;refine⟨λp e=>?_,λe=>?_⟩
 ·obtain⟨v,e1,g⟩:=c.get e;refine⟨⟨vs,v,b,e1⟩,λx o ⟨h,y⟩=>?_⟩
  subst h;have:=y vs b;rw[e1]at this;cases this;exact⟨f,R,Gr.refl _,g.mono s⟩
 ·refine⟨vs,b,?_⟩;rw[<-c.length];exact jS.mp e
noncomputable def pK(lo:Int)(n:Nat):List PV:=(List.range n).map fun(i:Nat)=>.int (lo+i)
def rY{K:W.Frag}(lo:Int)(n:Nat):Walk K F (pK lo n) (XW lo n):=by
 intro d f b g h H R s i;unfold pK;refine⟨λp e=>?_,λe=>?_⟩
 ·rw[bz]at e;by_cases a:i<n
  ·rw[nK a]at e;cases e;exact⟨a,λx j ⟨c,y⟩=>by subst c y;exact⟨b,R,Gr.refl _,aE.mpr rfl⟩⟩
  ·rw[jg (by simpa using a)]at e;cases e
 ·rw[bz]at e;by_cases a:i<n
  ·rw[nK a]at e;cases e
  ·exact qN a
def eJ:Nat->List PV->List PV
 | _,[]=>[]
 | k,p::r=>Aa (.int k) p::eJ (k+1) r
theorem om:∀(ps:List PV) (k i:Nat),(eJ k ps)[i]?=ps[i]?.map λp=>Aa (.int ((k+i:Nat):Int)) p
 | [],k,i=>by simp[eJ]
 | p::r,k,0=>by simp[eJ]
 | p::r,k,i+1=>by
  simp only[eJ,wm];rw[om r (k+1) i,show k+1+i=k+(i+1) by lia]
def OM{K:W.Frag}(j:∀F',cL F.F F'->Im K F' c l vs)(f:aA K F ps vs):Walk K F (eJ 0 ps) (Ien K c l):=by
 intro u w F' y B H R s i;have b:=j H (s.s.trans R.sub);refine⟨λp e=>?_,λe=>?_⟩
 ·rw[om]at e;cases a:ps[i]? with
  | none=>rw[a]at e;cases e
  | some k =>
   rw[a]at e;cases e;obtain⟨v,e1,d⟩:=f.get a;refine⟨⟨vs,v,b,e1⟩,λx C m=>?_⟩
   obtain⟨T,D,o,q,r,t⟩:=m;have g:=t vs b;rw[e1]at g;cases g;subst q r;obtain⟨R2,h⟩:=R.laid (.aq [.int i,v]) o;refine⟨_,R2,h,cg.mpr ⟨T,[.int i,v],rfl,gX.of aB,.cons ?_ (.cons (d.mono (s.trans h)) .nil)⟩⟩;rw[iy];exact aE.mpr rfl
 ·refine⟨vs,b,?_⟩;rw[om]at e;cases a:ps[i]? with
  | none =>
   have:=jS.mp a;rw[f.length]at this;exact this
  | some k=>rw[a]at e;cases e
section
variable {X:Cx} {aa:Hp} {ab:Fz} {a b e tg:Expr} {fa fb:Gx PV} {ts:Gx (List PV)} {pos p:Pos}
noncomputable def GW(i j:Int):Bool:=decide (-(2^62)<=i/\i<2^62 /\ -(2^62)<=j/\j<2^62)
def xD:List PV->Option (List PV)
 | [.int j]=>if GW 0 j=true then some (pK 0 j.toNat)else none
 | _=>none
def UK:List PV->Option (List PV)
 | [.int i,.int j]=>if GW i j=true then some (pK i (j-i).toNat)else none
 | _=>none
def pM(g:List PV->Option (List PV))(ts:Gx (List PV)):Gx (List PV):=bnd ts λc=>j3 (g c)
def Kb(c:Gl X "range")(d:X.mg "range"=none)(f:PA X [a] (tA X aa ab ts))(g:starEach [a] X.env=[(false,eval a X.env)]:=by rfl):PI X tg (.Call (.Name "range" p) [a] [] pos) (tI X aa ab (pM xD ts)) :=
 (Gj c d f g).imp λσ H t ⟨F,st,R,h⟩=>⟨F,st,R,h.bnd λu w F1 x i j y k l=>by
  obtain⟨o,e,z⟩:=l.j3;unfold xD at e;split at e
  ·obtain⟨m,rfl⟩:=aF e;obtain⟨v,rfl,b⟩:=dJ k;obtain⟨_,_,q,r⟩:=dF m;rw[aE.mp b];exact⟨_,rfl,q,r,z _ i F1 j (Gr.refl _) (rY 0 _)⟩
  ·cases e⟩
def Kc(f:Gl X "range")(g:X.mg "range"=none)(i:PA X [a,b] (tA X aa ab ts))(j:starEach [a,b] X.env=[(false,eval a X.env),(false,eval b X.env)])(k:starEach [b] X.env=[(false,eval b X.env)]):PI X tg (.Call (.Name "range" p) [a,b] [] pos) (tI X aa ab (pM UK ts)) :=
 (Gk f g i j k).imp λσ H t ⟨F,st,R,h⟩=>⟨F,st,R,h.bnd λu x F1 y l m B q r=>by
  obtain⟨o,e,z⟩:=r.j3;unfold UK at e;split at e
  ·obtain⟨d,rfl⟩:=aF e;obtain⟨v,w,rfl,b,c⟩:=js q;have d:=dF d;rw[aE.mp b,aE.mp c];exact⟨_,_,rfl,d,z _ l F1 m (Gr.refl _) (rY _ _)⟩
  ·cases e⟩
def vd(fa:Gx PV):Gx (List PV):=bnd fa λp=>j3 ((uk p).map λc=>eJ 0 c)
def adk(ht:RB tg=true)(hg:Gl X "enumerate")(hm:X.mg "enumerate"=none)(ha:PE X a (tE X aa ab fa))(L:starEach [a] X.env=[(false,eval a X.env)]) :
  PI X tg (.Call (.Name "enumerate" p) [a] [] pos) (tI X aa ab (vd fa)):=by
 rintro M s σ H R I ⟨F,st,Rp,h⟩
 have hA:=jq ha rp L pos M s σ H (λN H'=>∃t Q x u g,N=[x]/\Rep X.K aa ab t Q σ H'/\bO X.K t u x/\uk u=some g/\∀b T w,Rep X.K aa ab w Q σ T->Gr t w->Walk X.K w (eJ 0 g) b->R b T) I
  ⟨F,st,Rp,h.bnd λp v F1 Y f k y B d=>by
   obtain⟨o,e,z⟩:=d.j3;obtain⟨g,e1,rfl⟩:=aZ e;exact⟨F1,Y,v,p,g,rfl,k,B,e1,z⟩⟩
 refine Call_ (ld_blt I hg hm boot_enumerate (ir (thn hA λus c z9=>?_) L rfl))
 obtain⟨N,f,l,r1,F1,Y,x,u,g,ev,k,B,f3,q⟩:=z9;subst ev;obtain⟨u1,rfl,C⟩:=jH r1;obtain⟨Z,l1,vs1,rfl,q1,D,k1⟩:=J9 f3 B;cases C;obtain⟨aG,v1,i⟩:=(k1 f k.sub).get l;obtain⟨j,RC⟩:∃o,c.heap.get? l1=some o:=by
  rcases i with⟨_,⟨o,e,_⟩⟩ | ⟨_,⟨o,e,_⟩⟩
  ·grind
  ·grind
 have E:=aX RC;refine callType_new PySem.F.called_enumerate (by decide) (PySem.F.typeCall_enumerate_1 _) (PySem.F.newCall_enumerate_1 _) (λobj=>PySem.F.args_object_init_2 obj _) PySem.F.entry_enumerate_new (J8 l1 aG.toArray (J6 Z) j) ⟨i,RC,λd m e1 e2=>?_⟩
 have z1:d.objs.size=c.heap.objs.size+1:=by simp_all
 have p1:∀b o,c.heap.get? b=some o->d.get? b=some o:=λb o e=>by rw[e1];exact bf _ e
 have p2:∀b o,d.get? b=some o->m.get? b=some o:=λb o e=>by rw[e2];exact bf _ e
 have J:IsEnum m d.objs.size c.heap.objs.size 0 .none:=by rw[e2];exact cP _ rfl
 have y:=p2 _ _ (by rw[e1];exact cP _ rfl)
 have I2:Inv X M σ f {c with heap:=m,toks:=c.toks}:=l.kept λb o e=>p2 _ _ (p1 _ _ e)
 have oe:∀b,c.heap.objs.size<=b->f b=none:=λb r=>l.hok.fresh r
 refine⟨⟨_,J,rfl⟩,?_⟩;show wpAny _ _ (pyIter (.ref d.objs.size)) _ _ {c with heap:=m,toks:=c.toks}
 refine wpAny_pyIter_enum J ?_;cases tg with
 | Tuple elts x1 TV =>
  refine⟨d.objs.size,[d.objs.size,c.heap.objs.size],_,_,f,rfl,I2,OL (by lia) E,⟨⟨_,J⟩,(by
   cases Z with
   | true=>exact(⟨_,y,rfl,rfl⟩)
   | false=>exact(⟨_,y,rfl,rfl⟩))⟩,λb r=>?_,q _ f F1 k (Gr.refl _) (OM k1 D)⟩
  simp only[aK,fx,fK]at r;have MX:c.heap.objs.size<=b:=by rcases r with rfl | rfl<;>lia
  exact l.Cr MX (oe b MX)
 | _=>cases ht
end
inductive yW where
 | sq (ps:List PV) | cl (n:Nat)
def Y6(K:W.Frag)(F:Fz):yW->It->Prop
 | .sq b,J=>Walk K F b J
 | .cl n,J=>∃a,F.μ[n]?=some a/\J=Itl K a
abbrev GX(X:Cx)(a:Hp)(b:Fz)(f:Gx yW):TI:=tX X a b (Y6 X.K) f
def EJ(f:Gx (List PV)):Gx yW:=bnd f λa=>aW (.sq a)
def Ke(n:Nat)(h:List ak)(i:Nat):Option (Option PV):=match cz h (.ref n)with
 | some (.lst,a)=>some a[i]?
 | _=>none
def Kf(h:List ak)(p:PV):Option yW:=match uk p with
 | some a=>some (.sq a)
 | none=>match p with
  | .ref n=>match cz h (.ref n)with
   | some (.lst,_)=>some (.cl n)
   | _=>none
  | _=>none
def iY(fe:Gx PV):Gx yW:=bnd fe λp=>hp λh=>Kf h p
def Ab(g:Tg)(a:Gx dE)(n:Nat):Nat->Nat->Gx dE
 | 0,_=>λ_=>none
 | f+1,i=>λb=>match Ke n b.h i with
  | some (some p)=>bnd (stp (g p)) (λ_=>bnd a (u4 (Ab g a n f (i+1)))) b
  | some none=>some (.ok .nx,b)
  | none=>none
def Y7(g:Tg)(a:Gx dE):yW->Gx dE
 | .sq b=>dm g a b
 | .cl n=>Ab g a n fL 0
def Ac(fi:Gx yW)(g:Tg)(a:Gx dE):Gx dE:=bnd fi (Y7 g a)
section
variable {X:Cx} {aa:Hp} {ab:Fz} {e tg iter:Expr} {fa:Gx PV} {fb:Gx dE} {body:List Stmt} {pos:Pos}
def ON(h:PI X tg e (tI X aa ab f)):PI X tg e (GX X aa ab (EJ f)):=(by rintro a s σ H R I ⟨F,st,b,c⟩;exact h a s σ H R I ⟨F,st,b,c.bnd λk J F1 l d g m i j=>j.aW J d F1 g (Gr.refl _) i⟩)
def Kg{K:W.Frag}{st:cy}(R:Rep K aa ab F st σ H)(b:F.μ[n]?=some a)(e:Ke n st.h i=some o):∃ps vs,o=ps[i]?/\w9 K H a vs/\aA K F ps vs:=by
 unfold Ke at e;split at e
 ·rename_i ps z;cases e;obtain⟨f,vs,e1,c,d⟩:=R.at z (c9.mpr ⟨a,b,rfl⟩);cases e1;exact⟨ps,vs,rfl,k9.sq c,d⟩
 ·cases e
def Kh(he:PE X e (tE X aa ab fa)):PI X tg e (GX X aa ab (iY fa)):=by
 rintro o s σ H R I ⟨F,st,t,h⟩
 obtain⟨r,e1,g⟩:=At.bnd h
 match r,g with
 | (.ex m C,w),g =>
  exact Jo he o s σ H R I ⟨F,st,t,_,e1,g⟩
 | (.ok p,w),g =>
  obtain⟨D,b,q⟩:=At.hp g;unfold Kf at b;split at b
  ·rename_i x i;cases b;unfold uk at i;split at i
   ·cases i;refine Jo he o s σ H R I ⟨F,st,t,_,e1,λv j F1 c k f=>?_⟩
    obtain⟨a,l,rfl,d,u⟩:=cg.mp f;exact⟨a,rfl,⟨l,br c.sub d⟩,q _ j F1 c k (Ka d u)⟩
   ·cases i;refine Eh he o s σ H R I ⟨F,st,t,_,e1,λv j F1 c k f=>?_⟩
    obtain⟨a,l,rfl,d,u⟩:=gv.mp f;exact⟨a,rfl,⟨l,(zK c.sub d).sq⟩,q _ j F1 c k (GV d.sq u)⟩
   ·cases i
  ·split at b
   ·rename_i n _;split at b
    ·rename_i x z;cases b;refine Eh he o s σ H R I ⟨F,st,t,_,e1,λv j F1 c k f=>?_⟩
     obtain⟨a,l,rfl,d,u⟩:=c.at z f;obtain⟨E,y,B⟩:=c9.mp f;cases B;exact⟨a,rfl,⟨l,k9.sq d⟩,q _ j F1 c k ⟨a,y,rfl⟩⟩
    ·cases b
   ·cases b
def UL{fi:Gx yW}(hp:PassesOwn (model X.prog X.w) X.A X.env X.xe)(hc:X.calm=true)(hi:PI X tg iter (GX X aa ab fi))(hg:PG X tg (tG X.K aa ab g))(hb:PSs X body (tS X aa ab fb))
  (hs:∀x,foldedSetIterable iter X.env x=pure x:=by intro _;rfl):PS X (.For tg iter body [] pos) (tS X aa ab (Ac fi g fb)):=(Jp hp hc hi hg hb hs).imp <| by
 rintro D σ H ⟨F,st,R,h⟩
 refine⟨F,st,R,h.bnd λsr J F1 bc H1 R1 g1 wk h1=>?_⟩
 cases sr with
 | sq d =>
  refine⟨λi m f j=>m=d.length-i/\i<=d.length/\∃c b,Rep X.K aa ab c b f j/\Gr F1 c/\Sa X aa ab c D b (dm g fb (d.drop i)),⟨d.length,by simp,fJ _,F1,bc,R1,Gr.refl _,h1⟩,?_⟩
  rintro i m f j ⟨rfl,hi,c,b,q,t,l⟩
  obtain⟨wg,Y8⟩:=wk aa ab c b f j q t i;by_cases L:i<d.length
  ·obtain⟨go,wy⟩:=wg d[i] (bC L);rw[lz L]at l;refine .inr ⟨go,λu k=>∃F2 B,Rep X.K aa ab F2 B u k/\Gr F1 F2/\Sa X aa ab F2 D B (dm g fb (d.drop (i+1))),λu k M=>⟨d.length-(i+1),by lia,rfl,L,M⟩,λx k y=>?_⟩
   obtain⟨F2,R2,s2,b2⟩:=wy x k y;obtain⟨r,e1,I⟩:=At.bnd l;obtain⟨C,N,Q⟩:=aZ e1;subst Q;refine⟨F2,b,d[i],C,R2,b2,N,λoR H3 T Y E=>⟨T,C,Y,?_⟩⟩
   exact Sa.lQ _ (λZ Ii Oi H4 R4 g4 z=>⟨Z,Ii,R4,(t.trans (s2.trans E)).trans g4,z⟩) (Sa.mono (I) (s2.trans E))
  ·have e:i=d.length:=by lia
   subst e;rw[B8]at l;exact .inl ⟨Y8 (jg (az _)),At.aW l c f j q (Gr.refl _)⟩
 | cl n =>
  obtain⟨a,ha,rfl⟩:=wk;refine⟨λi m f j=>∃c b,Rep X.K aa ab c b f j/\Gr F1 c/\Sa X aa ab c D b (Ab g fb n m i),⟨fL,F1,bc,R1,Gr.refl _,h1⟩,?_⟩
  rintro i m f j ⟨c,b,q,t,l⟩
  cases m with
  | zero=>obtain⟨r,e,_⟩:=l;cases e
  | succ m =>
   obtain⟨r,e1,I⟩:=l;have e1:(match Ke n b.h i with
    | some (some p)=>bnd (stp (g p)) (λ_=>bnd fb (u4 (Ab g fb n m (i+1)))) b
    | some none=>some (.ok .nx,b)
    | none=>none)=some r:=e1
   cases z:Ke n b.h i with
   | none=>rw[z]at e1;cases e1
   | some o =>
    obtain⟨d,vs,ho,hq,Es⟩:=Kg q (t.m n a ha) z;cases o with
    | none =>
     rw[z]at e1;cases e1;refine .inl ⟨⟨vs,hq,?_⟩,I c f j q (Gr.refl _)⟩;rw[<-Es.length];exact jS.mp ho.symm
    | some p =>
     rw[z]at e1;obtain⟨v,hv,bv⟩:=Es.get ho.symm;refine .inr ⟨⟨vs,v,hq,hv⟩,λu k=>∃F2 B,Rep X.K aa ab F2 B u k/\Gr F1 F2/\Sa X aa ab F2 D B (Ab g fb n m (i+1)),λu k M=>⟨m,qO m,M⟩,λx k ⟨hH,y⟩=>?_⟩
     subst hH;have:=y vs hq;rw[hv]at this;cases this;obtain⟨r',q1,q2⟩:=At.bnd (⟨r,e1,I⟩);obtain⟨C,N,Q⟩:=aZ q1;subst Q;refine⟨c,b,p,C,q,bv,N,λoR H3 T Y E=>⟨T,C,Y,?_⟩⟩
     exact Sa.lQ _ (λZ Ii Oi H4 R4 g4 z=>⟨Z,Ii,R4,(t.trans E).trans g4,z⟩) (Sa.mono (q2) E)
end
def EK(bd:PV->List ak->Option (Option PV×List ak))(n:Nat):Nat->Nat->List ak->Option (List PV×List ak)
 | 0,_,_=>none
 | f+1,i,h=>match Ke n h i with
  | some (some p)=>(bd p h).bind λr=>(EK bd n f (i+1) r.2).map λs=>(r.1.toList++s.1,s.2)
  | some none=>some ([],h)
  | none=>none
def Y9(bd:PV->List ak->Option (Option PV×List ak))(h:List ak):yW->Option (List PV×List ak)
 | .sq a=>if a.length<=fL then fg bd a h else none
 | .cl n=>EK bd n fL 0 h
def RE(c:Bool)(ρ:List (Option PV))(r:List PV×List ak):Option (Rs PV×cy):=if c=true then lU ⟨.lst,r.1⟩ ⟨ρ,r.2⟩else some (.ok (.lst r.1),⟨ρ,r.2⟩)
def dB(c:Bool)(link:List (Option Nat))(fi:Gx yW)(bd:Bd):Gx PV:=bnd fi λs a=>(Y9 (bd (bY link a.ρ)) a.h s).bind (RE c a.ρ)
section
variable {X:Cx} {aa:Hp} {ab:Fz} {N:List Str} {link:List (Option Nat)} {scope:Scope} {tg iter elt c:Expr} {pos:Pos} {fi:Gx yW} {g:Tg} {fe:Gx PV} {ft:Gx Bool} {L:List Nat} {cl:Bool}
def Ad{e:cy}{Q:VK}(l:kA X.K aa ab F' hf H')(m:Lc X.K F1 e.ρ σ)(f:Gr F1 F')(h:aA X.K F' done acc)(i:H' D=none)(d:RE cl e.ρ (done,hf)=some r)(j:JN X aa ab F1 (λa o=>∀b H' F',Rep X.K aa ab F' o σ H'->Gr F1 F'->bO X.K F' a b->Q b H') r):Q (.ref D) (cu H' D (.lst acc)):=by
 have Ro:Rep X.K aa ab F' ⟨e.ρ,hf⟩ σ H':=⟨l,m.mono f⟩;cases cl with
 | true =>
  have d:=d;exact Tx.lU (Tx.mono ⟨r,d,j⟩ f λ_ _ z=>z) Ro i aB h
 | false =>
  have d:=d;cases d;obtain⟨R2,k⟩:=Ro.laid (.lst acc) i;exact j _ _ _ R2 (f.trans k) (gv.mpr ⟨D,acc,rfl,k9.of aB,h.mono k⟩)
def ve{Q:VK}
  (hb:∀(F2:Fz) (ρ:List (Option PV)) (p:PV) (h h':List ak) (o:Option PV) (x:V) (f:St) (t:Hp) (Q':Option V->St->Hp->Prop),bd (bY link ρ) p h=some (o,h')->Rep X.K aa ab F2 ⟨bY link ρ,h⟩ f t->bO X.K F2 p x ->
   (∀B oR H3 u,Rep X.K aa ab u ⟨bY link ρ,h'⟩ oR H3->Gr F2 u->aA X.K u o.toList (Option.toList B)->Q' B oR H3)->tb x f t Q')
  (h:tE X aa ab (dB cl link fi bd) σ H Q):u9 link (GX X aa ab fi) tb σ H Q:=by
 obtain⟨F,st,R,h⟩:=h;refine⟨F,st,R,h.bnd λsr J F1 k H1 C g1 wk h1=>?_⟩
 obtain⟨r,e1,e2⟩:=h1;obtain⟨⟨rs,hf⟩,e3,e4⟩:=aO e1;cases sr with
 | sq q =>
  obtain⟨dO,e3⟩:=bM e3;refine⟨λi m b f E=>m=q.length-i/\i<=q.length/\b.length<=i/\∃j h' done rest,Rep X.K aa ab j ⟨bY link k.ρ,h'⟩ f E/\Gr F1 j/\fg (bd (bY link k.ρ)) (q.drop i) h'=some (rest,hf)/\done++rest=rs/\aA X.K j done b,
   ⟨q.length,rfl,fJ _,az _,F1,k.h,[],rs,⟨C.c,C.l.gu link⟩,Gr.refl _,e3,rfl,.nil⟩,?_⟩
  rintro i m b f E ⟨rfl,hi,M,j,h',done,rest,I,w,d,hd,T⟩
  obtain⟨wg,Y8⟩:=wk aa ab j _ f E I w i;by_cases eS:i<q.length
  ·rw[lz eS]at d;obtain⟨⟨o,Y⟩,e5,e6⟩:=aO d;obtain⟨⟨r2,h3⟩,e7,e8⟩:=aZ e6;cases e8;obtain⟨go,wy⟩:=wg q[i] (bC eS);refine .inr ⟨go,nN (bP M hi) (nN dO (by decide)),λx t y=>?_⟩
   obtain⟨F2,R2,s2,b2⟩:=wy x t y;refine hb F2 k.ρ q[i] h' Y o x f t _ e5 R2 b2 λB oR H3 u R3 Z b3=>⟨q.length-(i+1),by lia,rfl,eS,?_,u,Y,done++o.toList,r2,R3,w.trans (s2.trans Z),e7,by rw[<-hd,dG],(T.mono (s2.trans Z)).append b3⟩
   rw[aV];cases B<;>simp <;> lia
  ·have e:i=q.length:=by lia
   subst e;rw[B8]at d;cases d;rw[dU]at hd;subst hd;exact .inl ⟨Y8 (jg (az _)),bP M (fA dO),λD hn=>Ad I.c C.l w T hn e4 e2⟩
 | cl n =>
  obtain⟨a,hna,rfl⟩:=wk;refine⟨λi m b f E=>i+m=fL/\b.length<=i/\∃j h' done rest,Rep X.K aa ab j ⟨bY link k.ρ,h'⟩ f E/\Gr F1 j/\EK (bd (bY link k.ρ)) n m i h'=some (rest,hf)/\done++rest=rs/\aA X.K j done b,
   ⟨fL,iy _,az _,F1,k.h,[],rs,⟨C.c,C.l.gu link⟩,Gr.refl _,e3,rfl,.nil⟩,?_⟩
  rintro i m b f E ⟨hm,M,j,h',done,rest,I,w,d,hd,T⟩
  cases m with
  | zero=>cases d
  | succ m =>
   have d:(match Ke n h' i with
    | some (some p)=>(bd (bY link k.ρ) p h').bind λr=>(EK (bd (bY link k.ρ)) n m (i+1) r.2).map λs=>(r.1.toList++s.1,s.2)
    | some none=>some ([],h')
    | none=>none)=some (rest,hf):=d
   have N5:i<=fL:=by lia
   cases z:Ke n h' i with
   | none=>rw[z]at d;cases d
   | some o =>
    obtain⟨q,vs,ho,hq,hbq⟩:=Kg I (w.m n a hna) z;rw[z]at d;cases o with
    | none =>
     cases d;rw[dU]at hd;subst hd;refine .inl ⟨⟨vs,hq,?_⟩,bP M (fA N5),λD hn=>Ad I.c C.l w T hn e4 e2⟩
     rw[<-hbq.length];exact jS.mp ho.symm
    | some p =>
     obtain⟨⟨o,Y⟩,e5,e6⟩:=aO d;obtain⟨⟨r2,h3⟩,e7,e8⟩:=aZ e6;cases e8;obtain⟨v,hv,bv⟩:=hbq.get ho.symm;refine .inr ⟨⟨vs,v,hq,hv⟩,nN (bP M N5) (by decide),λx t ⟨hH,y⟩=>?_⟩
     subst hH;have:=y vs hq;rw[hv]at this;cases this;refine hb j k.ρ p h' Y o v f t _ e5 I bv λB oR H3 u R3 Z b3=>⟨m,qO m,by lia,?_,u,Y,done++o.toList,r2,R3,w.trans Z,e7,by rw[<-hd,dG],(T.mono Z).append b3⟩
     rw[aV];cases B<;>simp <;> lia
def Ki(q:KG L g)(t:∀i∈L,link[i]?=some none)(h:tE X aa ab (dB cl link fi (kR g fe)) σ H Q):u9 link (GX X aa ab fi) (tb1 X aa ab g fe) σ H Q :=
 ve (λF2 T p h Z o x bJ H2 Q' e R2 b2 k=>by
  obtain⟨b,e1,e⟩:=aO e;obtain⟨r,u,e⟩:=aO e;obtain⟨⟨a,hh⟩,w,y⟩:=aZ e;cases y;obtain⟨Nz,rfl,rfl⟩:=zZ w;obtain⟨B,C⟩:=q _ _ _ e1;refine⟨F2,_,p,b,R2,b2,e1,λD H3 E d I Y J=>⟨E,b,by grind,_,u,λv M R f j m=>?_⟩⟩
  rw[J]at f m;exact k (some v) D M R ⟨f.c,(d.l.mono j).back (B.symm.trans d.l.len) rfl C t⟩ (I.trans j) (.cons m .nil)) h
def Kj(J:KG L g)(m:∀i∈L,link[i]?=some none)(h:tE X aa ab (dB cl link fi (mM g ft fe)) σ H Q):u9 link (GX X aa ab fi) (tb2 X aa ab g ft fe) σ H Q :=
 ve (λF2 ρ p h h' o x bJ H2 Q' e R2 b2 k=>by
  obtain⟨q,e1,e⟩:=aO e;obtain⟨r,M,e⟩:=aO e;obtain⟨t,u⟩:=J _ _ _ e1;refine⟨F2,_,p,q,R2,b2,e1,λw H3 R d y Y B=>⟨R,q,by grind,r,M,?_⟩⟩
  match r,e with
  | (.ok b,T),e =>
   intro b' Z C j f eb;cases eb;cases b with
   | true =>
    have e:=e;obtain⟨r,e5,e⟩:=aO e;obtain⟨⟨a,hh⟩,e6,e7⟩:=aZ e;cases e7;obtain⟨Nz,rfl,rfl⟩:=zZ e6;rw[if_pos rfl];refine⟨C,T,j,_,e5,λv H5 F5 D E I=>?_⟩
    rw[B]at D I;exact k (some v) w H5 F5 ⟨D.c,(d.l.mono (f.trans E)).back (t.symm.trans d.l.len) rfl u m⟩ (y.trans (f.trans E)) (.cons I .nil)
   | false =>
    have e:=e;cases e;rw[B]at j;exact k none w Z C ⟨j.c,(d.l.mono f).back (t.symm.trans d.l.len) rfl u m⟩ (y.trans f) .nil) h
end
end L2.U
namespace PySem
open PyProof.Rows
def Raw(h:Heap)(a:Addr)(b:Array DictEntry)(c:Nat):Prop:=∃o,h.get? a=some o/\o.ExactDict/\o.data=.dict b c
section
variable {prog:Program} {w:World} {A:Around} {E:Value->Shared->Prop} {s:Shared} {it d:Addr} {i ep:Nat} {es:Array DictEntry}
def Ae{Q:Value->Shared->Prop}(hd:(d==sysModules)=false)(c:Raw s.heap d es ep)
  (q:Q (.ref s.heap.objs.size) {s with heap:=s.heap.push {cls:=.type "dict_keyiterator",data:=.fields #[.ref d,.int 0 0,.int es.size 0,.int ep 0]}}):wpAny (model prog w) A (pyIter (.ref d)) Q E s:=by
 obtain⟨o,ho,hc,b⟩:=c;have a:s.TypeIs (.ref d) "dict":=⟨o,ho,hc.1⟩;refine wpAny_pyIter_slot a F.slot_dict_iter (iw F.slot_dict_iter a F.entry_dict_iter ?_ (F.args_dict_iter_1 _));unfold Builtin.«dict.__iter__» Builtin.Dict.dictSlotNone Builtin.Dict.showsAll;refine ag (ag (BS a (show wpAny _ _ (pure (Value.ref d)) _ _ s from aw ?_)))
 show wpAny _ _ ((if(d==sysModules)=true then _ else _) >>= _) _ _ s
 rw[if_neg (by rw[hd];exact dh)]
 refine ag (aw (ag (qL ho b (ag (wpAny_dictEpoch ho b ?_)))));exact ag (gF (aw ⟨_,rfl,"dict_keyiterator",_,⟨_,cP _ rfl,rfl⟩,BH.lookup,q⟩))
def mN{Q:Option Value->Shared->Prop}(l:A.handled=none)(g:s.heap.IsKeyIter it d i es.size ep)(p:Raw s.heap d es ep)
  (h1:∀e,es[i]?=some e->∀h',h'.IsKeyIter it d (i+1) es.size ep->Heap.SameBut it s.heap h'->Q (some e.key) {s with heap:=h'})
  (q:es[i]?=none->∀h',Heap.ExtBut it s.heap h'->Q none {s with heap:=h'}):wpAny (model prog w) A (pyNext (.ref it)) Q E s:=by
 obtain⟨o,ho,hc,f⟩:=id g;obtain⟨u,h,_,j⟩:=p;have c:=g.typeIs;unfold pyNext;refine ag (wpAny_attempt (lD (name:=Str.ofString "__next__") c BH (iw BH c F.entry_dict_keyiterator_next ?_ (F.args_dict_keyiterator_next_1 _))));refine ag (aw (ag (ag ?_)))
 first | refine ag (BG c (aw ?_)) | refine ag (BJ c (aw ?_))
 refine ag (wpAny_fieldsOf ho f ?_);simp only[show Builtin.Dict_items.ownsTuple "dict_keyiterator"=false by decide,jU,fy]
 show wpAny _ _ (if(Value.ref d==Value.none)=true then _ else _) _ _ s
 rw[if_neg (show ¬((Value.ref d==Value.none)=true)from dh)]
 refine ag (aw (ag (qL h j ?_)));rw[if_neg (by simp)]
 refine ag (aw (ag (wpAny_dictEpoch h j ?_)));rw[if_neg (by simp)]
 refine aw ?_;cases he:es[i]? with
 | some e =>
  simp only[show ¬((i:Int)<0)from by lia,fy,gE,he]
  refine ag ?_
  first | refine ag (BG c (aw ?_)) | refine ag (BJ c (aw ?_))
  refine ag (wpAny_isOneOf_keyiter c ?_);show wpAny _ _ (setField (.ref it) 1 (rawInt ((i:Int)+1)) >>= _) _ _ s;refine ag (wM ho f (by simp) ?_)
  have k:(s.heap.update it (Obj.mapFields (·.setIfInBounds 1 (rawInt ((i:Int)+1))))).IsKeyIter it d (i+1) es.size ep :=
   ⟨_,qF _ ho (Obj.isFreed_of_fields (wA f _)),(Obj.cls_mapFields ..).trans hc,by rw[wA f];simp[rawInt]⟩
  refine ag (fI (ag (wpAny_isOneOf_keyiter (s:={s with heap:=s.heap.update it (Obj.mapFields (·.setIfInBounds 1 (rawInt ((i:Int)+1))))}) k.typeIs ?_)))
  exact show wpAny _ _ (pure e.key) _ _ _ from aw (aw ⟨_,rfl,aw (h1 e he _ k (qG ..))⟩)
 | none =>
  simp only[show ¬((i:Int)<0)from by lia,fy,gE,he]
  refine ag ?_
  first | refine ag (BG c (aw ?_)) | refine ag (BJ c (aw ?_))
  show wpAny _ _ (setField (.ref it) 0 .none >>= _) _ _ s;refine ag (wM ho f (by simp) ?_)
  show wpAny _ _ (newExc (.type "StopIteration") [] >>= _) _ _ _;refine ag ?_;simp only[newExc,newTuple];refine ag (gF ?_ (by size_fits))
  refine ag (m:=firstArgMember _ _) (gJ (a:=Value.none) (by first | rfl | (simp only[firstArgMember];rfl)) (gF ?_ (by size_fits)))
  simp only[raiseNew];refine ag (wpAny_handled ?_);rw[show A.in1.handled=none from l]
  refine ag (aw (wpAny_throw ?_));refine ag (wpAny_isInstance (T:="StopIteration") (b:=true) ⟨_,cP _ rfl,rfl⟩ isSubtype_stop ?_);exact aw (q he _ (((qG ..).extBut.push _).push _))
end
end PySem
namespace L2.U
open PySem PySem.Spec PyProof.Rows
abbrev EnT(P:Program)(w:World)(a:Array DictEntry)(xs:List (List bh×Addr×Value)):Prop:=a.toList=xs.map (entryOfKey (tupleKind (b9 P w)))
noncomputable def Io(a:Addr)(b:Array DictEntry)(c:Nat):HO:=.ext λh=>Raw h a b c
def Itd(a:Addr)(b:Array DictEntry)(c:Nat)(xs:List (List bh×Addr×Value)):It :=
 ⟨λi H=>H a=some (Io a b c)/\i<xs.length,λi H x d=>d=H/\∃z,xs[i]?=some z/\x=.ref z.2.1,λi H=>H a=some (Io a b c)/\xs.length<=i⟩
def Kk{P:Program}{w:World}{K:W.Frag}{Y:Expr}(a it:Addr)(j:Array DictEntry)(L:Nat)(M:EnT P w j xs):Turn P w K Y (Itd a j L xs) [it] it (λi h=>h.IsKeyIter it a i j.size L) where
 mem:=by simp
 obj:=λi h f b g=>by
  rw[aD]at g;subst g;obtain⟨o,e,c,d⟩:=f;exact⟨o,e,λv z=>by rw[d]at z;cases z⟩
 keep:=λi h l f k=>f.at λo e=>k it (by simp) o e
 item:=by
  intro X q hw r hc i N s Q H E I m f t;subst q hw r;obtain⟨u,p⟩:=t;obtain⟨x,y,Z,B,C,D⟩:=m it (by simp)
  have R:j[i]?=some (entryOfKey (tupleKind (b9 X.prog X.w)) xs[i]):=by rw[entry_at M,bC p];rfl
  refine mN (I.ok.hd hc) f (I.hok a _ u).1 (λe he l J T=>?_) λz=>by rw[R]at z;cases z
  cases R.symm.trans he;have I1:Inv X N Q H {s with heap:=l}:=I.turned (λb o g e=>T.extBut b o g e) x y B C D
  obtain⟨o,ho,Cq,hd⟩:=id J;exact⟨_,rfl,zy ho Cq hd (by decide) ⟨.ref xs[i].2.1,H,I1,rfl,⟨rfl,_,bC p,rfl⟩,J,λb g=>(m b g).1⟩⟩
 done:=by
  intro X q hw r hc i N s Q H E I m f t;subst q hw r;obtain⟨u,p⟩:=t;obtain⟨x,y,Z,B,C,D⟩:=m it (by simp)
  refine mN (I.ok.hd hc) f (I.hok a _ u).1 (λe he l J T=>?_) λ_ l eb=>⟨rfl,I.turned (λb o g e=>eb b o g e) x y B C D⟩
  rw[entry_at M,jg p]at he;cases he
 self:=λ_ _ _ _ _ f h=>wpAny_pyIter_keyiter f h
section
variable {X:Cx} {tg:Expr}
abbrev DxT(X:Cx)(a:Addr)(b:Array DictEntry)(xs:List (List bh×Addr×Value)):Prop:=EnT X.prog X.w b xs/\(xs.map (·.1)).Nodup/\xs.length<=sizeLine/\(a==sysModules)=false
def adm(X:Cx)(f:TE):TI:=λg H R=>f g H λx d=>∃a b,x=.ref a/\d a=some (.dT b)/\∀c e,DxT X a c b->R (Itd a c e b) (cu d a (Io a c e))
def UM{l:Expr}{j:TE}(B:PE X l j):PI X tg l (adm X j):=by
 intro m s p H R I h;refine thn (B m s p H _ I h) λv c C=>?_
 obtain⟨x,D,r,E,a,T,rfl,t,q⟩:=C;cases E;obtain⟨J,hS,o,d,f,g,L,M,d4,d5⟩:=r.hok a _ t;have w:Raw c.heap a d f:=⟨o,g,L,M⟩;have i:Inv X m p (cu D a (Io a d f)) c:=r.write (e:=a) (by rw[t];trivial) (.inl rfl) (λb u _ q=>q) ⟨o,g⟩ ⟨w,⟨o,g⟩,λY Z ⟨N,e1,Q⟩ k=>⟨N,k _ e1,Q⟩⟩
 refine Ae hS w ?_;refine⟨c.heap.objs.size,[c.heap.objs.size],_,_,_,rfl,i.kept λb o e=>bf _ e,Kk a _ d f d4,⟨_,cP _ rfl,rfl,rfl⟩,λb y=>?_,q d f ⟨d4,d5,J,hS⟩⟩
 rw[aD]at y;subst y;exact i.Cr (az _) (i.hok.fresh (az _))
def Unl(X:Cx)(D:ua):ua:={D with nx:=λb H=>D.nx b H\/∃a c d e,DxT X a d c/\H a=some (Io a d e)/\D.nx b (cu H a (.dT c))}
def UN{st:Stmt}{t:TS}(h:PS X st t):PS X st (λD c H=>t (Unl X D) c H):=by
 intro i s c H D I q;refine jj (h i s c H _ I q) (λf j z=>?_) λ_ _ z=>z
 cases f with
 | next =>
  obtain⟨d,k,g,z | ⟨a,v,l,m,⟨w,x,y,B⟩,p,z⟩⟩:=z
  ·exact⟨d,k,g,z⟩
  ·obtain⟨o,r,C,E⟩:Raw j.heap a l m:=(g.hok a _ p).1;have J:Inv X i d (cu k a (.dT v)) j:=g.write (e:=a) (by rw[p];trivial) (.inl rfl) (λb u _ q=>q) ⟨o,r⟩ ⟨y,B,o,l,m,r,C,E,w,x⟩
   exact⟨d,_,J,z⟩
 | brk=>exact z
 | cont=>exact z
 | ret u=>exact z
end
def NE(H H':Hp):Prop:=∀c o,H c=some o->(∀a,o≠.ext a)->H' c=some o
section
variable {K:W.Frag} {H H' G G':Hp}
def NE.rd(e:NE H H')(h:Rd H a u)(b:∀c,u≠.ext c):Rd H' a u:=by
 rcases h with h | ⟨o,h⟩
 ·exact .inl (e _ _ h b)
 ·exact .inr ⟨o,e _ _ h λ_ z=>nomatch z⟩
def NE.aq(e:NE H H')(h:gX K H a xs):gX K H' a xs:=h.imp (λh=>e.rd h λ_ z=>nomatch z) id
def kL.ne(h:kL K G H a x k vs)(g:NE G G')(e:NE H H'):kL K G' H' a x k vs:=by
 cases k with
 | aq=>exact⟨h.1,e.aq h.2⟩
 | lst =>
  cases x with
  | true=>exact e _ _ h λ_ z=>nomatch z
  | false=>exact Or.imp (λh=>e.rd h λ_ z=>nomatch z) id h
 | oO C ns =>
  obtain⟨i,j,fs,b,c,d,l,m⟩:=h;exact⟨i,j,fs,b,c,d,e _ _ l (λ_ z=>nomatch z),m⟩
 | eR t ks =>
  cases t with
  | false =>
   obtain⟨f,b,c⟩:=h;exact⟨f,e _ _ b (λ_ z=>nomatch z),c⟩
  | true =>
   obtain⟨o,b,c,d⟩:=h;exact⟨o,e _ _ b (λ_ z=>nomatch z),λz p=>g.aq (c z p),d⟩
mutual
theorem bO.ne{F F':Fz}(g:NE F.F F'.F)(m:F'.μ=F.μ):∀{p:PV} {v:V},bO K F p v->bO K F' p v
 | .bB,_,h=>h
 | .bl _,_,h=>h
 | .int _,_,h=>h
 | .str _,_,h=>h
 | .ref _,_,h=>by obtain⟨a,b,c⟩:=h;exact⟨a,by rw[m];exact b,c⟩
 | .fn _,_,h=>h
 | .nd k f,_,h=>by obtain⟨a,d,b,c,e⟩:=h;exact⟨a,d,b,c.ne g g,aA.ne g m e⟩
theorem aA.ne{F F':Fz}(g:NE F.F F'.F)(m:F'.μ=F.μ):∀{ps:List PV} {vs:List V},aA K F ps vs->aA K F' ps vs
 | [],_,h=>h
 | _::_,_,h=>by obtain⟨v,r,a,b,c⟩:=h;exact⟨v,r,a,bO.ne g m b,aA.ne g m c⟩
end
end
def OP:ak:=⟨.aq,[]⟩
def Af(H:Hp)(a:Addr):Hp:=λb=>if b=a then none else H b
def rZ(h:b≠a):Af H a b=H b:=if_neg h
section
variable {K:W.Frag} {aa H:Hp} {ab F F':Fz} {st:cy} {σ:St} {a:Addr} {n:Nat} {c:ak}
def RF{d:List Addr}(hd:d.Nodup)(h1:d[n]?=some a)(e:d[m]?=some b)(f:m≠n):b≠a:=λz=>by
 subst z;exact f ((wC (bj.mp e).1 hd).mp (e.trans h1.symm))
def Rep.lock(R:Rep K aa ab F st σ H)(p:F.μ[n]?=some a)(v:F.F a=none)(u:HO):Rep K aa ab ⟨cu F.F a u,F.μ⟩ ⟨st.ρ,st.h.set n OP⟩ σ (cu H a u)/\Gr F ⟨cu F.F a u,F.μ⟩:=by
 have g:Gr F ⟨cu F.F a u,F.μ⟩:=⟨eF v,λ_ _ h=>h⟩
 have q:=(R.c.new n a p).1;refine⟨⟨⟨λb o e=>?_,λb o e=>?_,R.c.base.trans g,λb o e=>?_,λm b e=>?_,by simp[R.c.hl],R.c.nd,λm d b hd f r=>?_⟩,R.l.mono g⟩,g⟩
 ·have e:cu F.F a u b=some o:=e;by_cases f:b=a
  ·subst f;rw[aB]at e ⊢;exact e
  ·rw[aI f]at e ⊢;exact R.c.sub _ _ e
 ·rw[aI (bZ e q)];exact R.c.keep _ _ e
 ·have e:cu F.F a u b=some o:=e;by_cases f:b=a
  ·subst f;exact .inr q
  ·rw[aI f]at e;exact R.c.fresh _ _ e
 ·obtain⟨i,o,j⟩:=R.c.new m b e;by_cases f:b=a
  ·subst f;exact⟨i,u,aB⟩
  ·exact⟨i,o,by rw[aI f];exact j⟩
 ·by_cases k:m=n
  ·subst k;rw[List.getElem?_set_self' ]at hd;cases z:st.h[m]? with
   | none=>rw[z]at hd;cases hd
   | some y=>rw[z]at hd;cases hd;cases r
  ·rw[dy (dz k)]at hd;have t:=RF R.c.nd p f k;obtain⟨i,w,j,x⟩:=R.c.cell m d b hd f r;exact⟨(aI t).trans i,w,j.to g.s (λo e=>by rw[aI t];exact e) (λz=>z),x.mono g⟩
def Rep.unlock{F1:Fz}(R:Rep K aa ab F' ⟨ρ,h⟩ σ H)(w:F'.μ[n]?=some a)(D:F'.F a=some (.ext x))(E:Gr F1 F')(J:F1.F a=none)(L:Gr ab F1)(M:n<h.length)(u:HO)(hc:∀G,cL F1.F G->kL K G (cu H a u) a true c.k vs)(N:aA K F1 c.ps vs) :
  Rep K aa ab ⟨Af F'.F a,F'.μ⟩ ⟨ρ,h.set n c⟩ σ (cu H a u)/\Gr F1 ⟨Af F'.F a,F'.μ⟩:=by
 have g:Gr F1 ⟨Af F'.F a,F'.μ⟩:=⟨λb o e=>(rZ (bZ e J)).trans (E.s _ _ e),E.m⟩
 have j:NE F'.F (Af F'.F a):=λb o e q=>by
  by_cases f:b=a
  ·subst f;rw[D]at e;cases e;exact absurd rfl (q x)
  ·rw[rZ f];exact e
 have I:=(R.c.new n a w).1;have y:H a=some (.ext x):=R.c.sub _ _ D;have B:NE H (cu H a u):=λb o e q=>by
  by_cases f:b=a
  ·subst f;rw[y]at e;cases e;exact absurd rfl (q x)
  ·rw[aI f];exact e
 refine⟨⟨⟨λb o e=>?_,λb o e=>?_,L.trans g,λb o e=>?_,λm b e=>?_,by rw[qS];exact R.c.hl,R.c.nd,λm d b hd f Q=>?_⟩,⟨λi p e=>?_,R.l.len⟩⟩,g⟩
 ·by_cases f:b=a
  ·subst f;exact nomatch (show none=some o from(if_pos rfl:Af F'.F b b=none).symm.trans e)
  ·rw[aI f];exact R.c.sub _ _ ((rZ f).symm.trans e)
 ·rw[aI (bZ e I)];exact R.c.keep _ _ e
 ·by_cases f:b=a
  ·subst f;exact .inr I
  ·exact R.c.fresh _ _ ((rZ f).symm.trans e)
 ·obtain⟨r,o,t⟩:=R.c.new m b e;by_cases f:b=a
  ·subst f;exact⟨r,u,aB⟩
  ·exact⟨r,o,by rw[aI f];exact t⟩
 ·by_cases C:m=n
  ·subst C;rw[jf M]at hd;cases hd;cases w.symm.trans f;exact⟨if_pos rfl,vs,hc _ g.s,N.mono g⟩
  ·rw[dy (dz C)]at hd;have T:=RF R.c.nd w f C;obtain⟨r,ws,t,X⟩:=R.c.cell m d b hd f Q;exact⟨(rZ T).trans r,ws,t.ne j B,aA.ne (F:=F') (F':=⟨Af F'.F a,F'.μ⟩) j rfl X⟩
 ·obtain⟨v,r,t⟩:=R.l.av i p e;exact⟨v,r,bO.ne (F:=F') (F':=⟨Af F'.F a,F'.μ⟩) j rfl t⟩
end
noncomputable def kyP:bh->PV
 | .inl i=>.int i
 | .inr x=>.str x
def jL(ks:List (List bh)):List PV:=ks.map λk=>.aq (k.map kyP)
noncomputable def unD(n:Nat)(c:ak):Rs dE×cy->Option (Rs dE×cy)
 | (.ok .nx,st)=>if n<st.h.length then some (.ok .nx,⟨st.ρ,st.h.set n c⟩)else none
 | (.ok (.rt p),st)=>some (.ok (.rt p),st)
 | _=>none
def C7:Kd->Option (List (List bh))
 | .eR true ks=>some ks
 | _=>none
def Za(fe:Gx PV)(g:Tg)(a:Gx dE):Gx dE:=bnd fe λp b=>(iA b.h p).bind λq=>(C7 q.2.k).bind λks=>(dm g a (jL ks) ⟨b.ρ,b.h.set q.1 OP⟩).bind (unD q.1 q.2)
theorem qh{K:W.Frag}{F:Fz}:∀k:List bh,aA K F (k.map kyP) (k.map kV)
 | []=>.nil
 | .inl i::k=>.cons (aE.mpr rfl) (qh k)
 | .inr x::k=>.cons (cO.mpr rfl) (qh k)
def Kl{K:W.Frag}(hF:F.F a=some (Io a f g))(hk:eQ K F.F xs):Walk K F (jL (xs.map (·.1))) (Itd a f g xs):=by
 intro l m h o q H R s i;have d:=R.c.sub _ _ (s.s _ _ hF);unfold jL;rw[cJ,bz];refine⟨λp e=>?_,λe=>⟨d,?_⟩⟩
 ·obtain⟨y,b,rfl⟩:=f9.mp e;refine⟨⟨d,(bj.mp b).1⟩,λx r z=>?_⟩
  obtain⟨rfl,k,j,rfl⟩:=z;cases b.symm.trans j;exact⟨h,R,Gr.refl _,cg.mpr ⟨_,_,rfl,br s.s (hk y (cH b)),qh _⟩⟩
 ·rw[wu]at e;exact jS.mp e
section
variable {X:Cx} {aa:Hp} {ab:Fz} {tg iter:Expr} {fe:Gx PV} {fb:Gx dE} {body:List Stmt} {pos:Pos} {D:ua}
def UO(hp:PassesOwn (model X.prog X.w) X.A X.env X.xe)(hc:X.calm=true)(he:PE X iter (tE X aa ab fe))(hg:PG X tg (tG X.K aa ab g))(hb:PSs X body (tS X aa ab fb))
  (hs:∀x,foldedSetIterable iter X.env x=pure x:=by intro _;rfl):PS X (.For tg iter body [] pos) (tS X aa ab (Za fe g fb)):=(UN (Jp hp hc (UM he) hg hb hs)).imp λD σ H h=>by
 obtain⟨F,st,R,h⟩:=h;refine⟨F,st,R,h.bnd λp v F1 E H1 R1 g1 b1 h1=>?_⟩
 obtain⟨r,e1,N⟩:=h1;obtain⟨⟨n,c⟩,d1,e0⟩:=aO e1;clear e1;obtain⟨rfl,Xa,hl⟩:=eZ d1;obtain⟨ks,I,e1⟩:=aO e0;obtain⟨q,d3,e1⟩:=aO e1;obtain⟨a,ha,rfl⟩:=c9.mp b1;obtain⟨ck,cp⟩:=c;have I:C7 ck=some ks:=I;cases ck with
 | eR t uj =>
  cases t with
  | false=>cases I
  | true =>
   cases I;obtain⟨hf,ws,⟨d,k1,k2,k3,k4⟩,hv⟩:=R1.c.cell n _ a Xa ha hl;subst k3;refine⟨a,d,rfl,k1,λk l hx=>?_⟩
   obtain⟨R2,g2⟩:=R1.lock ha hf (Io a k l);have hn:n<E.h.length:=(bj.mp Xa).1;have hF:cu F1.F a (Io a k l) a=some (Io a k l):=aB;have wk:Walk X.K ⟨cu F1.F a (Io a k l),F1.μ⟩ (jL (d.map (·.1))) (Itd a k l d):=Kl hF λz hz=>br g2.s (k2 z hz)
   have Q:Sa X aa ab ⟨cu F1.F a (Io a k l),F1.μ⟩ (Unl X D) ⟨E.ρ,E.h.set n OP⟩ (dm g fb (jL (d.map (·.1)))):=by
    refine⟨q,d3,?_⟩;obtain⟨f | ⟨m,C⟩,Nz⟩:=q
    ·cases f with
     | nx =>
      intro j u o J B;obtain⟨hn3,e4⟩:=bM e1;cases e4;obtain⟨R4,g4⟩:=Rep.unlock (c:=⟨.eR true (d.map (·.1)),cp⟩) J (B.m n a ha) (B.s _ _ hF) (g2.trans B) hf R1.c.base hn3 (.dT d) (λG g9=>⟨d,aB,λz hz=>br g9 (k2 z hz),rfl,k4⟩) hv
      exact .inr ⟨a,d,k,l,hx,J.c.sub _ _ (B.s _ _ hF),N _ u _ R4 g4⟩
     | rt p=>cases e1;exact λv j o C' B b'=>N v j o C' (g2.trans B) b'
     | bk=>cases e1
     | ct=>cases e1
    ·cases e1
   generalize hps:jL (d.map (·.1))=b at wk Q
   generalize hF2:(⟨cu F1.F a (Io a k l),F1.μ⟩:Fz)=F2 at R2 wk Q
   generalize (⟨E.ρ,E.h.set n OP⟩:cy)=T at R2 Q
   refine⟨λi m u o=>m=b.length-i/\i<=b.length/\∃j L,Rep X.K aa ab j L u o/\Gr F2 j/\Sa X aa ab j (Unl X D) L (dm g fb (b.drop i)),⟨b.length,by simp,fJ _,F2,T,R2,Gr.refl _,Q⟩,?_⟩
   rintro i m u o ⟨rfl,hi,j,L,J,s',Y⟩
   obtain⟨wg,Y8⟩:=wk aa ab j L u o J s' i;by_cases eS:i<b.length
   ·obtain⟨go,wy⟩:=wg b[i] (bC eS);rw[lz eS]at Y;refine .inr ⟨go,λzB Z=>∃M T,Rep X.K aa ab M T zB Z/\Gr F2 M/\Sa X aa ab M (Unl X D) T (dm g fb (b.drop (i+1))),λzB Z n2=>⟨b.length-(i+1),by lia,rfl,eS,n2⟩,λx Z y=>?_⟩
    obtain⟨M,R2,s2,b2⟩:=wy x Z y;obtain⟨r,e1,N⟩:=At.bnd Y;obtain⟨RD,e3,e4⟩:=aZ e1;subst e4;refine⟨M,L,b[i],RD,R2,b2,e3,λoR H3 F3 R3 s3=>⟨F3,RD,R3,?_⟩⟩
    exact Sa.lQ _ (λF4 Ii Oi H4 R4 g4 z=>⟨F4,Ii,R4,(s'.trans (s2.trans s3)).trans g4,z⟩) (Sa.mono (N) (s2.trans s3))
   ·have e:i=b.length:=by lia
    subst e;rw[B8]at Y;exact .inl ⟨Y8 (jg (az _)),At.aW Y j u o J (Gr.refl _)⟩
 | _=>cases I
end
def EL{P:Program}{w:World}{H':Hp}{h1 d B:Heap}(x:lP P w H' h1)(i:∀b o,H' b=some o->∃f,B.get? b=some f)(j:B.StaysIn h1)(k:B.StaysIn d):lP P w H' d:=λa o e=>by
 have keep:∀b u g,H' b=some g->h1.get? b=some u->d.get? b=some u:=λb u g l q=>by
  obtain⟨f,c⟩:=i b g l;have:=j b f c;rw[q]at this;cases this;exact k b _ c
 refine(x a o e).wY (λb u h q=>?_) (λ_ q=>q) (λ_ _ q=>q) λ_ _ _ q=>q
 rcases h with rfl | h
 ·exact keep _ _ _ e q
 ·exact keep _ _ _ h q
def Km{l:List Env}{H H':Hp}{h h1 d B m:Heap}(u:Un (oe l) [] H H' h h1)(p:Dm H H')(r:∀b o,H' b=some o->∃c,B.get? b=some c)(i:∀b c,h.get? b=some c->H b=none->b∉oe l->B.get? b=some c)
  (f:B.StaysIn d) (t:h1.FunFrames m l) (w:h1.UpToSlots d):Un (oe l) [] H H' h d:=by
 have slot:∀b o,h.get? b=some o->H b=none->b∈oe l->∃j,d.get? b=some {o with slots:=j}:=λb o q n a=>by
  obtain⟨j,e⟩:=u.slot b o q n a (by simp)
  obtain⟨_,E,k,hd⟩:=t.mem a;rw[e]at k;cases k;obtain⟨x,y⟩:=w b _ e hd;exact⟨x,y⟩
 refine⟨λb o q n a _=>f b o (i b o q n a),λb o q n a _=>slot b o q n a,u.free,λb o q I=>?_,u.tups,u.frzs,u.tbls⟩
 cases z:H b with
 | none =>
  by_cases a:b∈oe l
  ·grind
  ·exact⟨o,f b o (i b o q z a)⟩
 | some v =>
  obtain⟨C,D⟩:=p b v z;obtain⟨c,g⟩:=r b C D;exact⟨c,f b c g⟩
def GY{P:Program}{w:World}{H:Hp}{h:Heap}{a:Addr}{o:HO}(x:fG P w H h a o):∃b,h.get? a=some b:=by
 cases o with
 | lst xs=>obtain⟨_,_,_,_,e⟩:=x;exact⟨_,e⟩
 | aq xs=>obtain⟨_,_,_,b,e,_⟩:=x;exact⟨_,e⟩
 | dK c=>obtain⟨_,_,_,_,o,_,_,e,_⟩:=x;exact⟨_,e⟩
 | dT c=>obtain⟨_,_,o,_,_,e,_⟩:=x;exact⟨_,e⟩
 | set S n=>obtain⟨o,_,_,_,e,_⟩:=x;exact⟨_,e⟩
 | oO C d fs=>obtain⟨_,_,_,e,_⟩:=x;exact⟨_,e⟩
 | own y=>obtain⟨_,e⟩:=x;exact⟨_,e⟩
 | xd fs=>obtain⟨_,⟨_,_,_,e,_⟩,_⟩:=x;exact⟨_,e⟩
 | rng lo g=>obtain⟨_,_,_,e⟩:=x;exact⟨_,e⟩
 | oQ b u=>obtain⟨e,_⟩:=x;exact⟨_,e⟩
 | Ci q=>obtain⟨_,e,_⟩:=x;exact⟨_,e⟩
 | met f y=>exact⟨_,show h.get? a=some _ from x⟩
 | ext i=>obtain⟨_,⟨_,e⟩,_⟩:=x;exact⟨_,e⟩
section
variable {P:Program} {w:World} {K:W.Frag} {mg:Str->Option Value} {base:Heap} {N:List Str} {qual:Str} {scope:Scope} {f:Addr} {cd:Value} {A:Around} {ay:List Env} {s:Shared} {H:Hp} {E E1:XK} {ae:List (Addr×Obj)} {σ:St} {H1:Hp} {s1 s':Shared} {e:Value}
def EM(I:Inv (fq (iQ P w) P w K mg base N qual scope f cd A ay s H E) ae σ H1 s1){b:Addr}{a:Obj}(q:s.heap.get? b=some a)(c:b∉oe ay):b∉oe (envOfC qual scope s.heap.objs.size f cd::ay):=λd=>by
 rcases aK.mp (I.wZ b d)with z | z
 ·exact absurd (aX q) (by rw[z];exact gI _)
 ·exact c z
def Ag(I:Inv (fq (iQ P w) P w K mg base N qual scope f cd A ay s H E) ae σ H1 s1)(h:iQ P w (envOfC qual scope s.heap.objs.size f cd::ay) H1 s1 E1 e s')(l:∀c d,E1 c none d->Dm H d/\E c none d) :
  (fq (iQ P w) P w K mg base N qual scope f cd A ay s H E).xe e s':=by
 obtain⟨a,c,u,B,d,rfl,r,i,un,j,C,he,m,o,v⟩:=h;obtain⟨t,l⟩:=l c d he;have x:=I.QY r un j i (λb z=>absurd z (by simp))
 refine wpAny_leaves_onW I.ok.frames rfl m λD p y=>?_
 have k:∀b g,s.heap.get? b=some g->H b=none->b∉oe ay->B.get? b=some g:=λb g q n i=>v b g (I.base.keep b g q n i (by simp[fq])) (I.base.free b g q n (by simp[fq])) (EM I q i)
 exact⟨a,c,u,B,d,rfl,r.trans I.os,i,Km x.base t o k p.1 m.2.2.1.2.2 y,EL j o m.1 p.1,t,l,p,o,k⟩
def EN{h1:Heap}{a:Addr}{d:Value}{vs:List Value}(I:Inv (fq (iQ P w) P w K mg base N qual scope f cd A ay s H E) ae σ H1 s1)(h:Heap.MadeExcOf s1.heap h1 a d vs)(l:Dm H H1)(p:E d none H1) :
  (fq (iQ P w) P w K mg base N qual scope f cd A ay s H E).xe (.ref a) {s1 with heap:=h1}:=by
 have i:∀b o,H1 b=some o->∃c,(W.hideAll s1.heap (oe (envOfC qual scope s.heap.objs.size f cd::ay))).get? b=some c:=λb o e=>by
  obtain⟨c,q⟩:=GY (I.hok b o e);exact⟨c,W.hideAll_get _ q λg=>by
   have:=I.w6 b g;rw[e]at this;cases this⟩
 have m:∀b c,s.heap.get? b=some c->H b=none->b∉oe ay->(W.hideAll s1.heap (oe (envOfC qual scope s.heap.objs.size f cd::ay))).get? b=some c:=λb c q n g =>
  W.hideAll_get _ (I.base.keep b c q n g (by simp[fq])) (EM I q g)
 refine wpAny_leaves_madeW I.ok.frames rfl (λb o q=>W.of_hideAll _ q) (W.funFrames_hide I.stack λj he b g=>nM.mpr ⟨j,he,g⟩) h λu t k aq v r=>?_
 refine⟨a,d,.ref t,_,H1,rfl,I.os,I.bare,Km (I.base.trans (Un.kept h.keeps)) l i m k.1 (I.funs.of_keeps λb o q _=>⟨o,h.keeps b o q,rfl⟩) r,EL (I.hok.kept h.keeps) i (λb o q=>h.keeps b o (W.of_hideAll _ q)) k.1,l,p,k,i,m⟩
end
def C8(K:W.Frag)(f:Addr)(b:Value):Prop:=∃c d a e,K.lookup f=some ⟨c,d,.func a,e⟩/\a.code=b
def OQ{P:Program}{w:World}{K:W.Frag}{e:Str->Option Value}{a:Heap}{x qual:Str}{st:Stmt}{f:Addr}{g:FuncData}{N ps:List Str}{k:Nat}{c:Sp}(F:Cj K x qual st f g)(S:dH N ps (ax st))(len:∀vs H Q E,c vs H Q E->vs.length=ps.length)
  (hbody:∀(b:Value) (A:Around) (d:List Env) (s:Shared) (H:Hp) (vs:List V) (Q:VK) (E:XK),C8 K f b->dN k (A.deeper (envOfC qual (ax st) s.heap.objs.size f b))->c vs H Q E ->
   ∃t,PSs (fq (iQ P w) P w K e a N qual (ax st) f b A d s H E) (du st) t/\t {nx:=λ_ H'=>Q .bB H',rt:=Q} (start N vs) H):FnOk P w K e a (iQ P w) (k+1) f g ps c:=by
 obtain⟨i,j,kV,l,r,u,b,ct,m,rfl,h,o⟩:=F.ex;exact Jz h o S len λA d s H vs Q E p q=>hbody b A d s H vs Q E ⟨i,j,_,m,h,rfl⟩ p q
def pN(H:Hp)(a:List Addr):Hp:=λb=>if b∈a then none else H b
section
variable {K:W.Frag} {aa H H':Hp} {ab F F':Fz} {h h':List ak}
def GZ{a:List Addr}{b:Addr}{o:HO}(e:pN H a b=some o):H b=some o/\b∉a:=by
 unfold pN at e;split at e
 ·cases e
 ·grind
def G0{a:List Addr}{b:Addr}(e:pN H a b=none):H b=none\/b∈a:=by
 unfold pN at e;split at e
 ·grind
 ·grind
def kA.enter(C:kA K aa ab F h H):kA K (pN H F.μ) F F h H/\∀b o,H b=some o->pN H F.μ b=some o\/∃n:Nat,F.μ[n]?=some b:=by
 refine⟨⟨C.sub,λb o e=>(GZ e).1,Gr.refl F,λa o e=>.inl e,λn a e=>⟨if_pos (cH e),(C.new n a e).2⟩,C.hl,C.nd,C.cell⟩,λb o e=>?_⟩
 by_cases d:b∈F.μ
 ·obtain⟨n,f⟩:=qE.mp d;exact .inr ⟨n,f⟩
 ·exact .inl (by unfold pN;rw[if_neg d];exact e)
def kA.leave(C:kA K aa ab F h H)(D:kA K (pN H F.μ) F F' h' H'):kA K aa ab F' h' H':=by
 have d:∀a,pN H F.μ a=none->aa a=none:=λa e=>by
  rcases G0 e with z | z
  ·exact C.keep.free z
  ·obtain⟨n,f⟩:=qE.mp z;exact(C.new n a f).1
 refine⟨D.sub,λb o e=>D.keep b o ?_,C.base.trans D.base,λa o e=>?_,λn a e=>⟨d a (D.new n a e).1,(D.new n a e).2⟩,D.hl,D.nd,D.cell⟩
 ·unfold pN;rw[if_neg λg=>?_]
  ·exact C.keep b o e
  ·obtain⟨n,f⟩:=qE.mp g;rw[(C.new n b f).1]at e;cases e
 ·rcases D.fresh a o e with z | z
  ·exact C.fresh a o z
  ·grind
end
abbrev oo:=List PV->List ak->Option (Rs PV×List ak)
def UR(K:W.Frag)(d:Hp)(F:Fz)(h':List ak)(Q:VK)(E:XK):Rs PV->Prop
 | .ok p=>∀v c a,kA K d F c h' a->bO K c p v->Q v a
 | .ex _ C=>∀b c a,kA K d F c h' a->ClsAt K C b->E b none a
def G1(K:W.Frag)(n:Nat)(f:oo):Sp:=λe H Q E=>∃a F h c r d,kA K a F F h H/\(∀b o,H b=some o->a b=some o\/∃n:Nat,F.μ[n]?=some b)/\aA K F c e/\c.length=n/\f c h=some (r,d)/\UR K a F d Q E r
noncomputable def gn(n:Nat)(ps:List PV):List (Option PV):=ps.map some++List.replicate (n-ps.length) none
noncomputable def Ze:Rs dE×cy->Option (Rs PV×List ak)
 | (.ok (.rt p),st)=>some (.ok p,st.h)
 | (.ok .nx,st)=>some (.ok .bB,st.h)
 | (.ex m C,st)=>some (.ex m C,st.h)
 | _=>none
def dP(fb:Gx dE)(n:Nat):oo:=λa h=>(fb ⟨gn n a,h⟩).bind Ze
def Ah{K:W.Frag}{F:Fz}{ps:List PV}{vs:List V}{N:List Str}(b:aA K F ps vs):Lc K F (gn N.length ps) (start N vs) where
 av:=λi p e=>by
  unfold gn at e;unfold start;by_cases a:i<ps.length
  ·rw[c5 (by simpa using a),bz]at e
   cases z:ps[i]? with
   | none=>rw[z]at e;cases e
   | some q =>
    rw[z]at e;cases e;obtain⟨v,c,d⟩:=b.get z;refine⟨v,?_,d⟩;rw[c5 (by simpa using (b.length▸a)),bz,c]
    rfl
  ·rw[je (by simpa using a),List.getElem?_replicate]at e
   split at e<;>cases e
 len:=by unfold gn start;simp[b.length]
def EO{K:W.Frag}{a H H':Hp}{F F':Fz}{h':List ak}(c:∀b o,H b=some o->a b=some o\/∃n:Nat,F.μ[n]?=some b)(D:kA K a F F' h' H'):Dm H H':=λb o e=>by
 rcases c b o e with z | ⟨n,d⟩
 ·exact⟨o,D.keep b o z⟩
 ·exact(D.new n b (D.base.m n b d)).2
def Ko{P:Program}{w:World}{K:W.Frag}{u:Str->Option Value}{d:Heap}{x qual:Str}{st:Stmt}{f:Addr}{B:FuncData}{N ps:List Str}{k:Nat}{fb:Gx dE}(F:Cj K x qual st f B)(S:dH N ps (ax st))
  (hbody:∀(l:Value) (A:Around) (p:List Env) (s:Shared) (H:Hp) (E:XK),C8 K f l->dN k (A.deeper (envOfC qual (ax st) s.heap.objs.size f l))->∀(y:Hp) (T:Fz),
   PSs (fq (iQ P w) P w K u d N qual (ax st) f l A p s H E) (du st) (tS (fq (iQ P w) P w K u d N qual (ax st) f l A p s H E) y T fb)):FnOk P w K u d (iQ P w) (k+1) f B ps (G1 K ps.length (dP fb N.length)):=by
 refine OQ F S (by rintro D H Q E ⟨_,_,_,_,_,_,_,_,b,J,_⟩;rw[<-b.length];exact J) λl A p s H D Q E X Y Z=>?_
 obtain⟨y,F,h,as,r,h',C,L,b,J,hf,res⟩:=Z;refine⟨_,hbody l A p s H E X Y y F,F,⟨gn N.length as,h⟩,⟨C,Ah b⟩,?_⟩;obtain⟨q,e1,t⟩:=aO hf;refine⟨q,e1,?_⟩;rcases q with⟨f | ⟨m,c⟩,st⟩
 ·cases f with
  | rt=>cases t;exact λv i o C' g b'=>res v i o C' b'
  | nx=>cases t;exact λi M o R g=>res .bB i o R.c (dv.mpr rfl)
  | _=>cases t
 ·cases t;cases m with
  | true=>exact λi M o ae s1 h1 a j D R sf I hc hm=>EN I hm (EO L R.c) (res j i o R.c hc)
  | false=>exact λM ae H1 s1 e s' I h=>Ag I h (by rintro j H2 ⟨hc,i,R,sf⟩;exact⟨EO L R.c,res j i H2 R.c hc⟩)
mutual
def noRef:PV->Bool
 | .ref _=>false
 | .nd _ a=>ai a
 | _=>true
def ai:List PV->Bool
 | []=>true
 | p::a=>noRef p&&ai a
end
section
variable {K:W.Frag} {F:Fz} {μ:List Addr}
mutual
theorem bO.any:∀{p:PV} {v:V},noRef p=true->bO K F p v->bO K ⟨F.F,μ⟩ p v
 | .bB,_,_,b=>dv.mpr (dv.mp b)
 | .bl _,_,_,b=>b8.mpr (b8.mp b)
 | .int _,_,_,b=>aE.mpr (aE.mp b)
 | .str _,_,_,b=>cO.mpr (cO.mp b)
 | .fn _,_,_,b=>rJ.mpr (rJ.mp b)
 | .ref _,_,h,_=>by simp[noRef]at h
 | .nd k g,_,h,b=>by
  obtain⟨a,c,d,e,f⟩:=jl.mp b;exact jl.mpr ⟨a,c,d,e,aA.any h f⟩
theorem aA.any:∀{ps:List PV} {vs:List V},ai ps=true->aA K F ps vs->aA K ⟨F.F,μ⟩ ps vs
 | [],_,_,b=>by rw[b.cX];exact .nil
 | _::_,_,h,b=>by
  simp only[ai,aR]at h;obtain⟨v,r,rfl,a,b2⟩:=b.cx;exact .cons (a.any h.1) (aA.any h.2 b2)
end
end
def vf(h:List ak):Nat->PV->Option PV
 | 0,p=>if noRef p=true then some p else none
 | n+1,p=>if noRef p=true then some p else match p with
  | .ref m=>(h[m]?).bind λc=>if live c=true then(cb (vf h n) c.ps).map (.nd c.k)else none
  | .nd k a=>(cb (vf h n) a).map (.nd k)
  | _=>none
open Classical in
noncomputable def kT (F:Fz) (h:List ak) (H:Hp):Hp:=λa=>match F.F a with
 | some o=>some o
 | none=>if(∃(n:Nat) (c:ak),F.μ[n]?=some a/\h[n]?=some c/\live c=true)then H a else none
section
variable {K:W.Frag} {aa H:Hp} {ab F:Fz} {h:List ak}
def iZ{a:Addr}{o:HO}(e:F.F a=some o):kT F h H a=some o:=by unfold kT;rw[e]
def G3{a:Addr}{n:Nat}{c:ak}(e:F.F a=none)(h1:F.μ[n]?=some a)(b:h[n]?=some c)(d:live c=true):kT F h H a=H a:=by
 unfold kT;rw[e];exact if_pos ⟨n,c,h1,b,d⟩
def Ai{a:Addr}{o:HO}(e:kT F h H a=some o):F.F a=some o\/(H a=some o/\∃n:Nat,F.μ[n]?=some a):=by
 unfold kT at e;split at e
 ·grind
 ·split at e
  ·grind
  ·cases e
def kA.vf(C:kA K aa ab F h H)(f:List Addr):∀(n:Nat) (p q:PV) (v:V),vf h n p=some q->bO K F p v->bO K ⟨kT F h H,f⟩ q v:=by
 have keep:∀{p:PV} {v:V},noRef p=true->bO K F p v->bO K ⟨kT F h H,f⟩ p v:=λl b =>
  bO.mono (F:=⟨F.F,f⟩) (F':=⟨kT F h H,f⟩) ⟨λb o e=>iZ e,λ_ _ e=>e⟩ (b.any l)
 intro n;induction n with
 | zero =>
  intro p q v e b;obtain⟨l,rfl⟩:=aF e;exact keep l b
 | succ n ih =>
  intro p q v e b;unfold U.vf at e;split at e
  ·grind
  ·have list:∀(i g:List PV) d,cb (U.vf h n) i=some g->aA K F i d->aA K ⟨kT F h H,f⟩ g d:=by
    intro i;induction i with
    | nil=>intro g d e b;cases e;rw[b.cX];exact .nil
    | cons p i m =>
     intro g d e b;obtain⟨y,r,e1,j,rfl⟩:=d8 e;obtain⟨v,w,rfl,B,b2⟩:=b.cx;exact .cons (ih p y v e1 B) (m r w j b2)
   split at e
   ·obtain⟨c,e1,e⟩:=aO e;obtain⟨x,e⟩:=bM e;obtain⟨g,j,rfl⟩:=aZ e;obtain⟨a,k,t⟩:=c9.mp b;obtain⟨hF,d,u,D⟩:=C.cell _ c a e1 k x;exact jl.mpr ⟨a,d,t,u.to (λb o e=>iZ e) (λo e=>by rw[show(Fz.mk (kT F h H) f).F a=kT F h H a from rfl,G3 hF k e1 x];exact e) (λz=>by cases z),list _ _ _ j D⟩
   ·obtain⟨g,j,rfl⟩:=aZ e;obtain⟨a,d,k,t,u⟩:=jl.mp b;exact jl.mpr ⟨a,d,k,t.to (λb o e=>iZ e) (λo e=>iZ e) id,list _ _ _ j u⟩
   ·cases e
end
section
variable {X:Cx} {aa:Hp} {ab:Fz} {e:Expr} {es:List Expr} {ts:Gx (List PV)} {pos p:Pos} {k n:Nat} {f:Addr} {fd:FuncData} {ps:List Str} {x:Str} {g:oo}
def qi{CX:Ig}{i:Sp}{E:XK}{j:List (Addr×Obj)}{l:St}{H:Hp}{s:Shared}{Q:VK}{a:List Value}{vs:List V}(F:FnOk X.prog X.w X.K X.mg X.base CX k f fd ps i)(m:dN k X.A)(o:gr X.K fd ps [])(q:∀e d,CX X.stack H s E e d->X.xe e d)
  (I:Inv X j l H s) (r:Vals vs a) (h:i vs H Q E):wpAny (model X.prog X.w) X.A (call (.ref f) a) (EP X j l Q) X.xe s:=by
 have b:=o s a I.rg (by rw[dU,<-r.length];exact F.len _ _ _ _ h)
 rw[dU]at b;refine wpAny_call (nW (F.run X.A X.stack s H ⟨a,[]⟩ a vs Q E m I.NQ b r h) λr d c=>?_)
 cases r with
 | error e=>exact q e d c
 | ok t =>
  cases t with
  | ret u=>exact I.after c
  | next=>exact False.elim c
  | brk=>exact False.elim c
  | cont=>exact False.elim c
noncomputable def Zf:Rs PV->Rs PV
 | .ok p=>.ok p
 | .ex _ C=>.ex false C
def mO(h:List ak)(p:PV):Option PV:=if h.isEmpty=true then some p else vf h 4 p
def US(st:cy):Rs PV×List ak->Option (Rs PV×cy)
 | (.ok p,h)=>(mO h p).map λq=>(.ok q,st)
 | (.ex _ C,_)=>some (.ex false C,st)
def C9(n:Nat)(g:oo)(as:List PV):Gx PV:=λa=>if as.length=n then(g as a.h).map λr=>(Zf r.1,⟨a.ρ,r.2⟩)else none
def ou(n:Nat)(g:oo)(as:List PV):Gx PV:=λa=>if as.length=n/\(a.h.isEmpty || ai as)=true then(g as []).bind (US a)else none
def RG(n:Nat)(g:oo)(ts:Gx (List PV)):Gx PV:=bnd ts (ou n g)
def OR(X:Cx)(f:Addr)(w:List PV->Gx PV):Prop:=∀(aa H:Hp) (ab F:Fz) (st:cy) (σ:St) (a:List (Addr×Obj)) (s:Shared) (Q:VK) (as:List PV) (us:List Value) (b:List V),Inv X a σ H s->Rep X.K aa ab F st σ H->aA X.K F as b->Vals b us->Tx X aa ab (bO X.K) F st (w as) σ Q ->
 wpAny (model X.prog X.w) X.A (call (.ref f) us) (EP X a σ Q) X.xe s
def adn(G:FnOk X.prog X.w X.K X.mg X.base (iQ X.prog X.w) k f fd ps (G1 X.K n g))(j:dN k X.A)(o:gr X.K fd ps []):OR X f (C9 n g):=by
 rintro aa H ab F st σ t s Q as us Z I R b r ⟨q,e1,u⟩
 obtain⟨y,e1⟩:=bM e1;obtain⟨⟨M,B⟩,E,N⟩:=aZ e1;subst N;obtain⟨C,J⟩:=R.c.enter;cases M with
 | ok p'=>exact qi G j o (λe a d=>zL t σ H s e a I d) I r ⟨_,F,st.h,as,_,B,C,J,b,y,E,λv i L D T=>u v L i ⟨R.c.leave D,R.l.mono D.base⟩ D.base T⟩
 | ex m c=>exact thn (qi (Q:=λ_ _=>False) G j o (λe a d=>u σ t H s e a I d) I r ⟨_,F,st.h,as,_,B,C,J,b,y,E,λY i L D hc=>⟨hc,i,⟨R.c.leave D,R.l.mono D.base⟩,D.base⟩⟩) (by rintro v s3 ⟨_,_,_,_,z⟩;exact z.elim)
def Rep.back{K:W.Frag}{aa H h H':Hp}{ab F F':Fz}{i:List Addr}{st:cy}{σ:St}{h':List ak}(R:Rep K aa ab F st σ H)(d:cL H h)(D:kA K h ⟨F.F,i⟩ F' h' H'):Rep K aa ab ⟨kT F' h' H',F.μ⟩ st σ H'/\Gr F ⟨kT F' h' H',F.μ⟩:=by
 have g:cL F.F (kT F' h' H'):=λb o e=>iZ (D.base.s b o e)
 refine⟨R.after (d.trans D.keep) g rfl (λb o e=>?_) (λa o e=>?_),g,λ_ _ z=>z⟩
 ·rcases Ai e with z | ⟨z,_⟩
  ·exact D.sub b o z
  ·exact z
 ·rcases Ai e with z | ⟨_,n,z⟩
  ·exact(D.fresh a o z).imp_right d.free
  ·exact .inr (d.free (D.new n a z).1)
def kA.pure{K:W.Frag}{aa H:Hp}{ab F:Fz}{h:List ak}(C:kA K aa ab F h H):kA K H ⟨F.F,[]⟩ ⟨F.F,[]⟩ [] H :=
 ⟨C.sub,cL.refl H,Gr.refl _,λa o e=>.inl e,λn a e=>by simp at e,rfl,jX,λn c a e=>by simp at e⟩
def Kp{K:W.Frag}{H H':Hp}{G F':Fz}{h':List ak}{p q:PV}{v:V}(c:List Addr)(D:kA K H G F' h' H')(e:mO h' p=some q)(b:bO K F' p v):bO K ⟨kT F' h' H',c⟩ q v:=by
 unfold mO at e;split at e
 ·rename_i z;cases e;have d:F'.μ=[]:=nJ (by rw[<-D.hl,wH.mp z];rfl)
  exact b.mono ⟨λb o e=>iZ e,λn a e=>by rw[d]at e;simp at e⟩
 ·exact D.vf c _ _ _ _ e b
def vg{K:W.Frag}{aa H:Hp}{ab F:Fz}{st:cy}{i:St}{as:List PV}{vs:List V}(R:Rep K aa ab F st i H)(j:(st.h.isEmpty || ai as)=true)(b:aA K F as vs)(d:List Addr):aA K ⟨F.F,d⟩ as vs:=by
 rcases wI _ _▸j with z | z
 ·have l:F.μ=[]:=nJ (by rw[<-R.c.hl,wH.mp z];rfl)
  exact aA.mono (F:=F) (F':=⟨F.F,d⟩) ⟨cL.refl _,λn a e=>by rw[l]at e;simp at e⟩ b
 ·exact b.any z
def Zg(G:FnOk X.prog X.w X.K X.mg X.base (iQ X.prog X.w) k f fd ps (G1 X.K n g))(j:dN k X.A)(l:gr X.K fd ps []):OR X f (ou n g):=by
 rintro aa H ab F st σ t s Q as us vs I R b r ⟨q,e1,u⟩
 obtain⟨⟨y,N⟩,e1⟩:=bM e1;obtain⟨⟨T,B⟩,C,E⟩:=aO e1;have J:∀b o,H b=some o->H b=some o\/∃n:Nat,(Fz.mk F.F []).μ[n]?=some b:=by grind
 have L:=vg R N b [];cases T with
 | ok p' =>
  obtain⟨p2,Y,Z⟩:=aZ E;subst Z;refine qi G j l (λe a d=>zL t σ H s e a I d) I r ⟨H,⟨F.F,[]⟩,[],as,_,B,R.c.pure,J,L,y,C,λv F' M D b'=>?_⟩
  obtain⟨h,i⟩:=R.back (cL.refl _) D;exact u v M _ h i (Kp F.μ D Y b')
 | ex m c =>
  cases E;refine thn (qi (Q:=λ_ _=>False) G j l (λe a d=>u σ t H s e a I d) I r ⟨H,⟨F.F,[]⟩,[],as,_,B,R.c.pure,J,L,y,C,λcls F' M D hc=>?_⟩) (by rintro v s3 ⟨_,_,_,_,z⟩;exact z.elim)
  obtain⟨h,i⟩:=R.back (cL.refl _) D;exact⟨hc,_,h,i⟩
def UT{w:List PV->Gx PV}(G:OR X f w)(i:Gl X x)(j:X.mg x=some (.ref f))(hk:W.keepIn X.K (.ref f)=true)(l:PA X (e::es) (tA X aa ab ts))(m:(x==("__debug__":Str))=false)
  (he:starEach (e::es) X.env=(false,eval e X.env)::starEach es X.env) (o:(backTo pos (starEach es X.env)).any (·.1)=false):PE X (.Call (.Name x p) (e::es) [] pos) (tE X aa ab (bnd ts w)):=by
 rintro q s σ H Q I ⟨F1,st,R,h⟩
 refine jh (ld_glob I i j ?_ m);exact W.callWith_K I.ok.mod.kin hk (thn (l pos q s σ H (λb c=>∃F2 a as,Rep X.K aa ab F2 a σ c/\aA X.K F2 as b/\Tx X aa ab (bO X.K) F2 a (w as) σ Q) I
  ⟨F1,st,R,h.bnd λas b F2 a c R2 u b2 t=>⟨F2,a,as,R2,b2,t⟩⟩) (by rintro us s1 ⟨b,c,d,r,F2,a,as,R2,b2,z⟩;exact⟨d.rg,G _ _ _ _ _ _ _ _ _ _ _ _ d R2 b2 r z⟩)) he o
end
end L2.U
namespace L2
open PySem PySem.Spec PyProof.Rows
section
variable {X:Cx} {ae:List (Addr×Obj)} {σ:St} {H:Hp} {s:Shared} {a b:Addr} {k:List bh} {xs:List (List bh×Addr×Value)}
theorem gC{c d:Type}(f:c->d):∀(l:List c) (i:Nat),(l.eraseIdx i).map f=(l.map f).eraseIdx i
 | [],_=>rfl
 | _::_,0=>rfl
 | x::l,i+1=>cS (f x::·) (gC f l i)
def Zh(K:W.Frag):V->List V->Hp->VK->Prop:=λx c H Q=>∃a b xs k j p y,x=.ref a/\c=[.ref b]/\H a=some (.dT xs)/\eQ K H xs/\gX K H b (k.map kV)/\xs[j]?=some (k,p)/\RelV y p.2/\Q y (cu H a (.dT (xs.eraseIdx j)))
def UU{c d:Type}{xs:List (c×d)}{i j:Nat}{k:c}{p q:d}(e:(xs.map (·.1)).Nodup)(h1:xs[i]?=some (k,p))(f:xs[j]?=some (k,q)):i=j:=by
 refine(wC (l:=xs.map (·.1)) ?_ e).mp ?_
 ·rw[aj];exact(bj.mp h1).1
 ·rw[bz,bz,h1,f];rfl
def UW(hu:X.A.units+1150<cLine):W8 X "dict.pop" (Zh X.K):=by
 intro ae s σ H x vs v us Q I J L h;obtain⟨a,b,xs,k,j,p,y,rfl,rfl,e,hk,M,r,N,q⟩:=h;cases J;obtain⟨u1,rfl,R⟩:=L.one;cases R;obtain⟨z,hd,C⟩:=uY I (.inl e) hk;have D:=C.typeIs;obtain⟨o,t,ep,f,T,d,m,Y,u⟩:=C;have g:t[j]?=some (entryOfKey (tupleKind (b9 X.prog X.w)) (k,p)):=by rw[entry_at m,r];rfl
 have E:=key_is I M;have i:(tupleKind (b9 X.prog X.w)).room X.A.in1:=qI (by lia)
 refine iw PySem.F.slot_dict_pop D PySem.F.entry_dict_pop ?_ (PySem.F.args_dict_pop_2 _ _);unfold Builtin.«dict.pop» Builtin.Dict.keyAndDefault;refine ag (ag (BS D ?_));show wpAny _ _ (pure (a,Value.ref b,none)) _ _ s;refine aw ?_;simp only[show(keyPart (Value.ref b)).isSome=false from rfl,jU,fy]
 refine ag (qL f d (ag (aw ?_)));have B:t.isEmpty=false:=by
  rw[Array.isEmpty_eq_false_iff]
  rintro rfl
  simp at g
 rw[B];simp only[jU,fy];refine ag ?_;unfold Builtin.Dict.takeOut
 try with_reducible refine fI ?_
 refine ag ((tupleKind (b9 X.prog X.w)).pyHash i E (ag (wpAny_dictFind_heap (s:={s with toks:=s.toks+(tupleKind (b9 X.prog X.w)).draws k}) i E f d m Y u (λZ=>absurd r (Z j p)) λj' p' Xb=>?_)))
 cases UU u r Xb;refine ag (qL (s:={s with toks:=s.toks+(tupleKind (b9 X.prog X.w)).draws k}) f d ?_)
 rw[g];refine ag (wpAny_updateDictKeys (hz:=by rw[Cg m];exact z) (s:={s with toks:=s.toks+(tupleKind (b9 X.prog X.w)).draws k}) f d (aw ?_))
 simp only[Option.isNone_some,jU,fy];refine ag (wpAny_letGo (aw ⟨_,rfl,y,_,I.write (x:=a) (e:=a) (o:=.dT (xs.eraseIdx j)) (by rw[e];exact True.intro) (.inl rfl) (λc q' hc z=>((qG ..).2 c hc).trans z) ⟨_,qF _ f (Obj.isFreed_of_dict (BU d _))⟩ ⟨?_,hd,_,_,_,qF _ f (Obj.isFreed_of_dict (BU d _)),T.mapDictKeys _,BU d _,?_,?_⟩,N,q⟩))
 ·exact bP (List.length_eraseIdx_le ..) z
 ·rw[gC,<-m];obtain⟨l⟩:=t;simp
 ·rw[gC];exact u.sublist (List.eraseIdx_sublist ..)
end
end L2
namespace L2.U
open PySem PySem.Spec PyProof.Rows
def G4:MG:=λc as=>match c.k,as with
 | .eR true ks,[a]=>(ie true a).bind λk=>(ks.findIdx? λx=>decide (x=k)).bind λj=>(c.ps[j]?).map λp=>(⟨.eR true (ks.eraseIdx j),c.ps.eraseIdx j⟩,p)
 | _,_=>none
section
variable {X:Cx}
def OS:zV X.K (Zh X.K) G4:=by
 intro aa H ab F st σ n c c' a as ws q Q R hc l m d w k;unfold G4 at d;split at d
 ·rename_i ks kp hk;obtain⟨kk,e1,x⟩:=aO d;obtain⟨j,B,C⟩:=aO x;obtain⟨p,D,E⟩:=aZ C;cases E;obtain⟨w1,rfl,I⟩:=dJ w;obtain⟨J,rfl,L⟩:=j7 e1 I;obtain⟨_,vs,o,f⟩:=R.c.cell n c a hc m l;rw[hk]at o;obtain⟨b,M,r,N,t⟩:=o;obtain⟨g,e,_⟩:=BF.mp B;have e:=dF e;subst N;rw[aj]at g;rw[List.getElem_map]at e;have T:b[j]?=some (kk,b[j].2):=by rw[bC g,<-e]
  obtain⟨y,Y,h⟩:=f.get D;obtain⟨u,v,Z⟩:=t.get Y;rw[bz,bC g]at v;cases v;refine⟨a,J,b,kk,j,b[j].2,y,rfl,rfl,M,λz i=>br R.sub (r z i),br R.sub L,T,Z,k y F _ (R.put (vs:=vs.eraseIdx j) hc l m ⟨b.eraseIdx j,aB,λz i=>r z (List.mem_of_mem_eraseIdx i),gC _ _ _,by rw[gC];exact t.eraseIdx j⟩ ?_) (Gr.refl _) ?_⟩
  ·show aA _ _ (c.ps.eraseIdx j) (vs.eraseIdx j);rw[IB,IB];exact(f.take _).append (f.drop _)
  ·exact h
 ·cases d
end
end L2.U
namespace L2
open PySem PySem.Spec PyProof.Rows
section
variable {X:Cx}
def Zi:V->List V->Hp->VK->Prop:=λx c H Q=>∃a b k y,x=.ref a/\c=[kV k,y]/\H a=some (.dK b)/\Q ((gZ b k).getD y) H
def UX:W8 X "dict.get" Zi:=by
 intro q s r H x t v u Q I d f h;obtain⟨a,b,k,y,rfl,rfl,e,g⟩:=h;cases d;obtain⟨B,i,rfl,j,l⟩:=f.two;obtain⟨z,hd,m,o,c⟩:=JK I.hok e;refine call_meetsIn PySem.F.slot_dict_get c.typeIs PySem.F.entry_dict_get (PySem.F.args_dict_get_3 _ _ _) (meets_dict_get_default (b9 X.prog X.w) a (oV j) hd i) ⟨_,c.mapOf,(gZ b k).getD y,H,I.tok _,?_,g⟩;have rk:=o.val k;cases p:gZ b k<;>cases hw:valueAt m k<;>rw[p,hw]at rk
 ·exact l
 ·exact rk.elim
 ·exact rk.elim
 ·exact rk
end
end L2
namespace L2.U
open PySem PySem.Spec PyProof.Rows
def Kq(h:List ak)(p:PV)(as:List PV):Option PV:=(iA h p).bind λc=>match c.2.k,as with
 | .eR false ks,[a,y]=>(ie false a).bind λk=>if iz k ks=true then eY k ks c.2.ps else some y
 | _,_=>none
def OU(p:PV)(as:List PV):Gx PV:=hp λh=>Kq h p as
section
variable {X:Cx} {aa H:Hp} {ab F:Fz} {st:cy} {σ:St}
def Tx.get{Q:VK}(h:Tx X aa ab (bO X.K) F st (OU p as) σ Q)(R:Rep X.K aa ab F st σ H)(l:bO X.K F p v)(m:aA X.K F as ws):Zi v ws H Q:=by
 obtain⟨x,o,q⟩:=h.hp;obtain⟨⟨n,c⟩,e1,e⟩:=aO o;obtain⟨rfl,hc,r⟩:=eZ e1;obtain⟨a,t,rfl⟩:=c9.mp l;split at e
 ·rename_i ks I y hk;obtain⟨kk,e1,b⟩:=aO e;obtain⟨J,u,rfl,w,b2⟩:=js m;obtain⟨j,rfl,rfl⟩:=iW e1 w;obtain⟨_,L,g,i⟩:=R.c.cell n c a hc t r;rw[hk]at g;obtain⟨d,B,C,D⟩:=g;rw[<-D]at i;rw[<-C]at b;refine⟨a,d,j,u,rfl,rfl,B,q _ _ F R (Gr.refl _) ?_⟩;cases f:gZ d j with
  | none =>
   rw[if_neg (by rw[j8,f];simp)]at b
   cases b;exact b2
  | some v =>
   rw[if_pos (by rw[j8,f];rfl)]at b
   obtain⟨M,k,E⟩:=qe b i;rw[f]at k;cases k;exact E
 ·cases e
end
def Zj(T:String):Kd->Bool
 | .lst=>T=="list"
 | .eR _ _=>T=="dict"
 | _=>false
def tyG(T:String)(p:PV):Gx Unit:=hp λh=>(cz h p).bind λq=>if Zj T q.1=true then some ()else none
section
variable {X:Cx} {aa:Hp} {ab:Fz} {e o:Expr} {es:List Expr} {fo fe:Gx PV} {ts:Gx (List PV)} {pos qX kM:Pos} {T id:String} {name:Str} {r:V->List V->Hp->VK->Prop}
def Rep.tyV{K:W.Frag}{st:cy}(R:Rep K aa ab F st σ H)(e:cz st.h p=some (k,ps))(ht:Zj T k=true)(b:bO K F p v):L2.tyV K T v H:=by
 obtain⟨a,g,rfl,d,i⟩:=R.at e b
 match k,ht,d with
 | .lst,ht,d=>exact .inl ⟨aY ht,g,k9.sq d⟩
 | .eR false ks,ht,⟨f,d,_⟩=>exact .inr (.inr (.inl ⟨aY ht,.inl ⟨f,d⟩⟩))
 | .eR true ks,ht,⟨xs,d,_⟩=>exact .inr (.inr (.inl ⟨aY ht,.inr ⟨xs,d⟩⟩))
def xE(T:String)(w:PV->List PV->Gx PV)(fo:Gx PV)(ts:Gx (List PV)):Gx PV:=bnd fo λp=>bnd (tyG T p) λ_=>bnd ts λas=>w p as
def WdT(X:Cx)(r:V->List V->Hp->VK->Prop)(w:PV->List PV->Gx PV):Prop:=∀(aa H:Hp) (ab F:Fz) (st:cy) (σ:St) (p:PV) (as:List PV) (v:V) (ws:List V) (Q:VK),Tx X aa ab (bO X.K) F st (w p as) σ Q->Rep X.K aa ab F st σ H->bO X.K F p v->aA X.K F as ws->r v ws H Q
def ox(hw:WdT X r w)(h:tE X aa ab (xE T w fo ts) σ H Q):tBM X.K T r (tE X aa ab fo) (tA X aa ab ts) σ H Q:=by
 obtain⟨F,c,R,h⟩:=h;refine⟨F,c,R,h.bnd λp v F1 d q a t b f=>?_⟩
 obtain⟨u,e,z⟩:=At.hp (At.bnd f);obtain⟨⟨k,x⟩,e1,g⟩:=aO e;obtain⟨hk,_⟩:=aF g;refine⟨a.tyV e1 hk b,F1,d,a,Tx.bnd z λas ws F2 i j R2 l b2 m=>hw aa j ab F2 i σ p as v ws Q m R2 (b.mono l) b2⟩
def OX(hw:WdT X r w)(h:tE X aa ab (xE T w fo (aW [])) σ H Q):Yi X.K T r (tE X aa ab fo) σ H Q:=by
 obtain⟨F,c,R,h⟩:=h;refine⟨F,c,R,h.bnd λp v F1 d f a j b g=>?_⟩
 obtain⟨u,e,z⟩:=At.hp (At.bnd g);obtain⟨⟨k,l⟩,e1,i⟩:=aO e;obtain⟨hk,_⟩:=aF i;exact⟨a.tyV e1 hk b,hw aa f ab F1 d σ p [] v [] Q (At.aW (At.bnd z)) a b .nil⟩
def r9(a:zV X.K r g):WdT X r (iB g):=λ_ _ _ _ _ _ _ _ _ _ _ h R b c=>Tx.mut a h R b c
def UY:WdT X (UC X.K) zW:=λ_ _ _ _ _ _ _ _ _ _ _ h R a b=>Tx.ext h R a b
def ER(m:Str):Option (String×(PV->List PV->Gx PV)) :=
 if m==("append":Str)then some ("list",iB (gY xA))
 else if m==("extend":Str)then some ("list",zW)
 else if m==("insert":Str)then some ("list",iB (gY J0))
 else if m==("setdefault":Str)then some ("dict",iB zX)
 else if m==("pop":Str)then some ("dict",iB G4)
 else if m==("get":Str)then some ("dict",OU)
 else none
def Dc(m:Str):Option (String×(PV->List PV->Gx PV)) :=
 if m==("reverse":Str)then some ("list",iB (gY OA))
 else if m==("pop":Str)then none
 else if m==("clear":Str)then none
 else none
def ado(j:X.A.units+1150<cLine)(ht:ER name=some (T,w))(ho:PE X o (tE X aa ab fo))(b:PA X (e::es) (tA X aa ab ts))(c:attributeBase o name X.env (eval o X.env)=eval o X.env)
  (d:((backTo kM (starEach (e::es) X.env)).all (λx=>!x.1)&&(backToKw kM (keywordEach [] X.env)).all (λx=>x.1.isSome)&&decide ((e::es).length+([]:List Keyword).length+(if([]:List Keyword).isEmpty then 0 else 1)<30))=true)
  (f:(qX.endLine==kM.line)=true) (g:starEach (e::es) X.env=(false,eval e X.env)::starEach es X.env) (i:(backTo kM (starEach es X.env)).any (·.1)=false):PE X (.Call (.Attribute o name qX) (e::es) [] kM) (tE X aa ab (xE T w fo ts)):=by
 unfold ER at ht;split at ht
 ·rename_i a;cases ht;have a:=aY a;subst a;exact(uU wj PySem.F.slot_list_append PySem.F.type_list_append Gv ho b c d f g i).imp λ_ _ _ h=>ox (r9 Oz) h
 ·split at ht
  ·rename_i a;cases ht;have a:=aY a;subst a;exact(uU wj PySem.F.slot_list_extend PySem.F.type_list_extend UD ho b c d f g i).imp λ_ _ _ h=>ox UY h
  ·split at ht
   ·rename_i a;cases ht;have a:=aY a;subst a;exact(uU wj PySem.F.slot_list_insert PySem.F.type_list_insert GR ho b c d f g i).imp λ_ _ _ h=>ox (r9 OC) h
   ·split at ht
    ·rename_i a;cases ht;have a:=aY a;subst a;exact(uU BN IE PySem.F.type_dict_setdefault UA ho b c d f g i).imp λ_ _ _ h=>ox (r9 OD) h
    ·split at ht
     ·rename_i a;cases ht;have a:=aY a;subst a;exact(uU BN PySem.F.slot_dict_pop PySem.F.type_dict_pop (UW j) ho b c d f g i).imp λ_ _ _ h=>ox (r9 OS) h
     ·split at ht
      ·rename_i a;cases ht;have a:=aY a;subst a;exact(uU BN PySem.F.slot_dict_get PySem.F.type_dict_get UX ho b c d f g i).imp λ_ _ _ h=>ox (λ_ _ _ _ _ _ _ _ _ _ _ h R k l=>Tx.get h R k l) h
      ·cases ht
def Zk(ht:Dc name=some (T,w))(ho:PE X o (tE X aa ab fo))(b:attributeBase o name X.env (eval o X.env)=eval o X.env)(c:(qX.endLine==kM.line)=true) :
  PE X (.Call (.Attribute o name qX) [] [] kM) (tE X aa ab (xE T w fo (aW []))):=by
 unfold Dc at ht;split at ht
 ·rename_i a;cases ht;have a:=aY a;subst a;exact(JE wj PySem.F.slot_list_reverse PySem.F.type_list_reverse CL ho b c).imp λ_ _ _ h=>OX (r9 OB) h
 ·grind
def Aj(f b d:PV):cy->Option cy:=λa=>(iA a.h f).bind λc=>match c.2.k with
 | .lst=>(mH b).bind λi=>(NZ c.2.ps.length i).map λj=>⟨a.ρ,a.h.set c.1 ⟨.lst,c.2.ps.set j d⟩⟩
 | .eR t ks=>(ie t b).bind λk=>if ks.length<fL then some ⟨a.ρ,a.h.set c.1 (mK t k d ks c.2.ps)⟩else none
 | _=>none
def adp(K:W.Frag):Jj:=λo i v H Q=>∃aa ab F a b c d f g,Aj c d f a=some g/\Rep K aa ab F a b H/\bO K F c o/\bO K F d i/\bO K F f v/\∀h j,Rep K aa ab j g b h->Gr F j->Q h
def Zl(hu:X.A.units+1150<cLine):Jk X (adp X.K):=by
 rintro w s σ H o i v x y u Q I B C D ⟨aa,ab,F,st,τ,po,pi,pv,cG,e,R,bo,bi,bv,k⟩
 obtain⟨⟨n,c⟩,e1,N⟩:=aO e;clear e;have e:=N;clear N;obtain⟨rfl,hc,h⟩:=eZ e1;obtain⟨a,l,rfl⟩:=c9.mp bo;obtain⟨_,vs,d,f⟩:=R.c.cell n c a hc l h;split at e
 ·rename_i hk;obtain⟨j,p,e⟩:=aO e;obtain⟨m,e3,rfl⟩:=aZ e;rw[fM p]at bi;have hk:=hk;rw[hk]at d;refine JC w s σ H _ _ v x y u Q I B C D ⟨a,vs,j,m,rfl,aE.mp bi,d,by rw[<-f.length];exact e3,k _ F (R.put hc h l aB (f.set bv m)) (Gr.refl _)⟩
 ·rename_i t ks hk;have hk:=hk;obtain⟨kk,p,e⟩:=aO e;obtain⟨Y,rfl⟩:=aF e;rw[hk]at d;cases t with
  | false =>
   obtain⟨b,E,q,J⟩:=d;obtain⟨j,rfl,rfl⟩:=iW p bi;rw[<-J]at f;obtain⟨uj,gw,g,L,M⟩:=JX (j:=j) bv f;have dO:b.length<sizeLine:=by
    have:ks.length=b.length:=by grind
    exact b7 (by grind) (fA (az _))
   rw[q]at g;refine UG w s σ H _ _ v x y u Q I B C D ⟨a,b,j,rfl,rfl,E,dO,k _ F ?_ (Gr.refl _)⟩;simp only[g];exact R.put hc h l ⟨_,aB,L,rfl⟩ M
  | true =>
   obtain⟨Z,E,q,J,g4⟩:=d;obtain⟨cc,rfl,W4⟩:=j7 p bi;refine UH (by lia) w s σ H _ _ v x y u Q I B C D ⟨a,cc,Z,kk,rfl,rfl,E,λz Y=>br R.sub (q z Y),br R.sub W4,(by
    have:ks.length=Z.length:=by grind
    exact b7 (by grind) (fA (az _))),λr hr=>?_⟩
   obtain⟨uj,gw,xl,g,L,M,p4,p5⟩:=Uy bv hr W4 q f g4;rw[J]at g;refine k _ F ?_ (Gr.refl _);simp only[g];exact R.put hc h l ⟨_,aB,M,L,p5⟩ p4
 ·cases e
def Kr(a fo fi:Gx PV):Gx dE:=bnd a λv=>bnd fo λo=>bnd fi λi=>stp (Aj o i v)
def Zm(f:X.A.units+1150<cLine)(he:PE X e (tE X aa ab g))(ho:PE X o (tE X aa ab fo))(j:PE X k (tE X aa ab fi))
  (l:∀v,assign (.Subscript o k a) X.env v=(do
   let b <-holding [v] (eval o X.env)
   let c <-holding [v,b] (eval k X.env)
   standAt a
   holding [v,b,c] (setItem b c v)
   release [v,b,c] []))
  (m:swapsWithSole [.Subscript o k a] e pos.line X.env=pure false) (hw:swappedStores [.Subscript o k a] e X.env=pure none):PS X (.Assign [.Subscript o k a] e pos) (tS X aa ab (Kr g fo fi)) :=
 (Jm he (Tp ho j (Zl f) l) m hw rfl).imp λD σ H ⟨F,st,R,h⟩=>⟨F,st,R,h.bnd λp v F1 q H1 t g1 u w=>⟨F1,q,t,w.bnd λx o F2 y H2 R2 B b2 C=>⟨F2,y,R2,C.bnd λE i I J H3 L d M N=>by
  obtain⟨Q,e,z⟩:=N.stp;exact⟨aa,ab,I,J,σ,x,E,p,Q,e,L,b2.mono d,M,u.mono (B.trans d),λY Z R' g'=>z Z σ Y R' g'⟩⟩⟩⟩
def Ks(t:Bool):Gx PV:=lU ⟨.eR t [],[]⟩
def Zn(t:Bool):PE X (.Dict [] [] pos) (tE X aa ab (Ks t)):=by
 cases t with
 | false=>exact JZ.imp (by rintro σ H Q ⟨F,st,R,h⟩ p hp;exact Tx.lU h R hp ⟨[],aB,rfl,rfl⟩ .nil)
 | true=>exact N6.imp (by rintro σ H Q ⟨F,st,R,h⟩ p hp;exact Tx.lU h R hp ⟨[],aB,(λ_ z=>nomatch z),rfl,.nil⟩ .nil)
end
def ES(K:W.Frag)(b:Str->Option Value)(P:Params)(T:Str)(rows:List (Str×Str)):Prop :=
 ∃a c n,b T=some (.ref a)/\K.lookup a=some ⟨.type "dict",none,.dict c n,#[]⟩/\W.KeysLit P c.toList/\∀k fn,rows.lookup k=some fn->∃f,W.nsIn K a k=some (some (.ref f))/\b fn=some (.ref f)/\W.nsIn K mainGlobals fn=some (some (.ref f))
def adq(K:W.Frag)(a:Addr):R2:=λx y H Q=>∃k u v,x=.ref a/\y=.str k/\W.nsIn K a k=some (some u)/\RelV v u/\Q v H
def UZ:PV->Option Str | .str x=>some x | _=>none
def G5(h:UZ p=some i):p=.str i:=by
 cases p<;>first | (cases h;rfl) | cases h
section
variable {X:Cx} {aa:Hp} {ab:Fz} {e ke:Expr} {es:List Expr} {fk fe ff:Gx PV} {ts:Gx (List PV)} {pos p sp:Pos} {T:Str}
def U0{es:Array DictEntry}(b:X.K.lookup a=some ⟨.type "dict",none,.dict es n,#[]⟩)(hk:W.KeysLit X.w.params es.toList):W7 X (adq X.K a):=by
 rintro value slice l s σ H x y v u Q I d f ⟨k,m,g,ex,h,e,i,q⟩ j
 subst ex h;cases d;obtain⟨t,rfl⟩:=f;have c:=W.mapOf_K (prog:=X.prog) I.rg b hk;exact tail_any c.typeIs slot_dict_getitem.lookup (wpAny_getItem_of (strKind_is X.prog X.w k t) c (W.find_K b e) ⟨g,H,I.tok _,i,q⟩) j
def Kt(NJ:Str->Option PV)(fk:Gx PV):Gx PV:=bnd fk λq=>j3 ((UZ q).bind NJ)
def Zo(ht:ES X.K X.mg X.w.params T rows)(c:Gl X T)(hk:PE X ke (tE X aa ab fk))(d:qc ke)(g:(T==("__debug__":Str))=false):PE X (.Subscript (.Name T p) ke sp) (tE X aa ab (Kt (λk=>(rows.lookup k).map .fn) fk)):=by
 obtain⟨a,i,n,j,l,m,o⟩:=ht;refine(Rg (U0 l m) (Eg (v:=.ref a) c j rfl g) hk d).imp λσ H Q ⟨F,st,R,h⟩=>?_
 refine⟨F,st,R,h.bnd λpk v F1 E r t I b u=>?_⟩
 obtain⟨q,e1,z⟩:=u.j3;obtain⟨k,x,y⟩:=aO e1;obtain⟨fn,B,rfl⟩:=aZ y;rw[G5 x]at b;obtain⟨f,C,J,D⟩:=o k fn B;exact⟨k,.ref f,.ref f,rfl,cO.mp b,C,rfl,z _ r F1 t (Gr.refl _) (rJ.mpr ⟨f,rfl,D⟩)⟩
def RH(X:Cx)(a:List (Str×Nat))(call:Str->oo):Prop:=∀x n,a.lookup x=some n->∃k f b c,FnOk X.prog X.w X.K X.mg X.base (iQ X.prog X.w) k f b c (G1 X.K n (call x))/\dN k X.A/\X.mg x=some (.ref f)/\W.keepIn X.K (.ref f)=true/\gr X.K b c []
def fnP:PV->Option Str | .fn x=>some x | _=>none
def Ku{p:PV}(h:fnP p=some i):p=.fn i:=by
 cases p<;>first | (cases h;rfl) | cases h
def Ak(a:List (Str×Nat))(call:Str->oo)(ff:Gx PV)(ts:Gx (List PV)):Gx PV:=bnd ff λq=>bnd (j3 ((fnP q).bind λx=>(a.lookup x).map λn=>(x,n))) λx=>RG x.2 (call x.1) ts
def xF(v k:Expr)(sp:Pos)(args:List Expr)(pos:Pos)(a:Env):eval (.Call (.Subscript v k sp) args [] pos) a=(do callWith pos (<-eval (.Subscript v k sp) a) [] (backTo pos (starEach args a)) (backToKw pos (keywordEach [] a))):=rfl
def OY{call:Str->oo}(B:RH X fns call)(C:∀x a,W.nsIn X.K mainGlobals x=some (some (.ref a))->X.mg x=some (.ref a))(D:PE X (.Subscript v k sp) (tE X aa ab ff))(E:PA X (e::es) (tA X aa ab ts))
  (he:starEach (e::es) X.env=(false,eval e X.env)::starEach es X.env) (J:(backTo pos (starEach es X.env)).any (·.1)=false):PE X (.Call (.Subscript v k sp) (e::es) [] pos) (tE X aa ab (Ak fns call ff ts)):=by
 rintro o s σ H Q I ⟨F,st,R,h⟩
 rw[xF];refine ag (thn (D o s σ H (λv d=>∃F1 b q,Rep X.K aa ab F1 b σ d/\bO X.K F1 q v/\Tx X aa ab (bO X.K) F1 b (bnd (j3 ((fnP q).bind λx=>(fns.lookup x).map λn=>(x,n))) λx=>RG x.2 (call x.1) ts) σ Q) I
  ⟨F,st,R,h.bnd λq v F1 b d g g1 f i=>⟨F1,b,q,g,f,i⟩⟩) λu s1 ⟨x,d,L,M,F1,b,q,g,f,i⟩=>?_)
 obtain⟨⟨y,n⟩,e1,z⟩:=At.j3 (At.bnd i);obtain⟨y',N,Y⟩:=aO e1;obtain⟨n',Z,t⟩:=aZ Y;simp only[lK]at t;obtain⟨rfl,rfl⟩:=t;rw[Ku N]at f;obtain⟨a,rfl,MY⟩:=rJ.mp f;obtain⟨j,f',fd,ps,G,hr,m1,m2,m3⟩:=B _ _ Z;have:=bI ((C _ a MY).symm.trans m1);cases this;cases M;exact W.callWith_K I.ok.mod.kin m2 (thn (E pos o s1 σ d (λl m=>∃F2 c as,Rep X.K aa ab F2 c σ m/\aA X.K F2 as l/\Tx X aa ab (bO X.K) F2 c (ou _ _ as) σ Q) L
  ⟨F1,b,g,Tx.bnd z λas l F2 c m R2 g2 b2 h2=>⟨F2,c,as,R2,b2,h2⟩⟩) (by rintro us s2 ⟨l,m,w,r,F2,c,as,R2,b2,z⟩;exact⟨w.rg,Zg G hr m3 _ _ _ _ _ _ _ _ _ _ _ _ w R2 b2 r z⟩)) he J
noncomputable def ET(f:Str):List Str->List PV->Option PV
 | g::ns,p::a=>if g=f then some p else ET f ns a
 | _,_=>none
def U1(f:Str)(fe:Gx PV):Gx PV:=bnd fe λp=>hp λh=>match cz h p with
 | some (.oO _ ns,a)=>ET f ns a
 | _=>none
theorem Al{K:W.Frag}:∀{fs:List (Str×V)} {ps:List PV} {p:PV},ET f (fs.map (·.1)) ps=some p->aA K F ps (fs.map (·.2))->f∈fs.map (·.1)/\∃v,fs.lookup f=some v/\bO K F p v
 | [],_,_,h,_=>by cases h
 | (g,v)::r,[],_,h,_=>by cases h
 | (g,v)::r,q::ps,p,h,b=>by
  obtain⟨k,w,e,l,b2⟩:=b.cx;cases e;have h:(if g=f then some q else ET f (r.map (·.1)) ps)=some p:=h
  by_cases a:g=f
  ·grind
  ·rw[if_neg a]at h;obtain⟨c,d,m,i⟩:=Al h b2;have j:(f==g)=false:=by grind
   exact⟨aH _ c,d,by grind,i⟩
def Zp(he:PE X e (tE X aa ab fe))(c:attributeBase e f X.env (eval e X.env)=eval e X.env):PE X (.Attribute e f pos) (tE X aa ab (U1 f fe)):=(TX he c).imp λσ H Q ⟨F,st,R,h⟩=>⟨F,st,R,h.bnd λq v F1 E d b I g i=>by
 obtain⟨o,e,z⟩:=i.hp;split at e
 ·rename_i C J L hd;obtain⟨a,M,rfl,⟨j,k,fs,N,l,m,r,t,u⟩,x⟩:=b.at hd g;subst t u;obtain⟨y,w,B,D⟩:=Al e x;exact⟨a,j,k,fs,w,rfl,r,l,m f y,B,z _ d F1 b (Gr.refl _) D⟩
 ·cases e⟩
noncomputable def pO(f:Str)(q:PV):List Str->List PV->List Str×List PV
 | g::ns,p::a=>if g=f then(g::ns,q::a)else(g::(pO f q ns a).1,p::(pO f q ns a).2)
 | _,_=>([f],[q])
theorem EU{K:W.Frag}(d:bO K F q v):∀{fs:List (Str×V)} {ps:List PV},aA K F ps (fs.map (·.2))->(iM f v fs).map (·.1)=(pO f q (fs.map (·.1)) ps).1/\aA K F (pO f q (fs.map (·.1)) ps).2 ((iM f v fs).map (·.2))/\∀g∈(pO f q (fs.map (·.1)) ps).1,g=f\/g∈fs.map (·.1)
 | [],ps,b=>by
  have e:=nJ b.length;subst e;exact⟨rfl,.cons d .nil,λg a=>.inl (by simpa[pO]using a)⟩
 | (g,w)::r,[],b=>by have:=b.length;simp at this
 | (g,w)::r,p::ps,b=>by
  obtain⟨l,m,e,i,b2⟩:=b.cx;cases e;obtain⟨j,k,o⟩:=EU d b2;by_cases a:g=f
  ·subst a;have e1:iM g v ((g,w)::r)=(g,v)::r:=if_pos rfl;have h:pO g q (((g,w)::r).map (·.1)) (p::ps)=(g::r.map (·.1),q::ps):=if_pos rfl;rw[e1,h];exact⟨rfl,.cons d b2,λy c=>.inr c⟩
  ·have e1:iM f v ((g,w)::r)=(g,w)::iM f v r:=if_neg a;have h:pO f q (((g,w)::r).map (·.1)) (p::ps)=(g::(pO f q (r.map (·.1)) ps).1,p::(pO f q (r.map (·.1)) ps).2):=if_neg a;rw[e1,h];refine⟨by rw[aM,j],.cons i k,λy c=>?_⟩
   rcases aK.mp c with rfl | c
   ·grind
   ·grind
def Kv(K:W.Frag)(b:List Str)(a:List Str):Prop:=∀C,b.contains C=true->∃c,ClsAt K C (.ref c)/\F8 K c/\∀f,a.contains f=true->jk K c f
def adt(b a:List Str)(f:Str)(i g:PV):cy->Option cy:=λd=>(iA d.h i).bind λc=>match c.2.k with
 | .oO C ns=>if(b.contains C&&a.contains f&&decide (ns.length<900))=true then some ⟨d.ρ,d.h.set c.1 ⟨.oO C (pO f g ns c.2.ps).1,(pO f g ns c.2.ps).2⟩⟩else none
 | _=>none
def U2(b a:List Str)(f:Str)(c d:Gx PV):Gx dE:=bnd c λv=>bnd d λo=>stp (adt b a f o v)
def Zq{d b:List Str}(hc:Kv X.K d b)(ho:PE X o (tE X aa ab B))(he:PE X e (tE X aa ab E))(I:swapsWith e (some (.Attribute o f J)) pos.line X.env=pure false):PS X (.Assign [.Attribute o f J] e pos) (tS X aa ab (U2 d b f E B)) :=
 (TY ho he I).imp λD σ H ⟨F,st,R,h⟩=>⟨F,st,R,h.bnd λpv v F1 L H1 M g1 N Q=>⟨F1,L,M,Q.bnd λpo o F2 eX H2 R2 Y b2 Z=>by
  obtain⟨cG,e,z⟩:=Z.stp;obtain⟨⟨n,c⟩,e1,m⟩:=aO e;clear e;have e:=m;clear m;obtain⟨rfl,q,r⟩:=eZ e1;obtain⟨a,t,rfl⟩:=c9.mp b2;obtain⟨_,vs,i,g3⟩:=R2.c.cell n c a q t r;split at e
  ·rename_i C ns hk;have hk:=hk;obtain⟨j,rfl⟩:=aF e;rw[aR,aR]at j;rw[hk]at i;obtain⟨k,u,fs,w,x,k3,k4,rfl,rfl⟩:=i;obtain⟨Cb,m1,m2,y⟩:=hc C j.1.1;have eC:k=Cb:=by
    have:=w.symm.trans m1;cases this;rfl
   subst eC;have dO:=dF j.2;rw[aj]at dO;obtain⟨p1,p2,p3⟩:=EU (N.mono Y) g3;refine⟨a,k,u,fs,rfl,k4,x,y f j.1.2,(Nat.le_add_left_of_le ‹_›),z F2 σ _ (R2.put q r t ⟨k,u,_,w,x,λg l=>?_,aB,p1,rfl⟩ p2) (Gr.refl _)⟩
   rcases p3 g l with rfl | l
   ·exact y _ j.1.2
   ·exact k3 g l
  ·cases e⟩⟩
def adu(st:cy):Rs PV×List ak->Option (Rs PV×cy)
 | (.ok .bB,h)=>(vf h 4 (.ref 0)).map λq=>(.ok q,st)
 | _=>none
def mkP(C:Str)(n:Nat)(g:oo)(ts:Gx (List PV)):Gx PV:=bnd ts λas a=>if as.length+1=n/\(a.h.isEmpty || ai as)=true then(g (.ref 0::as) [⟨.oO C [],[]⟩]).bind (adu a)else none
section
variable {C:Str} {Ca f:Addr} {fd:FuncData} {ps:List Str} {g:oo} {k n:Nat}
def OZ(M:ClsAt X.K C (.ref Ca))(c:F8 X.K Ca)(h:tE X aa ab (mkP C n g ts) σ H Q):Rc Ca (G1 X.K n g) [] E0 (tA X aa ab ts) σ H Q:=by
 obtain⟨F,N,R,h⟩:=h;refine⟨F,N,R,h.bnd λas Y F1 bc l t g1 Z h1 y j E u w=>?_⟩
 obtain⟨q,e1,x⟩:=h1;obtain⟨⟨hl,hn⟩,e1⟩:=bM e1;obtain⟨r,I,B⟩:=aO e1;have i:cu l j (.own y) y=none:=by rw[aI w.symm];exact E
 have J:cL l (cu l j (.own y)):=eF u;have b2:aA X.K ⟨F1.F,[y]⟩ (.ref 0::as) (.ref y::Y):=.cons (c9.mpr ⟨y,rfl,rfl⟩) (vg t hn Z [y]);have C0:kA X.K (cu l j (.own y)) ⟨F1.F,[y]⟩ ⟨F1.F,[y]⟩ [⟨.oO C [],[]⟩] (cu (cu l j (.own y)) y (.oO Ca j [])):=by
  refine⟨λb o e=>eF i _ _ (J _ _ (t.sub _ _ e)),eF i,Gr.refl _,λa o e=>.inl e,λm a e=>?_,rfl,by simp,λm d a e1 x I=>?_⟩
  ·cases m with
   | zero=>cases e;exact⟨i,_,aB⟩
   | succ m=>simp at e
  ·cases m with
   | zero=>cases e1;cases x;exact⟨t.sub.free E,[],⟨Ca,j,[],M,c,(λ_ z=>nomatch z),aB,rfl,rfl⟩,.nil⟩
   | succ m=>simp at e1
 match r,B with
 | (.ok .bB,h'),B =>
  obtain⟨p,e5,rfl⟩:=aZ B;refine⟨_,_,_,.ref 0::as,_,h',C0,λb o e=>?_,by grind,by grind,I,λv F' H' D b'=>⟨dv.mp b',?_⟩⟩
  ·by_cases L:b=y
   ·subst L;exact .inr ⟨0,rfl⟩
   ·rw[aI L]at e;exact .inl e
  ·obtain⟨R3,g3⟩:=t.back J D;exact x _ H' _ R3 g3 (D.vf F1.μ _ _ _ _ e5 (c9.mpr ⟨y,D.base.m 0 y rfl,rfl⟩))
end
end
def Zr(X:Cx)(a:Hp)(b:Fz)(d:Addr)(ω:PV->Gx PV):Prop:=∀(H:Hp) (F:Fz) (st:cy) (σ:St) (c:List (Addr×Obj)) (s:Shared) (Q:VK) (p:PV) (u:Value) (v:V),Inv X c σ H s->Rep X.K a b F st σ H->bO X.K F p v->RelV v u->Tx X a b (bO X.K) F st (ω p) σ Q ->
 wpAny (model X.prog X.w) X.A (call (.ref d) [u]) (EP X c σ Q) X.xe s
structure Am (X:Cx) (aa:Hp) (ab:Fz) (n:Nat) (ω:PV->Gx PV):Prop where
 ex:∃fa o u Zs,ab.μ[n]?=some fa/\X.aa fa=some (.oQ o u)/\o.data=.func Zs/\Zr X aa ab fa ω
def Zt(n:Nat):PV->Option Unit
 | .ref m=>if m=n then some ()else none
 | _=>none
def Kw(i n:Nat)(ω:PV->Gx PV)(fe:Gx PV):Gx PV:=bnd (rd i) λq=>bnd (j3 (Zt n q)) λ_=>bnd fe ω
section
variable {X:Cx} {aa:Hp} {ab:Fz} {e:Expr} {fe:Gx PV} {pos p:Pos} {i n:Nat} {ω:PV->Gx PV} {y:Str}
def Zu(L:Am X aa ab n ω)(hy:PE X (.Name y p) (Nl i))(B:PE X e (tE X aa ab fe))(he:starEach [e] X.env=(false,eval e X.env)::starEach [] X.env):PE X (.Call (.Name y p) [e] [] pos) (tE X aa ab (Kw i n ω fe)):=by
 rintro g s σ H Q I ⟨F,st,R,h⟩
 obtain⟨b,o,u,Zs,hm,C,D,L⟩:=L;refine jh (thn (Ru i hy g s σ H (λv j=>v=.ref b/\∃F1 d,Rep X.K aa ab F1 d σ j/\Tx X aa ab (bO X.K) F1 d (bnd fe ω) σ Q) I ⟨F,st,R,h.bnd λq v F1 d j l g1 b1 E=>?_⟩) λv Y M=>?_)
 ·obtain⟨_,e1,z⟩:=At.j3 (At.bnd E);cases q with
  | ref m =>
   obtain⟨rfl,_⟩:=aF e1;obtain⟨a,B,rfl⟩:=c9.mp b1;have:=l.c.base.m _ _ hm;rw[B]at this;cases this;exact⟨rfl,F1,d,l,z⟩
  | _=>cases e1
 ·obtain⟨z,j,I1,rx,rfl,F1,d,l,E⟩:=M;cases rx;have hP:∀{Z:St} {H':Hp} {N:Shared},Inv X g Z H' N->N.heap.get? b=some o:=λ{Z H' N} J=>(J.hok b _ (J.base.frzs b o u C)).1
  have hk:∀h:Heap,h.get? b=some o->∃k,(k=Keeper.frame\/k=Keeper.machine\/k=Keeper.boundFrame)/\W.Looks (model X.prog X.w) h (keeperOf (.ref b)) k:=λh ho=>by
   obtain⟨c1,c2,c3,c4⟩:=o;cases D;exact⟨.frame,.inl rfl,(W.Looks.ld ho).andThen .now⟩
  have RI:wpAny (model X.prog X.w) X.A (spliced (backTo pos (starEach [e] X.env))) (λus t=>t.heap.get? b=some o/\wpAny (model X.prog X.w) X.A (call (.ref b) ([]++us)) (EP X g σ Q) X.xe t) X.xe Y :=
   thn ((jq B rp he) pos g Y σ j (λvs x=>∃v F2 f p,vs=[v]/\Rep X.K aa ab F2 f σ x/\bO X.K F2 p v/\Tx X aa ab (bO X.K) F2 f (ω p) σ Q) I1 ⟨F1,d,l,E.bnd λp v F2 f x R2 g2 b2 T=>⟨v,F2,f,p,rfl,R2,b2,T⟩⟩)
    λus t M=>by
     obtain⟨vs,x,I2,r,v,F2,f,p,rfl,R2,b2,T⟩:=M;obtain⟨u2,rfl,ru⟩:=jH r;exact⟨hP I2,L x F2 f σ g t Q p u2 v I2 R2 b2 ru T⟩
  rw[he]at RI ⊢;exact W.callWith_of rfl hk (PySem.Calls.evalArgs_plain RI)
end
noncomputable def adx(ρ:List (Option PV)):Rs PV×cy->Option (Rs PV×cy)
 | (.ok p,st)=>some (.ok p,⟨ρ,st.h⟩)
 | _=>none
def O0(fb:Gx PV)(b:List (Option PV)):PV->Gx PV:=λp a=>(fb ⟨some p::b,a.h⟩).bind (adx a.ρ)
def U3(g:X.ex=[])(hL:JL X.aa a qual j body scope cl)(hC:lT X.s₀.heap X.aa scope cl N J)(hF:Lc X.K se m J)(B:Gr se D)(M:dN (k+1) X.A)
  (hb:∀(T d Y u:Value),bindArgs (W.kla_fn "<lambda>" qual j body scope cl T d Y) ⟨[u],[]⟩=pure [(x,u)]) (hk:scope.kind=.function) (T9:scope.isCoroutine=false) (Ua:scope.isGenerator=false) (hx:scope.names.lookup x=some .local) (nc:∀y∈scope.names,y.2≠.cell)
  (hbody:∀(d:Value) (s:Shared) (H Z:Hp) (D:Fz),dN k (X.A.deeper (W.envX qual scope s.heap.objs.size a d cl))->PE (Rj (iQ X.prog X.w) X.prog X.w X.K X.mg X.base (x::N) qual scope a d cl X.A X.stack s H E0) body (tE (Rj (iQ X.prog X.w) X.prog X.w X.K X.mg X.base (x::N) qual scope a d cl X.A X.stack s H E0) Z D fb)):Zr X Z D a (O0 fb m):=by
 rintro H F st σ ae s Q p u v I R b ru ⟨q,e1,e2⟩
 obtain⟨r,e3,E⟩:=aO e1;obtain⟨o,u',T,d,Y,c,oc,uc,vs,t,k1,k2,rfl,k3,k4,k5⟩:=hL;have g1:=(I.hok a _ (I.base.frzs a o u' k1)).1;have g2:=(I.hok c _ (I.base.frzs c oc uc k3)).1;have C:=hC.un (by have:=I.base;rw[g]at this;exact this)
 match r,E with
 | (.ok p',cG),E =>
  cases E;have L:Lc X.K F (some p::m) (some v::J):=⟨λi y e=>by
   cases i with
   | zero=>cases e;exact⟨v,rfl,b⟩
   | succ i =>
    obtain⟨z,h1,h2⟩:=hF.av i y (by grind)
    exact⟨z,by grind,h2.mono (B.trans R.c.base)⟩,by simp[hF.len]⟩
  obtain⟨C0,_⟩:=R.c.enter;refine wpAny_call (nW (N8 g1 k2 ⟨c,oc,vs,t,rfl,g2,k4,k5⟩ M I.NQ (hb _ _ _ _) ru hk T9 Ua hx nc C ⟨_,hbody (.ref c) s H _ F (M.deeper _),F,⟨some p::m,st.h⟩,⟨C0,L⟩,_,e3,λv' H' F' R' g' b'=>e2 v' H' F' ⟨R.c.leave R'.c,R.l.mono g'⟩ g' b'⟩) λr s' f=>?_)
  cases r with
  | error e=>exact zL ae σ H s e s' I f
  | ok fl =>
   cases fl with
   | ret u=>exact I.after f
   | next=>exact False.elim f
   | brk=>exact False.elim f
   | cont=>exact False.elim f
structure sg (X:Cx) (x:Str) (N:List Str) (link:List (Option Nat)) (scope:Scope):Prop where
 kind:scope.kind=.function
 co:scope.isCoroutine=false
 gen:scope.isGenerator=false
 par:scope.names.lookup x=some .local
 cell:∀y∈scope.names,y.2≠.cell
 free:∀y∈scope.names,y.2=.free->(X.env.kindOf y.1=some .cell\/X.env.kindOf y.1=some .free)
 len:link.length=N.length
 link:∀(i j:Nat) (y:Str),link[i]?=some (some j)->N[i]?=some y->X.N[j]?=some y/\scope.names.lookup y=some .free
def O1(I:Inv X M σ H s)(S:sg X x N link scope):lT s.heap H scope (j9 X.env scope.names []) N (gu link σ) where
 inj:=λy z c e a=>I.ok.inj y z c (cf e) (cf a)
 has:=λy B=>by
  have b:=eu B;obtain⟨c,hc⟩:=I.ok.has y (S.free _ b rfl);obtain⟨f,g⟩:=ka scope.names [] b ⟨c,hc⟩;cases z:(j9 X.env scope.names []).lookup y with
  | some p=>exact⟨p,rfl⟩
  | none=>exact absurd g (by intro k;have:=List.lookup_eq_none_iff.mp z (y,f) k;simp at this)
 cell:=λy c h=>I.cell y c (cf h)
 free:=λy c h=>I.freeC y c (cf h)
 val:=λi y v e a=>by
  unfold L2.U.gu at a;rw[bz]at a;cases z:link[i]? with
  | none=>rw[z]at a;cases a
  | some o =>
   rw[z]at a;cases o with
   | none=>cases a
   | some j =>
    have a:(σ[j]?).join=some v:=bI a;obtain⟨C,r⟩:=S.link i j y z e;have b:=eu r;obtain⟨m,_,D⟩:=I.loc;have d:=S.free _ b rfl;obtain⟨u,E,J⟩:=D j y v C (by
     cases w:σ[j]? with
     | none=>rw[w]at a;cases a
     | some q=>rw[w]at a;exact cS some a) (by
     rcases d with q | q
     ·exact .inr (.inl q)
     ·exact .inr (.inr q))
    rcases J with⟨q,_⟩ | ⟨_,c,hc,L⟩
    ·rcases d with l | l<;>rw[q]at l<;>cases l
    ·obtain⟨f,g⟩:=ka scope.names [] b ⟨c,hc⟩;cases t:(j9 X.env scope.names []).lookup y with
     | none=>exact absurd g (by intro k;have:=List.lookup_eq_none_iff.mp t (y,f) k;simp at this)
     | some p =>
      have:=cf t;rw[hc]at this;cases this;exact⟨c,u,r,rfl,L,E⟩
 len:=by unfold L2.U.gu;rw[aj];exact S.len
structure RJ (X:Cx):Prop where
 ex:∃x c T,x∈dA/\W.tabIn X.K x=some (c,T)/\W.codeHdIn X.K c T=true/\X.env.code=.ref c/\X.env.qual++"<lambda>"=zq x
 blt:zJ X.mg X.base
def oneArg(x:Str)(a:Pos):Arguments:={posonlyargs:=[],args:=[{arg:=x,annotation:=none,pos:=a}],vararg:=none,kwonlyargs:=[],kw_defaults:=[],kwarg:=none,defaults:=[]}
def G6(a b c u:Value):bindArgs (W.kla_fn "<lambda>" qual (oneArg x ap) body scope cl a b c) ⟨[u],[]⟩=pure [(x,u)]:=by
 have d:seqItems? Value.none=pure none:=rfl;unfold bindArgs;simp only[oneArg,d,B7];simp[List.lookup]
def mP:ak:=⟨.aq,[]⟩
def Zw(b:(PV->Gx PV)->Nat->oo)(fb:Gx PV)(link:List (Option Nat)):PV->Gx PV:=λp a =>
 (b (O0 fb (bY link a.ρ)) a.h.length [p,.ref a.h.length] (a.h++[mP])).map λr=>(Zf r.1,⟨a.ρ,r.2⟩)
def G7(a:(PV->Gx PV)->Nat->oo)(fe fb:Gx PV)(link:List (Option Nat)):Gx PV:=bnd fe (Zw a fb link)
section
variable {K:W.Frag} {aa H H':Hp} {ab F:Fz} {h:List ak}
def kA.adz(C:kA K aa ab F h H)(hp:F.F p=none)(k:aa p=none)(l:∃o,H p=some o)(m:p∉F.μ):kA K aa ab ⟨F.F,F.μ++[p]⟩ (h++[mP]) H/\Gr F ⟨F.F,F.μ++[p]⟩/\(F.μ++[p])[h.length]?=some p:=by
 have g:Gr F ⟨F.F,F.μ++[p]⟩:=⟨cL.refl _,λn a q=>by
  grind⟩
 have b:∀n a,(F.μ++[p])[n]?=some a->F.μ[n]?=some a\/n=F.μ.length/\a=p:=λn a q=>by
  grind
 refine⟨⟨C.sub,C.keep,C.base.trans g,C.fresh,λn a q=>?_,by simp[C.hl],?_,λn d a hd e hk=>?_⟩,g,by rw[C.hl];simp⟩
 ·rcases b n a q with z | ⟨_,rfl⟩
  ·exact C.new n a z
  ·grind
 ·rw[qK];exact⟨C.nd,by grind⟩
 ·rcases b n a e with z | ⟨rfl,rfl⟩
  ·rw[c5 (by rw[C.hl];exact(bj.mp z).1)]at hd
   obtain⟨f,ws,i,j⟩:=C.cell n d a hd z hk;exact⟨f,ws,i,j.mono g⟩
  ·rw[<-C.hl,je (az _),Nat.sub_self]at hd;cases hd;cases hk
end
section
variable {X:Cx} {aa:Hp} {ab:Fz} {e body:Expr} {fe fb:Gx PV} {scope:Scope} {x:Str} {ap lp p1 pos:Pos} {N Ns:List Str} {link:List (Option Nat)} {fs:Addr} {RK:FuncData} {k:Nat} {st:Stmt} {pr:List Str} {rb:(PV->Gx PV)->Nat->Gx dE}
def Kx(D:Cj X.K "spread" "spread" st fs RK)(mS:X.mg "spread"=some (.ref fs))(bS:gr X.K RK pr [])(scS:dH Ns pr (ax st))(hpr:pr.length=2)(L:RJ X)(hg:Gl X "spread")(hr:dN (k+2) X.A)(he:PE X e (tE X aa ab fe))(nH:starEach [e,.Lambda (oneArg x ap) body scope lp] X.env=(false,eval e X.env)::starEach [.Lambda (oneArg x ap) body scope lp] X.env)(S:sg X x N link scope)
  (Ky:∀(j:Value) (A:Around) (ay:List Env) (s:Shared) (H:Hp) (E:XK) (aa:Hp) (ab:Fz) (n:Nat) (ω:PV->Gx PV),dN (k+1) (A.deeper (envOfC "spread" (ax st) s.heap.objs.size fs j))->Am (fq (iQ X.prog X.w) X.prog X.w X.K X.mg X.base Ns "spread" (ax st) fs j A ay s H E) aa ab n ω ->
   PSs (fq (iQ X.prog X.w) X.prog X.w X.K X.mg X.base Ns "spread" (ax st) fs j A ay s H E) (du st) (tS (fq (iQ X.prog X.w) X.prog X.w X.K X.mg X.base Ns "spread" (ax st) fs j A ay s H E) aa ab (rb ω n)))
  (hbody:∀(qual:Str) (d:Addr) (j:Value) (cl:List (Str×Addr)) (A:Around) (stack:List Env) (s:Shared) (H xG:Hp) (se:Fz),dN k (A.deeper (W.envX qual scope s.heap.objs.size d j cl)) ->
   PE (Rj (iQ X.prog X.w) X.prog X.w X.K X.mg X.base (x::N) qual scope d j cl A stack s H E0) body (tE (Rj (iQ X.prog X.w) X.prog X.w X.K X.mg X.base (x::N) qual scope d j cl A stack s H E0) xG se fb)) :
  PE X (.Call (.Name "spread" p1) [e,.Lambda (oneArg x ap) body scope lp] [] pos) (tE X aa ab (G7 (λω n=>dP (rb ω n) Ns.length) fe fb link)):=by
 rintro ae s σ H Q I ⟨F,st0,R,h⟩
 obtain⟨⟨xn,c,T,l1,l2,l3,l4,l5⟩,hB⟩:=L;have hcl:=rX λy hy hy2=>I.ok.has y.1 (S.free y hy hy2)
 refine jh (ld_glob I hg mS ?_ rfl);refine W.callWith_K I.ok.mod.kin D.kp (thn ((jq he (jq (Ub l1 l2 l3 l4 l5 hB rfl hcl) rp rfl) nH) pos ae s σ H
  (λvs i=>∃v d F1 bc p M,vs=[v,.ref d]/\Rep X.K aa ab F1 bc σ M/\bO X.K F1 p v/\Tx X aa ab (bO X.K) F1 bc (Zw (λω n=>dP (rb ω n) Ns.length) fb link p) σ Q/\M d=none/\cL M i/\(∀b o,i b=some o->M b=some o\/M b=none)/\JL i d (zq xn) (oneArg x ap) body scope (j9 X.env scope.names [])) I
  ⟨F,st0,R,h.bnd λp v F1 bc M C g1 b1 h1 d i hn sm fr hL=>⟨v,d,F1,bc,p,M,rfl,C,b1,h1,hn,sm,fr,hL⟩⟩) λus J z9=>?_) nH rfl
 obtain⟨vs,i,I2,r,v,d,F1,bc,p,M,rfl,C,b1,z,hn,sm,fr,hL⟩:=z9;refine⟨I2.rg,?_⟩;obtain⟨q,e1,e2⟩:=z;obtain⟨⟨rs,h'⟩,e3,e4⟩:=aZ e1;subst e4;obtain⟨o,u,pm,ag8,Ih,c',oc,uc,xl,t,k1,k2,k3⟩:=id hL;have C1:=C.c.after sm (cL.refl _) rfl (C.sub.trans sm) λ_ _ e=>.inl e
 have nfa:d∉F1.μ:=λhm=>by
  obtain⟨n,QX⟩:=qE.mp hm;obtain⟨_,o',nE⟩:=C.c.new n d QX;rw[hn]at nE;cases nE
 obtain⟨C2,g2,hm⟩:=C1.adz (C.sub.free hn) (C.c.keep.free hn) ⟨_,k1⟩ nfa;obtain⟨C3,oq⟩:=C2.enter;have b2:aA X.K ⟨F1.F,F1.μ++[d]⟩ [p,.ref bc.h.length] [v,.ref d]:=.cons (b1.mono g2) (.cons (c9.mpr ⟨d,hm,rfl⟩) .nil);obtain⟨q2,e5,e6⟩:=aO e3;have run:∀Q' Y,UR X.K (pN i (F1.μ++[d])) ⟨F1.F,F1.μ++[d]⟩ h' Q' Y rs->codeAny (model X.prog X.w) X.A (.call (.ref fs) ⟨us,[]⟩) (CR (iQ X.prog X.w) X.stack X.prog X.w i J Q' Y) J:=λQ' Y res=>by
  refine Yu D scS hr I2.NQ (bS J us I2.rg (by rw[dU,<-r.length,hpr];rfl)) (by rw[dU];exact r) (by rw[hpr];rfl) λj=>⟨_,Ky j X.A X.stack J i Y _ _ bc.h.length _ (hr.deeper _) ⟨d,o,u,_,hm,k1,k2,?_⟩,_,⟨gn Ns.length [p,.ref bc.h.length],_⟩,⟨C3,Ah b2⟩,q2,e5,?_⟩
  ·exact U3 rfl hL (O1 I2 S) (C.l.gu link) g2 (hr.deeper _) G6 S.kind S.co S.gen S.par S.cell λj s H xG se Dd=>hbody _ _ _ _ _ _ _ _ _ _ Dd
  ·rcases q2 with⟨f | ⟨m,c⟩,st⟩
   ·cases f with
    | rt=>cases e6;exact λv B H' C' g b'=>res v B H' C' b'
    | nx=>cases e6;exact λB bJ H' R g=>res .bB B H' R.c (dv.mpr rfl)
    | _=>cases e6
   ·cases e6;cases m with
    | true=>exact λB bJ H' ae J h1 a Z vs R sf I hc hm=>EN I hm (EO oq R.c) (res Z B H' R.c hc)
    | false=>exact λbJ ae M J e s' I h=>Ag I h (by rintro Z i ⟨hc,B,R,sf⟩;exact⟨EO oq R.c,res Z B i R.c hc⟩)
 have done:∀Q' Y,(∀e s',iQ X.prog X.w X.stack i J Y e s'->X.xe e s')->UR X.K (pN i (F1.μ++[d])) ⟨F1.F,F1.μ++[d]⟩ h' Q' Y rs->wpAny (model X.prog X.w) X.A (call (.ref fs) us) (EP X ae σ Q') X.xe J:=λQ' Y hx res=>by
  refine wpAny_call (nW (run Q' Y res) λr s' ud=>?_)
  cases r with
  | error e=>exact hx e s' ud
  | ok fl =>
   cases fl with
   | ret u=>exact I2.after ud
   | next=>exact False.elim ud
   | brk=>exact False.elim ud
   | cont=>exact False.elim ud
 cases rs with
 | ok p'=>exact done Q E0 (λe s' hx=>zL ae σ i J e s' I2 hx) λv B H' D' b'=>e2 v H' B ⟨C2.leave D',C.l.mono (g2.trans D'.base)⟩ (g2.trans D'.base) b'
 | ex m c=>exact thn (done (λ_ _=>False) _ (λe s' hx=>e2 σ ae i J e s' I2 hx) λZ B H' D' hc=>⟨hc,B,⟨C2.leave D',C.l.mono (g2.trans D'.base)⟩,g2.trans D'.base⟩) (by rintro v s3 ⟨_,_,_,_,z⟩;exact z.elim)
end
theorem vh{K:W.Frag}:∀a:List Int,aA K F (a.map .int) (a.map V.int)
 | []=>.nil
 | n::r=>.cons (aE.mpr rfl) (vh r)
section
variable {X:Cx} {aa:Hp} {ab:Fz} {e o:Expr} {fe fo:Gx PV} {pos p xJ zp ap cp:Pos}
def An(h:starEach [e] X.env=(false,eval e X.env)::starEach [] X.env)(a:wpAny M A (eval e X.env) (λv s1=>Q [v] s1) E s):wpAny M A (spliced (backTo pos (starEach [e] X.env))) Q E s:=by
 rw[h];exact Calls.spliced_cons (thn a λv s1 q=>Calls.spliced_nil q)
def Ao:bootBuiltins "sorted"=some (.builtin "sorted"):=by kernel_rfl
noncomputable def adB:PV->Option PV
 | .str a=>some (.bl (Txt.isdigit a))
 | _=>none
def U4(fo:Gx PV):Gx PV:=bnd fo λp=>j3 (adB p)
def G8:W8 X "str.isdigit" (λx xs H Q=>∃a,x=.str a/\xs=[]/\Q (.bl (Txt.isdigit a)) H):=by
 rintro f s σ H x xs v us Q I c rs ⟨a,e1,d,q⟩
 subst e1 d;obtain⟨t,rfl⟩:=c;have b:=rs.zero;subst b;exact SC.isdigit ⟨.bl _,H,I,rfl,q⟩
def Zx(ho:PE X o (tE X aa ab fo))(a:attributeBase o "isdigit" X.env (eval o X.env)=eval o X.env)(b:(ap.endLine==cp.line)=true):PE X (.Call (.Attribute o "isdigit" ap) [] [] cp) (tE X aa ab (U4 fo)) :=
 (JE F.plainAttrs_str F.slot_str_isdigit F.type_str_isdigit G8 ho a b).imp λσ H Q ⟨F,st,R,h⟩=>⟨F,st,R,h.bnd λp v F1 i c d j f g=>by
  obtain⟨o,e,z⟩:=g.j3;cases p<;>cases e
  rw[cO.mp f];exact⟨rfl,_,rfl,rfl,z _ c F1 d (Gr.refl _) (b8.mpr rfl)⟩⟩
end
end L2.U
namespace PySem
open PyProof.Rows
namespace F
def fB:entryFor table "dict.update.loop"=some Builtin.«dict.update.loop» := entryFor_of_tree (by kernel_rfl)
def cY:plainId "dict.update.loop"=true:=by decide +kernel
end F
section
variable {prog:Program} {w:World} {K:Type} [DecidableEq K] {knd:KeyKind prog w K} {A:Around} {R:Result->Shared->Prop} {I:Addr} {fp wr:List Addr} {G:Array GenState->Array GenState->Prop} {n:Nat} {P:Nat->Value->Prop} {St:Nat->Shared->Prop}
def Ap(h:Heap)(b:Addr)(key v:Value):Prop:=∃o m,h.get? b=some o/\o.cls=.type "tuple"/\o.data=.seq #[key,v] m
def pP(hp:Ap s.heap b key v)(h:Q [key,v] s):wpAny (model prog w) A (Builtin.Dict.pairItems (.ref b)) Q E s:=by
 obtain⟨o,m,d,a,c⟩:=hp;unfold Builtin.Dict.pairItems;refine ag (qU ⟨o,d,a⟩ ?_);rw[if_pos (by decide)]
 refine ag ?_;unfold seqItems?;obtain⟨e,f,g,i⟩:=o;simp only at a c;subst a c
 wp_walk
 exact h
def G9(W:WalksS prog w A.in1 I fp wr G n P St)(S:Addr)(j:S∉fp)(hl:kvs.length=n)(hn:n<=sizeLine){s₀:Shared}
  (Q:∀i v,P i v->∃b k key u,v=.ref b/\kvs[i]?=some (k,u)/\knd.is k key=true/\b∉S::wr/\Ap s₀.heap b key u) :
  ∀(c i:Nat) (s:Shared),n-i=c->i<=n->St i s->(∀b o,b∉S::wr->s₀.heap.get? b=some o->s.heap.get? b=some o)->s.heap.DictOf knd S (merged [] (kvs.take i)) ->
   (∀a,Moved (S::wr) G s a->a.heap.DictOf knd S (merged [] kvs)->R (.ok (.ret .none)) a) ->
   codeAny (model prog w) A (.builtin "dict.update.loop" ⟨[.ref S,.ref I,rawInt (i:Int),.none],[]⟩) R s:=by
 have l:S∉wr:=λh=>j (W.sub _ h)
 have L:∀b∈wr,b∈S::wr:=by grind
 intro c;induction c with
 | zero =>
  intro i s hk T q ho hS t;have X:i=n:=by lia
  subst X;refine Cd F.fB ?_;rw[BV F.cY _];refine ag (W.done s _ _ q λa g=>?_)
  refine ag (aw ?_);rw[qD (jY ‹_›)]at hS;refine aw (t a (g.mono L) ?_);obtain⟨o,x,y,p,r⟩:=hS;exact⟨o,x,y,g.heap S _ l p,r⟩
 | succ c ih =>
  intro i s hk T q ho hS t;have M:i<n:=by lia
  refine Cd F.fB ?_;rw[BV F.cY _];refine ag (W.item i s _ _ M q λv a Y B g=>?_)
  obtain⟨b,k,key,u,rfl,C,Z,D,Zz⟩:=Q i v Y;have N:∀b o,b∉S::wr->s₀.heap.get? b=some o->a.heap.get? b=some o:=λb o d e=>g.heap b o (λz=>d (aH _ z)) (ho b o d e)
  refine ag (fI ?_);refine ag (wpAny_tryCatch (pP (by
   obtain⟨o,m,p,r⟩:=Zz;exact⟨o,m,N b o D p,r⟩) ?_))
  refine fI ?_;have hsz:(merged [] (kvs.take i)).length<=sizeLine:=by
   have:=merged_length_le ([]:List (K×Value)) (kvs.take i);rw[jV]at this;simp at this
   lia
  refine wpAny_dictSet_pairs Z (by
   obtain⟨o,x,y,p,r⟩:=hS;exact⟨o,x,y,g.heap S _ l p,r⟩) λh' hd f=>?_
  rw[<-merged_take_succ _ _ _ _ C]at hd;have E:∀b o,b∉S::wr->s₀.heap.get? b=some o->h'.get? b=some o:=λb o d e=>(f.2 b (λh:b=S=>d (by grind))).trans (N b o d e)
  refine aw ⟨plainId_quiet F.cY _,ih (i+1) _ (by lia) M (W.frame _ a _ _ B (nQ ..) λb d o e=>?_) E hd λNT H J=>?_⟩
  ·exact(f.2 b (λh:b=S=>j (by grind))).trans e
  ·refine t NT (Moved.trans W.gtrans ((g.mono L).then_heap (nQ ..) λb o d e=>?_) H) J
   exact(f.2 b (λh:b=S=>d (by grind))).trans e
end
namespace F
def um:typeLookup (.type "tuple") "keys"=pure none:=by rw[typeLookup_type,builtinLookup_eq_fast];kernel_rfl
end F
section
variable {prog:Program} {w:World} {A:Around} {E:Value->Shared->Prop} {s:Shared} {a:Addr} {o:Obj} {xs:Array Value} {k:Nat} {Q:Option Value->Shared->Prop}
def pQ(i:s.heap.get? a=some o)(hc:o.cls=.type "tuple")(j:o.data=.seq xs k)(hd:o.dict=none)(q:A.handled=none)
  (h:∀h' tk,(∀b l,s.heap.get? b=some l->h'.get? b=some l)->Q none {s with heap:=h',toks:=tk}) :
  wpAny (model prog w) A (getAttr? (.ref a) "keys") Q E s:=by
 obtain⟨c,r,t,u⟩:=o;simp only at hc j hd;subst hc j hd;obtain⟨hp,g,d,tk,v⟩:=s;have m:∀f,(⟨hp,g,d,f,v⟩:Shared).TypeIs (.ref a) "tuple":=λ_=>⟨_,i,rfl⟩
 have x:=sub_AttributeError;have y:=BI.lookup;have B:=BI.bind (.ref a);have C:=am_tuple_getattr_none;unfold getAttr? getAttrBy? getAttrBy
 repeat (any_goals (first | assumption | exact m _ | ((with_reducible show wpAny _ _ (call (Value.builtin "tuple.__getattribute__") _ _) _ _ _);refine lO BI (m _) am_entry_tuple_getattribute (F.args_tuple_getattribute_2 _ _) (meets_getattribute_miss_tuple a xs k u "keys" _ F.um (by decide +kernel) (by decide +kernel)) ⟨i,q,λh' f e p=>?_⟩) | wp_step))
 obtain⟨D,H,he⟩:=p.there;show wpAny _ _ (getattributeRaised _ _ _ _ _ _ _) _ _ _;unfold getattributeRaised
 repeat (any_goals (first | assumption | wp_step))
 exact h _ _ p.keeps
end
section
variable {prog:Program} {w:World} {A:Around} {E:Value->Shared->Prop} {s:Shared} {K:Type} [DecidableEq K] {knd:KeyKind prog w K}
def De(M:A.handled=none)(N:s.heap.get? l=some ol)(hc:ol.cls=.type "tuple")(R:ol.data=.seq items m)(t:ol.dict=none)
  (Y:∀(i:Nat) (v:Value),items[i]?=some v->∃b k key u,v=.ref b/\kvs[i]?=some (k,u)/\knd.is k key=true/\Ap s.heap b key u) (x:kvs.length=items.size) (j:items.size<=sizeLine)
  (h:∀(h':Heap) (tk:Nat),h'.DictOf knd s.heap.objs.size (merged [] kvs)->(∀b o,b<s.heap.objs.size->s.heap.get? b=some o->h'.get? b=some o)->Q (.ref s.heap.objs.size) {s with heap:=h',toks:=tk}) :
  wpAny (model prog w) A (call (.type "dict") [.ref l]) Q E s:=by
 refine callType_codes (Q₁:=λobj a=>obj=.ref s.heap.objs.size/\a={s with heap:=s.heap.push {cls:=.type "dict",data:=.dict #[]}}) F.kt_called_dict (F.kt_typeCall_dict_1 _) F.entry_dict_init (kt_code_dict_new _ ⟨rfl,rfl⟩) ?_
 rintro obj a ⟨rfl,rfl⟩
 have y:(s.heap.push {cls:=.type "dict",data:=.dict #[]}).DictOf knd s.heap.objs.size []:=Heap.DictOf.new s.heap
 have B:(s.heap.push {cls:=.type "dict",data:=.dict #[]}).get? l=some ol:=bf _ N
 have C:=aX N;refine⟨y.typeIs,F.args_dict_init_2 _ _,?_⟩;unfold Builtin.«dict.__init__»;refine ag ?_;unfold Builtin.Dict.selfAndRest;refine ag (BS y.typeIs ?_);refine aw ?_;show wpAny _ _ (Builtin.Dict.updateFrom "dict.__init__" s.heap.objs.size (.ref l) [] .none) _ _ _;unfold Builtin.Dict.updateFrom;refine ag (qU ⟨ol,B,hc⟩ ?_);rw[if_pos (by decide)]
 refine ag (pQ B hc R t (by simp[M]) λd Z p=>?_)
 rw[if_pos (show(none:Option Value).isNone=true from rfl)]
 have ZA:=p l ol B;have T:d.DictOf knd s.heap.objs.size []:=by
  obtain⟨o,D,H,f,r⟩:=y;exact⟨o,D,H,p _ _ f,r⟩
 have g:d.IsTuple l items:=⟨ol,ZA,hc,m,R⟩;refine ag (qW ?_);refine ag ?_;refine B0 g ?_;refine aw ⟨plainId_quiet F.cY _,?_⟩;have c:s.heap.objs.size<d.objs.size:=by
  obtain⟨o,_,_,f,_⟩:=T;exact aX f
 have I:=bD (lL C c);have U5:∀i (v:Value),items[i]?=some v->∃b k key u,v=.ref b/\kvs[i]?=some (k,u)/\knd.is k key=true/\b∉[s.heap.objs.size,d.objs.size]/\Ap s.heap b key u:=λi v hv=>by
  obtain⟨b,k,key,u,e1,e2,e3,X⟩:=Y i v hv;refine⟨b,k,key,u,e1,e2,e3,?_,X⟩;obtain⟨o,_,ho,_⟩:=X;have:=aX ho;simp only[aK,fx,fK,not_or];exact⟨bD this,bD (lL this c)⟩
 refine G9 (knd:=knd) (s₀:=s) ((Walks.tuple (by simp[M]) d.objs.size l I items).toS) s.heap.objs.size (by grind) x j U5 (items.size-0) 0 _ (by lia) (fJ _) ⟨⟨_,cP _ rfl,rfl,rfl⟩,g.push _⟩ (λb o _ e=>bf _ (p _ _ (bf _ e))) ?_ ?_
 ·obtain⟨o,D,H,f,r⟩:=T;exact⟨o,D,H,bf _ f,r⟩
 ·intro s' q J;obtain⟨h',g',d',L,X7⟩:=s';have eg:g'=s.gens:=q.gens;have ed:d'=s.drawn:=q.drawn;have eo:X7=s.os:=q.os;subst eg;subst ed;subst eo;refine⟨rfl,h h' L J λb o j e=>?_⟩
  refine q.heap b o ?_ (bf _ (p _ _ (bf _ e)));simp only[aK,fx,fK,not_or];exact⟨bD j,bD (lL j c)⟩
end
end PySem
namespace L2.U
open PySem PySem.Spec PyProof.Rows
section
variable {X:Cx} {a b:Expr} {ta tb:TE} {p cp bp:Pos}
def oX(K:W.Frag)(H:Hp):List V->List (bh×V)->Prop:=Paired λv d=>∃c,v=.ref c/\gX K H c [kV d.1,d.2]
def mQ(kvs:List (bh×V)):List (bh×V):=kvs.foldl (λc d=>putK c d.1 d.2) []
def ZC(K:W.Frag):R2:=λx y H Q=>∃a b d e c,x=.ref a/\y=.ref b/\gX K H a d/\gX K H b e/\d≠[]/\e≠[]/\d.length+e.length<=1000/\oX K H (d++e) c/\∀p,H p=none->Q (.ref p) (cu H p (.dK (mQ c)))
theorem Aq:∀{kvs:List (bh×V)} {vs:List (bh×Value)} {acc:List (bh×V)} {d:List (bh×Value)},L2.KV kvs vs->L2.KV acc d->L2.KV (kvs.foldl (λacc c=>putK acc c.1 c.2) acc) (vs.foldl (λacc c=>stored acc c.1 c.2) d)
 | _,_,_,_,.nil,h=>h
 | _,_,_,_,.cons (a:=x) r t,h=>by
  have e:=h.put x.1 r.2;rw[Cc,Cc];rw[r.1]at e ⊢;exact Aq (t) e
def Kz(f:List (bh×V)):∀acc:List (bh×V),(f.foldl (λacc c=>putK acc c.1 c.2) acc).length<=acc.length+f.length:=by
 induction f with
 | nil=>intro acc;simp
 | cons x f ih =>
  intro acc;have:=ih (putK acc x.1 x.2);have:=EE acc x.1 x.2;rw[Cc,aN]
  lia
theorem EV(I:Inv X L σ H s):∀{vs:List V} {kvs:List (bh×V)},oX X.K H vs kvs->∀{d:List Value},Vals vs d->∃f:List (bh×Value),L2.KV kvs f/\f.length=d.length/\∀(i:Nat) (u:Value),d[i]?=some u->∃b k key w,u=.ref b/\f[i]?=some (k,w)/\(b9 X.prog X.w).is k key=true/\Ap s.heap b key w
 | _,_,.nil,d,r=>by
  cases r;exact⟨[],.nil,rfl,λi u h=>by cases h⟩
 | _,_,.cons (b:=g) q t,d,r=>by
  cases r with
  | cons l m =>
   obtain⟨f,v,x,y⟩:=EV I t m;obtain⟨c,rfl,B⟩:=q;obtain⟨M,C,⟨o,D,E,n,J⟩,_⟩:=I.tuple B;obtain⟨key,w,e,hk,hw⟩:=C.two;subst e;cases l;refine⟨(g.1,w)::f,.cons ⟨rfl,hw⟩ v,by rw[aN,aN,x],λi u j=>?_⟩
   cases i with
   | zero =>
    cases j;exact⟨c,g.1,key,w,rfl,rfl,oV hk,o,n,D,E,J⟩
   | succ i=>exact y i u j
def O2(J:X.A.handled=none)(L:Gl X "dict")(M:X.mg "dict"=none)(N:PE X a ta)(R:PE X b tb)(B:starEach [.BinOp a .Add b bp] X.env=[(false,eval (.BinOp a .Add b bp) X.env)]):PE X (.Call (.Name "dict" p) [.BinOp a .Add b bp] [] cp) (W5 (ZC X.K) ta tb):=by
 intro ae s σ H Q I h;refine Call_ (ld_blt I L M (show bootBuiltins "dict"=some (.type "dict") by decide +kernel) (ir (An B (wpAny_BinOp (NB N R I h λv u j x y H2 d T Y q=>?_))) B rfl))
 obtain⟨t1,t2,xs,ys,l,rfl,rfl,Z,h2,h3,h4,h5,h6,q⟩:=q;cases T;cases Y;obtain⟨f,m,p1,_⟩:=d.tuple Z;obtain⟨g,r,p2,_⟩:=d.tuple h2;have hz:f.length+g.length<=1000:=by rw[<-m.length,<-r.length];exact h5
 have afk:1000<=sizeLine:=by decide
 refine HT.Ej p1 p2 (λz=>h3 (m.mv.mp z)) (λz=>absurd (r.mv.mp z) h4) (λz=>?_) (bP ‹_› ‹_›)
 obtain⟨Xc,C,D,g3⟩:=EV d h6 (m.append r);obtain⟨O3,ahg⟩:=nw (j.heap.push {cls:=.type "tuple",data:=.seq (f++g).toArray})
 have hsz:(f++g).toArray.size=f.length+g.length:=by simp
 refine De (knd:=b9 X.prog X.w) J (cP _ rfl) rfl rfl rfl (λi v E=>?_) (by rw[D];simp) (by grind) λh' tk dd kp=>?_
 ·rw[List.getElem?_toArray]at E;obtain⟨c,k,t,w,e1,e2,e3,o,n,e4,e5⟩:=g3 i v E;exact⟨c,k,t,w,e1,e2,e3,o,n,bf _ e4,e5⟩
 ·have hS:j.heap.objs.size<=(j.heap.push {cls:=.type "tuple",data:=.seq (f++g).toArray}).objs.size:=by simp_all
  have N4:=Aq C .nil;refine⟨.ref _,_,d.laid (λb u e=>kp b u (b7 (aX e) hS) (bf _ e)) hS ?_,rfl,q _ (d.hok.fresh hS)⟩
  refine⟨?_,fu.mpr (dz (bD (b7 (rG d) hS))),_,N4,dd⟩;have:=Kz l [];have e:=nU C;rw[aV]at D;unfold mQ;simp only[wL]at this
  lia
end
def EW:PV->Option (bh×PV)
 | .nd .aq [k,v]=>(zT k).map λj=>(j,v)
 | _=>none
def vi:List (bh×PV)->ak->ak
 | [],c=>c
 | (k,v)::r,c=>match c.k with
  | .eR t ks=>vi r (mK t [k] v ks c.ps)
  | _=>c
def Ha(ps:List PV):Option ak:=if ps.length<=1000 then(cb EW ps).map λa=>vi a ⟨.eR false [],[]⟩else none
section
variable {K:W.Frag} {F:Fz}
theorem Ar:∀{ps:List PV} {kvs:List (bh×PV)} {vs:List V},cb EW ps=some kvs->aA K F ps vs->∃ks:List (bh×V),oX K F.F vs ks/\ks.map (·.1)=kvs.map (·.1)/\aA K F (kvs.map (·.2)) (ks.map (·.2))
 | [],_,_,h,b=>by
  cases h;rw[b.cX];exact⟨[],.nil,rfl,.nil⟩
 | p::ps,kvs,vs,h,b=>by
  obtain⟨u,r,a,e,rfl⟩:=d8 h;obtain⟨v,w,rfl,f,b2⟩:=b.cx;obtain⟨ks,g,i,l⟩:=Ar e b2;unfold EW at a;split at a
  ·rename_i k q;obtain⟨j,e1,rfl⟩:=aZ a;obtain⟨c,ws,rfl,d,m⟩:=cg.mp f;obtain⟨x,y,rfl,o,t⟩:=js m;rw[rW e1 o]at d;exact⟨(j,y)::ks,.cons ⟨c,rfl,d⟩ g,by rw[aM,aM,i],.cons t l⟩
  ·cases a
theorem EX:∀{kvs:List (bh×PV)} {ks:List (bh×V)} {acc:List (bh×V)} {ps:List PV},ks.map (·.1)=kvs.map (·.1)->aA K F (kvs.map (·.2)) (ks.map (·.2))->aA K F ps (acc.map (·.2)) ->
  ∃d f,vi kvs ⟨.eR false (acc.map λy=>[y.1]),ps⟩=⟨.eR false d,f⟩/\(ks.foldl (λacc b=>putK acc b.1 b.2) acc).map (λy=>[y.1])=d/\aA K F f ((ks.foldl (λacc b=>putK acc b.1 b.2) acc).map (·.2))
 | [],ks,acc,ps,a,g,c=>by
  have:=List.map_eq_nil_iff.mp a;subst this;exact⟨_,_,rfl,rfl,c⟩
 | (k,q)::kvs,[],acc,ps,a,g,c=>by cases a
 | (k,q)::kvs,(j,v)::ks,acc,ps,a,g,c=>by
  simp only[aM,B9]at a;obtain⟨rfl,a⟩:=a;obtain⟨u,w,e,l,b2⟩:=g.cx;cases e;obtain⟨d,f,e1,m,o⟩:=JX l c;obtain⟨h,i,p,r,t⟩:=EX a b2 o;refine⟨h,i,?_,r,t⟩;show vi kvs (mK false [j] q (acc.map λy=>[y.1]) ps)=_
  rw[e1,<-m];exact p
end
def O4{K:W.Frag}(h:Ha ps=some c)(b:aA K F ps vs):∃ks:List (bh×V),oX K F.F vs ks/\ps.length<=1000/\∃a d,c=⟨.eR false a,d⟩/\(mQ ks).map (λy=>[y.1])=a/\aA K F d ((mQ ks).map (·.2)):=by
 obtain⟨e,h⟩:=bM h;obtain⟨f,g,rfl⟩:=aZ h;obtain⟨ks,i,j,k⟩:=Ar g b;obtain⟨a,l,e1,m,o⟩:=EX (acc:=[]) j k .nil;exact⟨ks,i,e,a,l,e1,m,o⟩
theorem oX.mono{K:W.Frag}(h:cL F G):∀{vs:List V} {ks:List (bh×V)},oX K F vs ks->oX K G vs ks
 | _,_,.nil=>.nil
 | _,_,.cons ⟨c,e,q⟩ t=>.cons ⟨c,e,br h q⟩ (oX.mono h t)
def O5:PV->Option (List PV)
 | .nd .aq a=>some a
 | _=>none
def adK(p q:PV):Gx PV:=λd=>(O5 p).bind λa=>(O5 q).bind λb=>if(a.isEmpty || b.isEmpty)=true then none else(Ha (a++b)).bind λc=>lU c d
def EY(a fb:Gx PV):Gx PV:=bnd a λp=>bnd fb λq=>adK p q
section
variable {X:Cx} {aa:Hp} {ab:Fz} {a b e:Expr} {fa fb fe:Gx PV} {p cp bp:Pos}
def U7(m:X.A.handled=none)(o:Gl X "dict")(t:X.mg "dict"=none)(u:PE X a (tE X aa ab fa))(w:PE X b (tE X aa ab fb))(x:starEach [.BinOp a .Add b bp] X.env=[(false,eval (.BinOp a .Add b bp) X.env)]):PE X (.Call (.Name "dict" p) [.BinOp a .Add b bp] [] cp) (tE X aa ab (EY fa fb)) :=
 (O2 m o t u w x).imp λσ H Q ⟨F,st,R,h⟩=>⟨F,st,R,h.bnd λq v F1 y H1 B g1 C D=>⟨F1,y,B,D.bnd λE v2 F2 I H2 R2 J b2 L=>by
  obtain⟨r,e1,M⟩:=L;obtain⟨N,i,e1⟩:=aO e1;obtain⟨T,j,e1⟩:=aO e1;split at e1
  ·cases e1
  ·rename_i d;obtain⟨c,Y,e1⟩:=aO e1;have Z:q=.aq N:=by
    unfold O5 at i;split at i
    ·grind
    ·cases i
   have t2:E=.aq T:=by
    unfold O5 at j;split at j
    ·grind
    ·cases j
   subst Z t2;obtain⟨a1,vs,rfl,k,f⟩:=cg.mp (C.mono J);obtain⟨a2,ws,rfl,MV,g⟩:=cg.mp b2;obtain⟨ks,k1,l,uj,gw,rfl,e6,e7⟩:=O4 Y (f.append g);simp only[wI,wH,not_or]at d;rw[aV]at l;refine⟨a1,a2,vs,ws,ks,rfl,rfl,br R2.sub k,br R2.sub MV,λz=>d.1 ?_,λz=>d.2 ?_,by rw[<-f.length,<-g.length];exact l,k1.mono R2.sub,λp hp=>?_⟩
   ·subst z;exact nJ f.length
   ·subst z;exact nJ g.length
   ·exact Tx.lU (show Tx X aa ab (bO X.K) F2 I (lU ⟨.eR false uj,gw⟩) σ Q from⟨r,e1,M⟩) R2 hp ⟨mQ ks,aB,e6,rfl⟩ e7⟩⟩
end
noncomputable def U8:List PV->Option (List Int)
 | [.int n]=>if 0<=n/\n<=1000 then some (rangeInts 0 1 n.toNat)else none
 | [.int a,.int b]=>if 0<=a/\a<=b/\b<=1000 then some (rangeInts a 1 (b-a).toNat)else none
 | _=>none
def As(m:Nat)(ps:List PV):Gx PV:=λa=>match m with
 | 0=>some (.ok (.lst ps),a)
 | _=>lU ⟨.lst,ps⟩ a
def lrg(m:Nat)(a:Gx (List PV)):Gx PV:=bnd a λb=>bnd (j3 (U8 b)) λl=>As m (l.map .int)
def qV:bootBuiltins "range"=some (.type "range"):=by kernel_rfl
section
variable {X:Cx} {aa:Hp} {ab:Fz} {e:Expr} {es:List Expr} {ts:Gx (List PV)} {pos p xJ zp:Pos} {m:Nat}
def Tx.As{st:cy}(h:Tx X aa ab (bO X.K) F st (As m ps) σ Q)(R:Rep X.K aa ab F st σ H)(a:H q=none)(b:aA X.K F ps vs):Q (.ref q) (cu H q (.lst vs)):=by
 cases m with
 | zero =>
  obtain⟨r,e1,d⟩:=h;cases e1;obtain⟨R2,c⟩:=R.laid (.lst vs) a;exact d _ _ _ R2 c (gv.mpr ⟨q,vs,rfl,k9.of aB,b.mono c⟩)
 | succ m=>exact Tx.lU (h) R a aB b
def Df(h:ItemsOf (fun(i:Nat) (v:Value)=>∃t:Tok,v=Value.int (a+i*c) t) acc n):Vals ((rangeInts a c n).map V.int) acc.toList:=by
 have:∀l k,(∀j v,l[j]?=some v->∃t:Tok,v=Value.int (a+(k+j:Nat)*c) t)->Vals (((List.range' k l.length).map fun(i:Nat)=>a+i*c).map V.int) l:=by
  intro l;induction l with
  | nil=>intro k _;exact .nil
  | cons x l ih =>
   intro k d;obtain⟨t,ht⟩:=d 0 x rfl;rw[aN,List.range'_succ,aM,aM];refine .cons ⟨t,by rw[ht];rfl⟩ (ih (k+1) λj v b=>?_)
   have:=d (j+1) v (by simpa using b)
   rw[show k+(j+1)=k+1+j by lia]at this
   exact this
 have f:=this acc.toList 0 λj v b=>by
  rw[iy];exact h.2 j v (by rw[<-BQ];exact b)
 rw[iu,h.1,<-List.range_eq_range']at f;exact f
def ZE(hh:X.A.handled=none)(ZF:Gl X "list")(U9:X.mg "list"=none)(hg:Gl X "range")(hm:X.mg "range"=none)(ha:PA X (e::es) (tA X aa ab ts))(hs:starEach (e::es) X.env=(false,eval e X.env)::starEach es X.env)(MV:(backTo xJ (starEach es X.env)).any (·.1)=false) :
  PE X (.Call (.Name "list" p) [.Call (.Name "range" zp) (e::es) [] xJ] [] pos) (tE X aa ab (lrg m ts)):=by
 rintro T s σ H Q I ⟨F,st,Rp,h⟩
 refine jh (ld_blt I ZF U9 (kB .list) ?_ (by decide) (by decide))
 refine ir (An rfl ?_) rfl rfl;have hA:=ha xJ T s σ H (λq H'=>∃x Y g,Rep X.K aa ab x Y σ H'/\aA X.K x g q/\Tx X aa ab (bO X.K) x Y (bnd (j3 (U8 g)) λl=>As m (l.map .int)) σ Q) I ⟨F,st,Rp,h.bnd λg q F1 Z H1 y g1 j d=>⟨F1,Z,g,y,j,d⟩⟩
 refine Call_ (ld_blt I hg hm qV (ir (thn hA λus s1 z9=>?_) hs MV))
 obtain⟨q,H1,I1,k,F1,Z,g,y,j,d⟩:=z9;obtain⟨B,i,d⟩:=At.j3 (At.bnd d);have la:∀r d f (a b c:Int) (t u v:Tok) (n:Nat),(∀b o,s1.heap.get? b=some o->d.get? b=some o)->IsRange d r a b c t u v->Builtin.Range.small a b c=true->Builtin.Range.rangeSize a b c=n->n<=3000->B=rangeInts a c n ->
   wpAny (model X.prog X.w) X.A (call (.type "list") [.ref r]) (EP X T σ Q) X.xe {s1 with heap:=d,toks:=f}:=λr C f a b c t u v n hk hr D hn zU JI=>by
  refine call_list_range hh hr D hn (by lia) λh' tk E c' J hS si=>?_
  have I2:=I1.kept (t':=f) hk;have hz:=I2.hok.fresh (az _);have hv:=Df si;rw[<-JI]at hv;refine⟨.ref C.objs.size,cu H1 C.objs.size (.lst (B.map V.int)),I2.laid J (az _) ⟨?_,E.toList,c',hv,hS⟩,rfl,Tx.As d y hz (vh B)⟩;rw[aj,JI,rangeInts_length];exact bP zU (by decide)
 clear d;unfold U8 at i;split at i
 ·rename_i n;obtain⟨⟨h0,d⟩,e1⟩:=aF i;obtain⟨v,rfl,bv⟩:=dJ j;rw[aE.mp bv]at k;obtain⟨u,rfl,ru⟩:=jH k;obtain⟨tk0,rfl⟩:=ru;refine call_range_1 ?_;refine la _ _ _ 0 n 1 _ _ _ n.toNat (λb o e=>bf _ e) (wV ..) ?_ ?_ (by lia) e1.symm
  ·exact small_one (by decide) (by decide) (by lia) (by lia)
  ·unfold Builtin.Range.rangeSize;rw[if_pos (by decide)]
   split<;>lia
 ·rename_i a b;obtain⟨⟨h0,d,C⟩,e1⟩:=aF i;obtain⟨v1,v2,rfl,L,M⟩:=js j;rw[aE.mp L,aE.mp M]at k;obtain⟨u1,u2,rfl,N,R⟩:=Rb k;obtain⟨k1,rfl⟩:=N;obtain⟨k2,rfl⟩:=R;refine call_range_2 ?_;refine la _ _ _ a b 1 _ _ _ (b-a).toNat (λb o e=>bf _ e) (wV ..) (small_one (by lia) (by lia) (by lia) (by lia)) (rangeSize_nat a b) (by lia) e1.symm
 ·cases i
end
end L2.U
namespace PySem
open PyProof.Rows PySem.W
section
variable {prog:Program} {w:World} {A:Around} {d:Addr} {es:Array DictEntry} {ep:Nat}
def Raw.at{h h':Heap}(x:Raw h d es ep)(e:∀o,h.get? d=some o->h'.get? d=some o):Raw h' d es ep:=let ⟨o,ho,r⟩:=x;⟨o,e _ ho,r⟩
def Hb(k:A.handled=none)(I:Addr)(f:d≠I):Walks prog w A I [I,d] [I] es.size (λi v=>∃e,es[i]?=some e/\e.key=v) (λi h=>h.IsKeyIter I d i es.size ep/\Raw h d es ep) where
 sub:=λb c=>by simp at c;simp[c]
 frame:=λ_ _ _ a hk=>⟨a.1.at λo e=>hk I (by simp) o e,a.2.at λo e=>hk d (by simp) o e⟩
 item:=λi s Q E m a g=>mN k a.1 a.2 (λe he j it l=>g _ j s.toks ⟨e,he,rfl⟩ ⟨it,a.2.at λo x=>l.extBut d o f x⟩ λb o c x=>l.extBut b o (λz=>c (by simp[z])) x) λz=>by rw[lA m]at z;cases z
 done:=λs Q E a g=>mN k a.1 a.2 (λe he=>by rw[wt (az _)]at he;cases he) λ_ j p=>g j s.toks λb o c x=>p b o (λz=>c (by simp[z])) x
 self:=λ_ _ _ _ a h=>wpAny_pyIter_keyiter a.1 h
def EZ(lo:(d==sysModules)=false):KdlSrc prog w "dict" d d es.size (λi v=>∃e,es[i]?=some e/\e.key=v) (λh=>Raw h d es ep) where
 type:=λ_ ⟨o,ho,hc,_⟩=>⟨o,ho,hc.1⟩
 there:=λ_ ⟨_,ho,_⟩=>⟨aX ho,aX ho⟩
 keep:=λ_ _ a hk=>a.at λo e=>hk d (.inl rfl) o e
 notList:=by decide
 notTuple:=by decide
 hint:=λ_ _ _ _ ⟨o,ho,hc,_⟩ b=>kdl_hint_dict ⟨o,ho,hc.1⟩ b
 iter:=λ_ _ c a=>⟨_,_,(λ_ _ b=>Ae lo a b),Hb c _ (by obtain⟨o,ho,_⟩:=a;exact bD (aX ho)),⟨⟨_,cP _ rfl,rfl,rfl⟩,a.at λo e=>bf _ e⟩⟩
end
end PySem
namespace L2.U
open PySem PySem.Spec PyProof.Rows
def Va(m:Nat)(fe:Gx PV):Gx PV:=bnd fe λp=>bnd (hp λh=>(iA h p).bind λq=>C7 q.2.k) λks=>As m (jL ks)
section
variable {X:Cx} {aa:Hp} {ab:Fz} {e:Expr} {fe:Gx PV} {pos p:Pos} {m:Nat}
theorem KA{K:W.Frag}{F:Fz}:∀{xs:List (List bh×Addr×Value)},eQ K F.F xs->aA K F (jL (xs.map (·.1))) (xs.map λz=>V.ref z.2.1)
 | [],_=>.nil
 | z::xs,h=>.cons (cg.mpr ⟨_,_,rfl,h z aJ,qh _⟩) (KA λy a=>h y (aH _ a))
theorem KC:∀(xs:List (List bh×Addr×Value)) (us:List Value),us.length=xs.length->(∀(j:Nat) (u:Value),us[j]?=some u->∃z:List bh×Addr×Value,xs[j]?=some z/\u=Value.ref z.2.1)->Vals (xs.map λz=>V.ref z.2.1) us
 | [],[],_,_=>.nil
 | [],_::_,h,_=>nomatch h
 | _::_,[],h,_=>nomatch h
 | z::xs,u::us,h,a=>by
  obtain⟨y,b,rfl⟩:=a 0 u rfl;cases b;exact .cons rfl (KC xs us (Nat.succ.inj h) λj v c=>a (j+1) v (by simpa using c))
def Vb(Y:X.A.handled=none)(Z:Gl X "list")(U9:X.mg "list"=none)(he:PE X e (tE X aa ab fe))(C:∀g,starEach (e::g) X.env=(false,eval e X.env)::starEach g X.env):PE X (.Call (.Name "list" p) [e] [] pos) (tE X aa ab (Va m fe)):=by
 rintro ae s σ H Q I ⟨F,st,Rp,h⟩
 refine jh (ld_blt I Z U9 (kB .list) ?_ (by decide) (by decide))
 refine ir (An (C []) ?_) (C []) rfl;have hA:=he ae s σ H (λv H'=>∃r D q,Rep X.K aa ab r D σ H'/\bO X.K r q v/\Tx X aa ab (bO X.K) r D (bnd (hp λh=>(iA h q).bind λc=>C7 c.2.k) λks=>As m (jL ks)) σ Q) I ⟨F,st,Rp,h.bnd λq v F1 E J i g1 w d=>⟨F1,E,q,i,w,d⟩⟩
 refine thn hA λu l z9=>?_
 obtain⟨x,J,y,r1,F1,E,q,i,w,d⟩:=z9;obtain⟨ks,f2,d⟩:=At.hp (At.bnd d);obtain⟨⟨n,c⟩,d1,f⟩:=aO f2;obtain⟨rfl,Xa,hl⟩:=eZ d1;obtain⟨a,ha,rfl⟩:=c9.mp w;cases r1;obtain⟨L,cp⟩:=c;have f:C7 L=some ks:=f;cases L with
 | eR t uj =>
  cases t with
  | false=>cases f
  | true =>
   cases f;obtain⟨hf,ws,⟨B,k1,k2,k3,k4⟩,hv⟩:=i.c.cell n _ a Xa ha hl;subst k3;obtain⟨M,hS,o,g,ep,e1,e2,e3,N,e5⟩:=y.hok a _ k1;have dd:Raw l.heap a g ep:=⟨o,e1,e2,e3⟩;have sz:=Cg N;refine W.kdl_call (EZ hS) Y dd (by rw[sz];exact M) λh' tk b c' hk hD R=>?_
   have hn:=y.hok.fresh (az l.heap.objs.size);have hV:Vals (B.map λz=>V.ref z.2.1) b.toList:=KC B b.toList (by rw[iu,R.1,sz]) λj u hu=>by
    obtain⟨en,T,rfl⟩:=R.2 j u (by rw[<-BQ];exact hu)
    rw[entry_at N]at T;obtain⟨z,h4,rfl⟩:=f9.mp T;exact⟨z,h4,rfl⟩
   exact⟨.ref l.heap.objs.size,cu J l.heap.objs.size (.lst (B.map λz=>V.ref z.2.1)),y.laid hk (az _) ⟨by rw[aj];exact M,b.toList,c',hV,hD⟩,rfl,Tx.As d i hn (KA k2)⟩
 | _=>cases f
end
end L2.U
namespace PySem.W
open PySem PyProof.Rows
abbrev Cmp:=Nat->Nat->(Bool->Shared->Prop)->Shared->Prop
def xk{O:KeyOrd}(key:Nat->O.α)(p:Array Nat)(i:Nat):O.α:=key (p.getD i 0)
def Ip{O:KeyOrd}(key:Nat->O.α)(p:Array Nat)(a:Nat):Prop:=∀i j,i<j->j<a->O.blt (xk key p i) (xk key p j)=true
def Dwn{O:KeyOrd}(key:Nat->O.α)(p:Array Nat)(a:Nat):Prop:=∀i j,i<j->j<a->O.blt (xk key p j) (xk key p i)=true
structure O6 {O:KeyOrd} (key:Nat->O.α) (pT:Cmp) (s:Shared) (n:Nat):Prop where
 Rv:∀{i j C},i<n->j<n->C (O.blt (key i) (key j)) s->pT i j C s
 dif:∀{i j},i<n->j<n->i≠j->key i≠key j
abbrev t7(p:Array Nat)(n:Nat):Prop:=p.toList.Perm (List.range n)
section
variable {O:KeyOrd} {key:Nat->O.α} {pT:Cmp} {s:Shared} {n:Nat} {p:Array Nat}
theorem mR(hp:t7 p n):p.size=n:=by
 have h:=hp.length_eq
 rwa [iu,ez]at h
theorem gd(q:Array Nat)(j:Nat):q.getD j 0=q[j]?.getD 0:=by simp
theorem gp(hp:t7 p n)(a:i<n):p.getD i 0<n:=by
 have b:=mR hp;rw[gd,lA (b▸a)];exact c7.mp (hp.mem_iff.mp (Array.getElem_mem_toList _))
theorem O7(hp:t7 p n)(c:i<n)(d:j<n)(b:i≠j):p.getD i 0≠p.getD j 0:=by
 have a:=mR hp;rw[gd,gd,lA (a▸c),lA (a▸d)];have f:p.toList.Nodup:=hp.nodup_iff.mpr List.nodup_range;intro e;have h:=(qQ (i:=i) (j:=j) (h₀:=by simp[a,c]) (h₁:=by simp[a,d]) f).mp (by simpa using e)
 exact b h
theorem KD(K:O6 key pT s n)(hp:t7 p n)(b:i<n)(c:j<n)(a:i≠j)(h:O.blt (xk key p i) (xk key p j)=false):O.blt (xk key p j) (xk key p i)=true:=by
 cases e:O.blt (xk key p j) (xk key p i)with
 | true=>rfl
 | false=>exact absurd (O.total _ _ h e) (K.dif (gp hp b) (gp hp c) (O7 hp b c a))
theorem E2:Ip key p 1:=λi j a b=>by lia
theorem KH(h:Ip key p (m+1))(e:O.blt (xk key p m) (xk key p (m+1))=true):Ip key p (m+2):=λi j a d=>by
 by_cases b:j<m+1
 · exact h i j a b
 obtain rfl:j=m+1:=by lia
 by_cases c:i=m
 · exact c▸e
 exact O.trans _ _ _ (h i m (by lia) (by lia)) e
theorem Au(h:Dwn key p (m+1))(e:O.blt (xk key p (m+1)) (xk key p m)=true):Dwn key p (m+2):=λi j a d=>by
 by_cases b:j<m+1
 · exact h i j a b
 obtain rfl:j=m+1:=by lia
 by_cases c:i=m
 · exact c▸e
 exact O.trans _ _ _ e (h i m (by lia) (by lia))
theorem Dg(K:O6 key pT s n)(hp:t7 p n){Q:Nat->Shared->Prop}:∀f m,m+1+f=n->Ip key p (m+1)->(∀a,m<=a->a<n->Ip key p (a+1)->(a+1<n->O.blt (xk key p (a+1)) (xk key p a)=true)->Q (a+1) s)->(kas_asc p f (m+1)).kasWp pT Q s:=by
 intro f;induction f with
 | zero=>exact λm d b c=>c m (by lia) (by lia) b λh=>by lia
 | succ f ih =>
  intro m d b c;refine K.Rv (gp hp (by lia)) (gp hp (by lia)) ?_
  show KasT.kasWp pT (ite (O.blt (xk key p (m+1)) (xk key p m)=true) _ _) Q s;cases e:O.blt (xk key p (m+1)) (xk key p m)with
  | true=>exact c m (by lia) (by lia) b λ_=>e
  | false=>exact ih (m+1) (by lia) (KH b (KD K hp (by lia) (by lia) (by lia) e)) λa g=>c a (by lia)
theorem O8(K:O6 key pT s n)(hp:t7 p n){Q:Array Nat×Nat×Nat->Shared->Prop}:∀f m,m+1+f=n->Dwn key p (m+1)->(∀a,m<=a->a<n->Dwn key p (a+1)->Q (p,a+1,0) s)->(kas_desc f p (m+1) 0).kasWp pT Q s:=by
 intro f;induction f with
 | zero=>exact λm d b c=>c m (by lia) (by lia) b
 | succ f ih =>
  intro m d b c;refine K.Rv (gp hp (by lia)) (gp hp (by lia)) ?_
  show KasT.kasWp pT (ite (O.blt (xk key p (m+1)) (xk key p m)=true) _ _) Q s;cases e:O.blt (xk key p (m+1)) (xk key p m)with
  | true=>exact ih (m+1) (by lia) (Au b e) λa g=>c a (by lia)
  | false =>
   refine K.Rv (gp hp (by lia)) (gp hp (by lia)) ?_
   show KasT.kasWp pT (ite (O.blt (xk key p m) (xk key p (m+1))=true) _ _) Q s;rw[KD K hp (by lia) (by lia) (by lia) e]
   exact c m (by lia) (by lia) b
theorem E3(hp:t7 p n)(i j:Nat):t7 (kas_rev p i j) n:=(IJ.mp (mirror_perm p i j _)).trans hp
theorem KI(hp:t7 p n)(b:a<=n)(c:i<a):xk key (kas_rev p 0 a) i=xk key p (a-1-i):=by
 show key _=key _;rw[gd,gd,kas_rev,getElem?_mirror_all (by rw[mR hp];exact b),if_pos ⟨fJ _,c⟩,iy]
theorem O9(K:O6 key pT s n)(hp:t7 p n){Q:Nat×Array Nat->Shared->Prop}(h1:2<=n)(hd:O.blt (xk key p 1) (xk key p 0)=true)(d:∀a r,1<=a->a<=n->t7 r n->Ip key r a->Q (a,r) s):(kas_descPart 1 n p).kasWp pT Q s:=by
 unfold kas_descPart;rw[KasT.kasWp_bind];refine O8 K hp _ 1 (by lia) (Au (m:=0) (λi j h1 e=>by lia) hd) λa h1 e f=>?_
 show KasT.kasWp pT (kas_tail3 (a+1) n p) Q s;unfold kas_tail3;rw[KasT.kasWp_bind];refine Dg K (E3 hp _ _) _ a (by lia) (λi j g c=>?_) λb g c h _=>d _ _ (by lia) (by lia) (E3 hp _ _) h
 rw[KI hp (by lia) (by lia),KI hp (by lia) c]
 exact f _ _ (by lia) (by lia)
theorem KJ(K:O6 key pT s n)(hp:t7 p n){Q:Nat×Array Nat->Shared->Prop}(h1:1<=n)(b:∀a r,1<=a->a<=n->t7 r n->Ip key r a->Q (a,r) s):(kas_count n p).kasWp pT Q s:=by
 unfold kas_count;rw[KasT.kasWp_bind];refine Dg K hp _ 0 (by lia) E2 λa g h c e=>?_
 by_cases d:a+1=n
 · rw[if_pos (by simp[d])]
   exact b _ _ (by lia) (by lia) hp c
 rw[if_neg (by simp[d])]
 by_cases f:a=0
 · subst f
   exact O9 K hp (by lia) (e (by lia)) b
 rw[if_pos (by lia)]
 refine K.Rv (gp hp (by lia)) (gp hp (by lia)) ?_
 show KasT.kasWp pT (ite (O.blt (xk key p 0) (xk key p a)=true) _ _) Q s;rw[c 0 a (by lia) (by lia)]
 exact b _ _ (by lia) (by lia) hp c
theorem KN(K:O6 key pT s n)(hp:t7 p n){Q:Nat->Shared->Prop}(hk:k<n)(g:Ip key p k)(j:∀l,l<=k->(∀i,i<l->O.blt (xk key p i) (xk key p k)=true)->(∀i,l<=i->i<k->O.blt (xk key p k) (xk key p i)=true)->Q l s) :
  ∀f l r,l<=r->r<=k->r<=l+f->(∀i,i<l->O.blt (xk key p i) (xk key p k)=true)->(∀i,r<=i->i<k->O.blt (xk key p k) (xk key p i)=true)->(kas_place p k f l r).kasWp pT Q s:=by
 intro f;induction f with
 | zero =>
  intro l r q a t b c;obtain rfl:l=r:=by lia
  exact j l a b c
 | succ f ih =>
  intro l r q a t b c;unfold kas_place;by_cases h:l=r
  · subst h
    rw[if_pos (az _)];exact j l a b c
  rw[if_neg (by lia)]
  obtain⟨m,u⟩:∃m,m=(l+r)/2:=⟨_,rfl⟩
  rw[<-u];refine K.Rv (gp hp hk) (gp hp (by lia)) ?_
  show KasT.kasWp pT (ite (O.blt (xk key p k) (xk key p m)=true) _ _) Q s;cases e:O.blt (xk key p k) (xk key p m)with
  | true =>
   refine ih l m (by lia) (by lia) (by lia) b λi v w=>?_
   by_cases d:i=m
   · exact d▸e
   exact O.trans _ _ _ e (g m i (by lia) w)
  | false =>
   refine ih (m+1) r (by lia) a (by lia) (λi v=>?_) c
   have o:=KD K hp hk (by lia) (by lia) e
   by_cases d:i=m
   · exact d▸o
   exact O.trans _ _ _ (g i m (by lia) (by lia)) o
theorem Pa(hp:t7 p n)(i j:Nat):t7 (bubble p i j) n:=(IJ.mp (bubble_perm p i j)).trans hp
theorem KO(hp:t7 p n)(hk:k<n)(a:l<=k)(i:Nat):xk key (bubble p k (k-l)) i=if i=l then xk key p k else if l<i/\i<=k then xk key p (i-1)else xk key p i:=by
 unfold xk;have e:=getElem?_bubble (xs:=p) (src:=k) (by rw[mR hp];exact hk) (k-l) (by lia) i
 rw[show k-(k-l)=l by lia]at e
 rw[gd,e,gd p,gd p,gd p];split
 · rfl
 split<;>rfl
theorem Vc(K:O6 key pT s n){Q:Array Nat->Shared->Prop}(c:∀r,t7 r n->Ip key r n->Q r s):∀f k p,k+f=n->t7 p n->Ip key p k->(kas_bin f p k).kasWp pT Q s:=by
 intro f;induction f with
 | zero=>exact λk p hk hp a=>c p hp (hk▸a)
 | succ f ih =>
  intro k p hk hp a;show KasT.kasWp pT (KasT.bind _ _) Q s;rw[KasT.kasWp_bind];refine KN K hp (by lia) a (λl b d e=>ih (k+1) _ (by lia) (Pa hp _ _) λi j g m=>?_) k 0 k (by lia) (by lia) (by lia) (λi h=>by lia) λi h o=>by lia
  rw[KO hp (by lia) b,KO hp (by lia) b]
  split
  · rw[if_neg (by lia),if_pos (by lia)]
    exact e _ (by lia) (by lia)
  split
  · rw[if_neg (by lia),if_pos (by lia)]
    exact a _ _ (by lia) (by lia)
  split
  · exact d _ (by lia)
  split<;>exact a _ _ (by lia) (by lia)
theorem Pb(K:O6 key pT s n){Q:Array Nat->Shared->Prop}(h1:1<=n)(b:∀r,t7 r n->Ip key r n->Q r s):(kas_sort n).kasWp pT Q s:=by
 unfold kas_sort;rw[KasT.kasWp_bind];refine KJ K (.refl _) h1 λa r d f c e=>?_
 show KasT.kasWp pT (ite (a<n) _ _) Q s;split
 · rw[Nat.max_eq_left d]
   exact Vc K b _ _ _ (by lia) c e
 · exact b r c (by rwa [show n=a by lia])
end
def Bz(a b:List Nat×Int):Prop:=a.1<b.1\/a.1=b.1/\a.2<b.2
instance abS (a b:List Nat×Int):Decidable (Bz a b):=inferInstanceAs (Decidable (_\/_))
def KP:KeyOrd where
 α:=List Nat×Int
 blt a b:=decide (Bz a b)
 irrefl a:=by
  have:=List.lt_irrefl a.1;simp[Bz,this]
 trans a b c d f:=by
  simp only[gG]at *;rcases d with d | ⟨e1,d⟩<;>rcases f with f | ⟨g,f⟩
  · exact .inl (List.lt_trans d f)
  · exact .inl (g▸d)
  · exact .inl (e1▸f)
  · exact .inr ⟨e1.trans g,by lia⟩
 negTrans a b c h:=by
  simp only[gG]at *;by_cases x:a.1<b.1
  · exact .inl (.inl x)
  by_cases y:b.1<a.1
  · rcases h with h | ⟨e,h⟩
    · exact .inr (.inl (List.lt_trans y h))
    · exact .inr (.inl (e▸y))
  have e:a.1=b.1:=List.le_antisymm (wU.mp y) (wU.mp x);rcases h with h | ⟨g,h⟩
  · exact .inr (.inl (e▸h))
  · by_cases z:a.2<b.2
    · exact .inl (.inr ⟨e,z⟩)
    · exact .inr (.inr ⟨e.symm.trans g,by lia⟩)
 total a b d f:=by
  have d:¬(_\/_):=BZ d;have f:¬(_\/_):=BZ f;simp only[not_or,not_and]at d f;have e:a.1=b.1:=List.le_antisymm (wU.mp f.1) (wU.mp d.1);exact Prod.ext e (by have:=d.2 e;have:=f.2 e.symm;lia)
noncomputable def pk(k:Str×Int):List Nat×Int:=(k.1.cps.toList,k.2)
theorem Dh{a b:Str×Int}(h:pk a=pk b):a=b:=by
 obtain⟨⟨x⟩,n⟩:=a;obtain⟨⟨y⟩,m⟩:=b;simp only[pk,lK]at h;obtain⟨c,rfl⟩:=h;obtain rfl:=Array.toList_inj.mp c;rfl
def Vd(h:Heap)(v:Value)(k:Str×Int):Prop:=∃a o m t u,v=.ref a/\h.get? a=some o/\o.cls=.type "tuple"/\o.data=.seq #[.str k.1 t,.int k.2 u] m
def Vd.at{h h':Heap}(x:Vd h v k)(e:∀a o,h.get? a=some o->h'.get? a=some o\/o.cls≠.type "tuple"):Vd h' v k :=
 let ⟨a,o,m,t,u,q,ho,hc,hd⟩:=x
 ⟨a,o,m,t,u,q,(e a o ho).resolve_right λn=>n hc,hc,hd⟩
def xK(h:Heap):List Value->List (Str×Int)->Prop
 | [],[]=>True
 | v::a,k::ks=>Vd h v k/\xK h a ks
 | _,_=>False
section
variable {prog:Program} {w:World} {A:Around} {E:Value->Shared->Prop} {s:Shared}
theorem ZG{Q:Bool->Shared->Prop}(g:Vd s.heap x c)(i:Vd s.heap y d)(h:Q (KP.blt (pk c) (pk d)) s):wpAny (model prog w) A (keyLt' (tuples' true) x y) Q E s:=by
 obtain⟨a,o,m,t,u,rfl,ho,hc,hd⟩:=g;obtain⟨l,r,v,B,C,rfl,j,D,k⟩:=i;refine kat_lt ho hd j k (kat_cons (wpAny_eqBool_str ?_));have f:Q (decide (Bz (pk c) (pk d))) s:=h;refine kat_go (λe=>kat_yes (kat_cons (wpAny_eqBool_int ?_))) λe=>kat_no (oneLt_str ?_)
 · have e:=dF e
   refine kat_go (λz=>kat_yes (kat_nil ?_)) λz=>kat_no (kat_one _ _ (lt_int ?_))
   · have z:=aY z
     rw[show decide (Bz (pk c) (pk d))=false from by simp[Bz,pk,e,z,List.lt_irrefl]]at f
     exact f
   · rw[show decide (Bz (pk c) (pk d))=decide (c.2<d.2)from by simp[Bz,pk,e,List.lt_irrefl]]at f
     exact f
 · have e:=BZ e
   rw[show decide (Bz (pk c) (pk d))=decide (c.1.cps.toList<d.1.cps.toList)from decide_eq_decide.mpr ⟨λp=>p.resolve_right λq=>e (by
    exact(Prod.mk.inj (Dh (a:=(c.1,0)) (b:=(d.1,0)) (cS (·,0) q.1))).1),.inl⟩]at f
   exact f
theorem Av:∀{vs ks},xK s.heap vs ks->∃fs,KatTups s.heap vs fs/\fs.length=vs.length/\∀v∈fs,∃a t,v=Value.str a t
 | [],[],_=>⟨[],.nil,rfl,λ_ h=>nomatch h⟩
 | v::vs,k::ks,⟨⟨a,o,m,t,u,e,ho,hc,hd⟩,r⟩=>by
  obtain⟨fs,c,d,f⟩:=Av r;refine⟨.str k.1 t::fs,e▸.cons ho hc hd rfl c,by simp[d],λv b=>?_⟩
  rcases aK.mp b with rfl | b
  · exact⟨_,_,rfl⟩
  · exact f v b
theorem E4:∀{vs ks},xK h vs ks->vs.length=ks.length
 | [],[],_=>rfl
 | v::vs,k::ks,⟨_,r⟩=>by simp[E4 r]
theorem xM:∀{vs ks},xK h vs ks->∀i,i<vs.length->Vd h (vs.getD i Value.none) (ks.getD i d)
 | v::vs,k::ks,⟨x,r⟩,0,_=>x
 | v::vs,k::ks,⟨x,r⟩,i+1,a=>xM r i (by simpa using a)
theorem xK.at{h h':Heap}:∀{vs ks},xK h vs ks->(∀a o,h.get? a=some o->h'.get? a=some o\/o.cls≠.type "tuple")->xK h' vs ks
 | [],[],_,_=>trivial
 | v::vs,k::ks,⟨x,r⟩,e=>⟨x.at e,r.at e⟩
end
theorem Hc(b:n<128)(h1:2<=n):minRun' n n 0<=n:=by
 obtain⟨f,a⟩:∃f,n=f+2:=⟨n-2,by lia⟩
 have e:∀m,minRun' (f+2) m 0=if m<64 then m+0 else(if m/2<64 then m/2+max 0 (m%2)else minRun' f (m/2/2) (max (max 0 (m%2)) (m/2%2))):=λm=>rfl
 have e:=e n;rw[<-a]at e;rw[e];split
 · lia
 · rw[if_pos (by lia)]
   lia
section
variable {prog:Program} {w:World} {A:Around} {E:Value->Shared->Prop} {κ:SortKind} {it:Array Keyed}
theorem Pc{n:Nat}{Q:Unit->SortSt->Shared->Prop}{G:Array Nat->Shared->Prop}{s:Shared}(i:2<=n)(j:n<128)
  (k:∀a d c,a.size=n->arrOf d=a.map (kas_item it)->failedOf d=none->G a c->Q () d c) (h:(kas_count n (List.toArray (List.range n))).kasWp (kas_cmp prog w A κ it) (λr c=>r.1=n/\G r.2 c) s) :
  kasC (model prog w) A E sortRuns' Q (kas_st κ it (List.toArray (List.range n))) s:=by
 have l:=Hc j i;obtain⟨r,rfl⟩:∃r,n=r+2:=⟨n-2,by lia⟩
 have e:(List.toArray (List.range (r+2))).size=r+2:=by simp
 rw[sortRuns'_eq];refine kasC_bind (kasC_get ?_);dsimp only
 have f:(arrOf (kas_st κ it (List.toArray (List.range (r+2))))).size=r+2:=by
  show((List.toArray (List.range (r+2))).map (kas_item it)).size=_;rw[Array.size_map,e]
 generalize o:minRun' (r+2) (r+2) 0=M at l
 simp only[f,o];refine kasC_bind (kasC_range ?_);show kasC _ _ _ (forIn (0::1::List.range' 2 r) _ _) _ _ _;refine kasC_cons ?_;dsimp only
 rw[if_neg (by lia)]
 simp only[wR,iy];refine kasC_bind (kas_count_ (by lia) (by rw[e];exact az _) (λm a c p q hp t=>?_) h)
 have g:a.size=r+2:=hp.trans e;dsimp only
 obtain⟨b,u⟩:=t;have b:m=r+2:=b;subst b;rw[if_neg (by lia)]
 refine kasC_bind (kasC_get ?_);rw[show(pendingOf (kas_st κ it a)).back?=none from rfl]
 dsimp only
 refine kasC_bind (kasC_modify (kasC_pure ?_));show kasC _ _ _ (forIn (1::List.range' 2 r) _ _) _ _ _;refine kasC_cons ?_;dsimp only
 rw[if_pos (az _)];refine kasC_pure ?_;dsimp only
 refine kasC_bind (kasC_range ?_);show kasC _ _ _ (forIn (0::1::List.range' 2 r) _ _) _ _ _;refine kasC_cons ?_;refine kasC_bind (kasC_get ?_);rw[if_pos (show(pendingOf (setPending (kas_st κ it a) ((pendingOf (kas_st κ it a)).push (0,r+2,0)))).size<=1 from az 1)]
 refine kasC_pure ?_;dsimp only
 exact kasC_pure (k a _ _ g rfl rfl u)
end
section
variable {prog:Program} {w:World} {A:Around} {E:Value->Shared->Prop} {s:Shared} {a:Addr} {vs:List Value} {R:List Nat->Prop}
def ZJ(prog:Program)(w:World)(A:Around)(E:Value->Shared->Prop)(vs:List Value)(R:List Nat->Prop)(s:Shared):Prop:=∃b,(∀Q:SortKind->Shared->Prop,Q b s->wpAny (model prog w) A (keyKind' vs.toArray) Q E s) /\
 ∀Q:SortSt->Shared->Prop,(∀(p:Array Nat) st,R p.toList->p.size=vs.length->arrOf st=p.map (kas_item (vs.toArray.zip vs.toArray))->failedOf st=none->Q st s)->wpAny (model prog w) A ((sortRuns').run (SortSt.mk' b (vs.toArray.zip vs.toArray) #[] 7 none)) (λr c=>Q r.2 c) E s
theorem Pd{P:PySem.Fin->Shared->Prop}(ho:s.heap.get? a=some (seqObj "list" vs.toArray n))(hz:vs.length<128)(h1:vs.length<2->R (List.range vs.length))(v:∀h':Heap,(∀b o,s.heap.get? b=some o->b≠a->h'.get? b=some o)->2<=vs.length->ZJ prog w A E vs R {s with heap:=h'})
  (h:∀r:List Nat,R r->P (.done (.ret .none)) {s with heap:=sortedHeap s.heap a vs (r.map λi=>vs.getD i Value.none).toArray}) :
  wpAny (model prog w) A (Builtin.«list.sort» ⟨[.ref a],[]⟩) P E s:=by
 rw[list_sort_plain];have k:=aX ho;refine ag (listItems_at ho rfl ?_);refine ag (listUpdate_at ho rfl ?_);obtain⟨e1,l⟩:∃e1,(s.heap.update a (Obj.mapSeq λ_=>#[])).get? a=some (seqObj "list" #[] e1):=⟨_,get?_update_seq ho (λ_=>#[])⟩
 refine ag (seqEpoch_at l rfl ?_);refine ag (wpAny_newTuple ?_);refine ag (wpAny_newList ?_);refine fI ?_;have c:(((s.heap.update a (Obj.mapSeq λ_=>#[])).push (seqObj "tuple" vs.toArray 0)).push (seqObj "list" #[] 0)).get? a=some (seqObj "list" #[] e1):=by
  rw[qM _ _ _ (by rw[size_push',wG];exact bD (B3 k)),qM _ _ _ (by rw[wG];exact bD k)]
  exact l
 show wpAny (model prog w) A _ P E {s with heap:=((s.heap.update a (Obj.mapSeq λ_=>#[])).push (seqObj "tuple" vs.toArray 0)).push (seqObj "list" #[] 0)}
 dsimp only
 by_cases d:vs.length<2
 · rw[if_pos (by simpa using d),if_pos (by simpa using d)]
   refine ag (aw ?_);rw[StateT.run_pure];refine ag (aw ?_);dsimp only
   refine ag (seqEpoch_at c rfl ?_);refine ag (listUpdate_at c rfl ?_ (hsz2:=by rw[Array.size_map];show(pairsOf vs).size<=_;rw[pairsOf_size,lN];lia))
   simp only[bne_self_eq_false,jU,fy];have m:=kas_range (vs.toArray.zip vs.toArray);rw[show(vs.toArray.zip vs.toArray).size=vs.length by simp]at m
   rw[kat_snds (ks:=vs) (vs:=vs) (st:=SortSt.mk' general' (vs.toArray.zip vs.toArray) #[] 7 none) rfl m.symm];exact aw (h _ (h1 d))
 rw[if_neg (by simpa using d),if_neg (by simpa using d)]
 obtain⟨C,x,y⟩:=v (((s.heap.update a (Obj.mapSeq λ_=>#[])).push (seqObj "tuple" vs.toArray 0)).push (seqObj "list" #[] 0)) (λb o q B=>by
  have t:b<s.heap.objs.size:=aX q;rw[qM _ _ _ (by rw[size_push',wG];exact bD (B3 t)),qM _ _ _ (by rw[wG];exact bD t),Heap.get?_update_ne _ _ _ _ B]
  exact q) (by lia)
 refine ag (x _ (ag (jj (y (λst u=>u={s with heap:=((s.heap.update a (Obj.mapSeq λ_=>#[])).push (seqObj "tuple" vs.toArray 0)).push (seqObj "list" #[] 0)}/\∃p:Array Nat,R p.toList/\p.size=vs.length/\arrOf st=p.map (kas_item (vs.toArray.zip vs.toArray))/\failedOf st=none) λp st j hp f g=>⟨rfl,p,j,hp,f,g⟩) ?_ λ_ _ e=>e)))
 rintro⟨⟨⟩,st⟩ u ⟨rfl,p,j,hp,f,g⟩
 dsimp only at f g ⊢
 refine ag (seqEpoch_at c rfl ?_);rw[kat_snds rfl f];refine ag (listUpdate_at c rfl ?_ (fJ _) (by rw[eA,aj,iu,hp,lN];lia))
 rw[g];simp only[bne_self_eq_false,jU,fy];exact aw (h p.toList j)
theorem Pe(f:xK s.heap vs ks)(u:ks.Nodup)(x:2<=vs.length)(g:vs.length<64):ZJ prog w A E vs (λr=>r.Perm (List.range vs.length)/\(r.map λi=>pk (ks.getD i ("",0))).Pairwise (λa b=>Bz a b)) s:=by
 obtain⟨fs,y,N,B⟩:=Av f;refine⟨_,λQ k=>kat_kind y (by lia) (T:=.type "str") (λv C=>?_) (by rfl) k,λQ k=>kat_run (G:=λp q=>q=s/\t7 p vs.length/\Ip (O:=KP) (λi=>pk (ks.getD i ("",0))) p vs.length) rfl x g (λp D q l m H I=>?_) (Pb (O:=KP) (key:=λi=>pk (ks.getD i ("",0))) ⟨λc d J=>ZG (xM f _ c) (xM f _ d) J,λc d ne e=>?_⟩ (by lia) λr l m=>⟨rfl,l,m⟩)⟩
 · obtain⟨a,t,rfl⟩:=B v C
   exact .now
 · obtain⟨rfl,L,b2⟩:=I
   refine k p D ⟨L,?_⟩ l m H;rw[we];intro i j c d o;simp only[aj,iu]at c d;have h:=b2 i j o (by lia)
   have h:Bz (pk (ks.getD (p.getD i 0) ("",0))) (pk (ks.getD (p.getD j 0) ("",0))):=dF h;simpa[c,d]using h
 · have M:=E4 f
   have e:=Dh e;rw[M]at c d;rw[<-wz (h:=c),<-wz (h:=d)]at e;exact ne ((qQ u).mp e)
def adS:KeyOrd where
 α:=Int
 blt a b:=decide (a<b)
 irrefl a:=by simp
 trans a b c d e:=by simp only[gG]at *;lia
 negTrans a b c h:=by simp only[gG]at *;lia
 total a b d e:=by simp only[decide_eq_false_iff_not]at *;lia
theorem Pf{b:List Int}(c:IntsAre vs b)(D:b.Pairwise (· < ·))(d:2<=vs.length)(H:vs.length<128):ZJ prog w A E vs (λr=>r=List.range vs.length) s:=by
 have I:vs.length=b.length:=IntsAre.length c;have at_:∀i,i<vs.length->∃t,vs.getD i Value.none=Value.int (b.getD i 0) t:=λi h=>by
  obtain⟨n,t,e1,k⟩:=c.at i vs[i] (bC h);exact⟨t,by simp[h,e1,k]⟩
 have l:∀i j,i<j->j<vs.length->b.getD i 0<b.getD j 0:=λi j y d=>by
  rw[I]at d;rw[<-wz (h:=lL y d),<-wz (h:=d)];exact we.mp D i j _ _ y
 have K:O6 (O:=adS) (λi=>b.getD i 0) (kas_ask prog w A oneType' vs) s vs.length:=⟨λc m J=>by
  obtain⟨t,e1⟩:=at_ _ c;obtain⟨u,k⟩:=at_ _ m;unfold kas_ask;rw[e1,k,keyLt'_oneType];exact oneLt_int J,λ{i j} c m ne e=>by
  rcases Nat.lt_or_gt_of_ne ne with h | h
  · have:=l _ _ h m;have e:b.getD i 0=b.getD j 0:=e;lia
  · have:=l _ _ h c;have e:b.getD i 0=b.getD j 0:=e;lia⟩
 refine⟨oneType',λQ o=>kas_kind d (T:=.type "int") (λv L=>?_) (by rfl) (by rfl) o,λQ o=>?_⟩
 · obtain⟨i,c,rfl⟩:=qH L
   obtain⟨t,e⟩:=at_ i c;rw[show vs[i]=Value.int (b.getD i 0) t from by rw[<-e];simp[c]]
   exact .now
 · have hp:t7 (List.toArray (List.range vs.length)) vs.length:=.refl _
   have B:=kas_range (vs.toArray.zip vs.toArray);rw[show(vs.toArray.zip vs.toArray).size=vs.length by simp]at B
   have q:SortSt.mk' oneType' (vs.toArray.zip vs.toArray) #[] 7 none=kas_st oneType' (vs.toArray.zip vs.toArray) (List.toArray (List.range vs.length)):=by
    show _=SortSt.mk' oneType' ((List.toArray (List.range vs.length)).map (kas_item (vs.toArray.zip vs.toArray))) #[] 7 none;rw[B]
   rw[q];refine Pc (Q:=λ_ x f=>Q x f) (G:=λp f=>f=s/\p=List.toArray (List.range vs.length)) d H (λp x f M N X Y=>?_) ?_
   · obtain⟨rfl,rfl⟩:=Y
     exact o _ x rfl M N X
   · rw[<-kat_ask_eq (vs:=vs) rfl]
     unfold kas_count;rw[KasT.kasWp_bind];refine Dg K hp _ 0 (by lia) E2 λa h3 h4 Z hx=>?_
     have C:a+1=vs.length:=by
      apply Classical.byContradiction;intro z;have h5:b.getD ((List.toArray (List.range vs.length)).getD (a+1) 0) 0<b.getD ((List.toArray (List.range vs.length)).getD a 0) 0:=dF (hx (by lia))
      have h6:=l a (a+1) (by lia) (by lia)
      have g:∀i,i<vs.length->(List.toArray (List.range vs.length)).getD i 0=i:=λi h=>by simp[h]
      rw[g _ (by lia),g _ (by lia)]at h5
      lia
     rw[if_pos (by simp[C])]
     exact⟨C,rfl,rfl⟩
end
section
variable {prog:Program} {w:World} {A:Around} {E:Value->Shared->Prop} {s:Shared} {a:Addr} {vs:List Value} {ks:List (Str×Int)} {Q:Value->Shared->Prop}
def Vh(prog:Program)(w:World)(A:Around)(s:Shared)(a:Addr)(vs:List Value):Prop:=∀{c:Around} {e:Value->Shared->Prop} {R:List Value->Shared->Prop},(A.handled=none->c.handled=none)->(∀d f,(∀b o,s.heap.get? b=some o->d.get? b=some o)->R vs {s with heap:=d,toks:=f})->wpAny (model prog w) c (collect (.ref a)) R e s
def Hd(d:s.heap.IsList a vs.toArray)(hz:vs.length<128):Vh prog w A s a vs:=λ_ f=>collect_list d (f _ _ λb o e=>by
 have c:b<s.heap.objs.size:=aX e;rw[Heap.get?_update_ne _ _ _ _ (bD c),qM _ _ _ (bD c)];exact e) (by rw[lN];lia)
theorem He{R:List Nat->Prop}(hc:Vh prog w A s a vs)(hz:vs.length<128)(h1:vs.length<2->R (List.range vs.length))(g:∀(j:Around) (k:Value->Shared->Prop) (h':Heap) (tk:Nat),(∀b o,s.heap.get? b=some o->h'.get? b=some o)->2<=vs.length->ZJ prog w j k vs R {s with heap:=h',toks:=tk})
  (h:∀(h1 h':Heap) (tk:Nat) (D:Addr) (r:List Nat) (e:Nat),(∀b o,s.heap.get? b=some o->h1.get? b=some o)->(∀b o,h1.get? b=some o->h'.get? b=some o)->h1.objs.size<=D->h'.get? D=some (seqObj "list" (r.map λi=>vs.getD i Value.none).toArray e)->R r->Q (.ref D) {s with heap:=h',toks:=tk}) :
  wpAny (model prog w) A (call (.builtin "sorted") [.ref a]) Q E s:=by
 refine Calls.call_function_entry kind_sorted plain_sorted entry_sorted (args_sorted1 _) ?_;unfold Builtin.«sorted»;refine ag (aw ?_);refine ag (hc (λl=>by simp[l]) λh' tk hk=>?_)
 refine ag (wpAny_newList ?_ (by rw[lN];lia))
 have c:(h'.push (seqObj "list" vs.toArray 0)).get? h'.objs.size=some (seqObj "list" vs.toArray 0):=cP _ rfl;show wpAny _ _ _ _ _ {s with heap:=h'.push (seqObj "list" vs.toArray 0),toks:=tk}
 refine ag (fI (iw slot_list_sort ⟨_,c,rfl⟩ entry_list_sort (Pd c hz h1 (λm p=>g _ _ m tk λb o e=>p b o (bf _ (hk b o e)) (bD (aX (hk b o e)))) λr q=>⟨_,rfl,?_⟩) (args_list_sort _)))
 obtain⟨e,t⟩:=sortedHeap_at c;refine aw ⟨_,rfl,h h' _ tk h'.objs.size r e hk (λb o d=>?_) (az _) t q⟩
 have f:=aX d;rw[sortedHeap_old (bD f) (by rw[size_push'];exact B3 f)]
 exact bf _ d
end
end PySem.W
namespace L2.U
open PySem PySem.Spec PyProof.Rows PySem.W
def yX:PV->Option (Str×Int)
 | .nd .aq [.str a,.int n]=>some (a,n)
 | _=>none
theorem sj(h:yX p=some k):p=.aq [.str k.1,.int k.2]:=by
 unfold yX at h;split at h
 ·cases h;rfl
 ·cases h
def kk(p:PV):List Nat×Int:=pk ((yX p).getD ("",0))
def BA(a b:PV):Bool:=!decide (Bz (kk b) (kk a))
def pU(ps:List PV):List PV:=ps.mergeSort BA
def pV(ps:List PV):Option (List PV):=match cb yX ps with
 | some ks=>if(ks.Nodup/\ps.length<64)then some (pU ps)else none
 | none=>(mJ ps).bind λa=>if(a.Pairwise (· < ·)/\ps.length<128)then some ps else none
def uo(h:List ak)(p:PV):Option (List PV):=match rM h p with
 | some a=>some a
 | none=>(iA h p).bind λq=>(C7 q.2.k).map jL
def KQ(fe:Gx PV):Gx PV:=bnd fe λp=>hp λh=>((uo h p).bind pV).map .lst
theorem KR(h:pV ps=some b):ps.length<128:=by
 unfold pV at h;split at h
 ·obtain⟨⟨_,c⟩,_⟩:=aF h
  lia
 ·obtain⟨d,_,a⟩:=aO h;exact(aF a).1.2
theorem vj(a b c:PV)(h1:BA a b=true)(d:BA b c=true):BA a c=true:=by
 have x:=@KeyOrd.kle_trans KP (kk a) (kk b) (kk c);simp only[KeyOrd.kle,KP]at x;simp only[BA,qJ]at *;exact x h1 d
theorem vk(a b:PV):(BA a b || BA b a)=true:=by
 have x:=@KeyOrd.klt_asymm KP (kk a) (kk b);simp only[KeyOrd.kle,KeyOrd.klt,KP]at x;simp only[BA,wI,qJ];cases h:decide (Bz (kk a) (kk b))with
 | true=>exact .inl (x h)
 | false=>exact .inr rfl
theorem KU(c:yX a=some x)(d:yX b=some y)(h1:BA a b=true)(f:BA b a=true):a=b:=by
 have z:=@KeyOrd.kle_antisymm KP (kk a) (kk b);simp only[KeyOrd.kle,KP]at z;simp only[BA,qJ]at h1 f;have e:=z h1 f;simp only[kk,c,d,Option.getD_some]at e;have e:=Dh e;rw[sj c,sj d,e]
theorem E5{ps c:List PV}(hp:c.Perm ps)(hk:∀p∈ps,∃k,yX p=some k)(e:c.Pairwise λa b=>BA a b=true):c=pU ps:=by
 have d:=BW ps BA;refine List.Perm.eq_of_pairwise (λa b f g h i=>?_) e (List.pairwise_mergeSort vj vk ps) (hp.trans d.symm)
 obtain⟨x,j⟩:=hk a (hp.mem_iff.mp f);obtain⟨y,l⟩:=hk b (d.mem_iff.mp g);exact KU j l h i
theorem Hf{ps a:List PV}(hp:a.Perm ps)(hk:∀p∈ps,∃k,yX p=some k):pU a=pU ps :=
 E5 ((BW a BA).trans hp) hk (List.pairwise_mergeSort vj vk a)
theorem KW:∀{ps:List PV} {ks:List (Str×Int)},cb yX ps=some ks->ps.length=ks.length/\∀i,i<ps.length->yX (ps.getD i .bB)=some (ks.getD i ("",0))
 | [],_,h=>by cases h;exact⟨rfl,λi a=>absurd a (Cf i)⟩
 | p::ps,ks,h=>by
  obtain⟨k,r,b,c,rfl⟩:=d8 h;obtain⟨d,e⟩:=KW c;refine⟨by simp[d],λi a=>?_⟩
  cases i with
  | zero=>exact b
  | succ i=>exact e i (by simpa using a)
theorem vm(ps:List PV):(List.range ps.length).map (λi=>ps.getD i .bB)=ps:=by
 refine List.ext_getElem (by simp) λi b a=>?_
 simp[a]
theorem Ph{r:List Nat}(h:cb yX ps=some ks)(e:r.Perm (List.range ps.length)) (hp:(r.map λi=>pk (ks.getD i ("",0))).Pairwise (λa b=>Bz a b)):(r.map λi=>ps.getD i .bB)=pU ps:=by
 obtain⟨k,d⟩:=KW h;have f:∀i∈r,i<ps.length:=λi c=>c7.mp (e.mem_iff.mp c)
 refine E5 ((e.map _).trans (by rw[vm])) (λp hp=>?_) ?_
 ·obtain⟨i,c,rfl⟩:=qH hp;exact⟨_,by have:=d i c;simpa[c]using this⟩
 ·rw[B4]at hp ⊢;refine hp.imp_of_mem λ{i j} c g x=>?_
  simp only[BA,kk,d _ (f i c),d _ (f j g),Option.getD_some];have z:=@KeyOrd.klt_asymm KP (pk (ks.getD i ("",0))) (pk (ks.getD j ("",0)));simp only[KeyOrd.kle,KeyOrd.klt,KP]at z;rw[z (dW x)];rfl
section
variable {X:Cx} {aa:Hp} {ab:Fz} {e:Expr} {fe:Gx PV} {pos p:Pos} {ae:List (Addr×Obj)} {σ:St} {H:Hp} {s:Shared} {F:Fz}
theorem KY(I:Inv X ae σ H s)(b:cL F.F H):∀{ps:List PV} {ks:List (Str×Int)} {xs:List V} {vs:List Value},cb yX ps=some ks->aA X.K F ps xs->Vals xs vs->xK s.heap vs ks
 | [],_,_,_,h,.nil,.nil=>by cases h;trivial
 | p::ps,ks,_,_,h,.cons c b2,.cons d f=>by
  obtain⟨k,r,g,i,rfl⟩:=d8 h;refine⟨?_,KY I b i b2 f⟩;rw[sj g]at c;obtain⟨a,ws,rfl,sq,j⟩:=cg.mp c;obtain⟨C,D,rfl,l,m⟩:=js j;cases cO.mp l;cases aE.mp m;obtain⟨E,q,⟨o,v,w,n,x⟩,_⟩:=I.tuple (br b sq);obtain⟨J,L,rfl,y,B⟩:=q.two;cases d;obtain⟨t,rfl⟩:=y;obtain⟨u,rfl⟩:=B;exact⟨a,o,n,t,u,rfl,v,w,x⟩
theorem vn:∀(r:List Nat) {xs:List V} {vs:List Value},Vals xs vs->(∀i∈r,i<xs.length)->Vals (r.map λi=>xs.getD i .bB) (r.map λi=>vs.getD i Value.none)
 | [],_,_,_,_=>.nil
 | i::r,xs,vs,h,a=>.cons (by
  have b:=a i aJ;obtain⟨u,c,d⟩:=h.get (bC b);have e:xs.getD i .bB=xs[i]:=by simp[b]
  have f:vs.getD i Value.none=u:=by simp[c]
  show RelV (xs.getD i .bB) (vs.getD i Value.none);rw[e,f];exact d) (vn r h λj g=>a j (aH _ g))
theorem Aw{K:W.Frag}:∀(r:List Nat) {ps:List PV} {xs:List V},aA K F ps xs->(∀i∈r,i<ps.length)->aA K F (r.map λi=>ps.getD i .bB) (r.map λi=>xs.getD i .bB)
 | [],_,_,_,_=>.nil
 | i::r,ps,xs,h,a=>.cons (by
  have b:=a i aJ;obtain⟨u,c,d⟩:=h.get (bC b);have e:ps.getD i .bB=ps[i]:=by simp[b]
  have f:xs.getD i .bB=u:=by simp[c]
  show bO K F (ps.getD i .bB) (xs.getD i .bB);rw[e,f];exact d) (Aw r h λj g=>a j (aH _ g))
theorem vo{Q:VK}{ps q:List PV}{xs:List V}{vs:List Value}{st:cy}{a:Addr}(I:Inv X ae σ H s)(R:Rep X.K aa ab F st σ H)(h:aA X.K F ps xs)(k:Vals xs vs)(hc:Vh X.prog X.w X.A s a vs)(h1:pV ps=some q)
  (d:∀b H' F',Rep X.K aa ab F' st σ H'->Gr F F'->bO X.K F' (.lst q) b->Q b H'):wpAny (model X.prog X.w) X.A (call (.builtin "sorted") [.ref a]) (λv N=>∃x H',Inv X ae σ H' N/\RelV x v/\Q x H') E s:=by
 have l:=h.length;have t:=k.length;obtain⟨S,u,T,Y,Z⟩:∃S:List Nat->Prop,ps.length<128/\(ps.length<2->S (List.range ps.length))/\(∀(y:Around) (B:Value->Shared->Prop) (f:Heap) (g:Nat),(∀b o,s.heap.get? b=some o->f.get? b=some o)->2<=vs.length->ZJ X.prog X.w y B vs S {s with heap:=f,toks:=g})/\∀r,S r->r.Perm (List.range ps.length)/\(r.map λi=>ps.getD i .bB)=q:=by
  unfold pV at h1;cases e1:cb yX ps with
  | some ks =>
   rw[e1]at h1;obtain⟨⟨hn,u⟩,rfl⟩:=aF h1;have hI:=KY I R.sub e1 h k;refine⟨λr=>r.Perm (List.range ps.length)/\(r.map λi=>pk (ks.getD i ("",0))).Pairwise (λa b=>Bz a b),by lia,λz=>⟨.refl _,?_⟩,λy B f g hk d=>by rw[l,t];exact Pe (hI.at λb o e=>.inl (hk b o e)) hn d (by lia),λr c=>⟨c.1,Ph e1 c.1 c.2⟩⟩
   rw[we];intro i j m hj hij;have:j<ps.length:=by simpa using hj
   lia
  | none =>
   rw[e1]at h1;obtain⟨ns,e2,e3⟩:=aO h1;obtain⟨⟨hu,u⟩,rfl⟩:=aF e3;have ev:=rR e2 h;subst ev;exact⟨λr=>r=List.range ps.length,u,λ_=>rfl,λy B f g hk d=>by rw[l,t];exact Pf (rE k) hu d (by lia),λr c=>by rw[c];exact⟨.refl _,vm ps⟩⟩
 refine He hc (by lia) (λz=>by rw[<-t,<-l];exact T (by lia)) Y λh1 f g D r ep k1 k2 C xN c=>?_
 obtain⟨c,rfl⟩:=Z r c;have J:=I.kept (t':=g) k1;have L:∀i∈r,i<ps.length:=λi m=>c7.mp (c.mem_iff.mp m)
 have hq:=J.hok.fresh C;obtain⟨R2,M⟩:=R.laid (.lst (r.map λi=>xs.getD i .bB)) hq
 refine⟨.ref D,cu H D (.lst (r.map λi=>xs.getD i .bB)),J.laid k2 C ⟨?_,_,ep,vn r k λi m=>by rw[<-l];exact L i m,xN⟩,rfl,d _ _ _ R2 M (gv.mpr ⟨_,_,rfl,k9.of aB,(Aw r h L).mono M⟩)⟩
 rw[aj,c.length_eq,ez];exact bP (show ps.length<=128 by lia) (by decide)
def ZK(hh:X.A.handled=none)(ZF:Gl X "sorted")(U9:X.mg "sorted"=none)(he:PE X e (tE X aa ab fe))(M:starEach [e] X.env=[(false,eval e X.env)]) :
  PE X (.Call (.Name "sorted" p) [e] [] pos) (tE X aa ab (KQ fe)):=by
 rintro ae s σ H Q I ⟨F,st,Rp,h⟩
 have hA:=he ae s σ H (λv y=>∃F1 d q,Rep X.K aa ab F1 d σ y/\bO X.K F1 q v/\Tx X aa ab (bO X.K) F1 d (hp λh=>((uo h q).bind pV).map .lst) σ Q) I ⟨F,st,Rp,h.bnd λq v F1 d y f g1 l B=>⟨F1,d,q,f,l,B⟩⟩
 refine jh (ld_blt I ZF U9 Ao ?_ (by decide) (by decide))
 refine IC (An M (thn hA λu s1 z9=>?_)) M rfl
 obtain⟨v,y,m,N,F1,d,q,f,l,B⟩:=z9;obtain⟨o,e0,k⟩:=B.hp;obtain⟨qs,e9,rfl⟩:=aZ e0;obtain⟨ps,e1,C⟩:=aO e9;cases g:rM d.h q with
 | some qs' =>
  rw[uo,g]at e1;cases e1;obtain⟨a,w,rfl,D,T⟩:=f.at (iS g) l;cases N;obtain⟨aG,r,pl,_⟩:=m.list (k9.sq D);refine vo m f T r (Hd pl.isList ?_) C k;rw[<-r.length,<-T.length];exact KR C
 | none =>
  rw[uo,g]at e1;obtain⟨⟨n,c⟩,d1,i⟩:=aO e1;obtain⟨ks,d3,rfl⟩:=aZ i;obtain⟨rfl,Xa,g⟩:=eZ d1;obtain⟨a,D,rfl⟩:=c9.mp l;cases N;obtain⟨Y,cp⟩:=c;have i:C7 Y=some ks:=d3;cases Y with
  | eR t uj =>
   cases t with
   | false=>cases i
   | true =>
    cases i;obtain⟨hf,ws,⟨w,k1,k2,k3,k4⟩,hv⟩:=f.c.cell n _ a Xa D g;subst k3;obtain⟨hz,hS,o,es,ep,e1,E,e3,Z,e5⟩:=m.hok a _ k1;have dd:Raw s1.heap a es ep:=⟨o,e1,E,e3⟩;have sz:=Cg Z;refine vo m f (vs:=w.map λz=>Value.ref z.2.1) (KA k2) (KC w _ (by simp) λj u hu=>?_) (λ{A' E' R} J hR=>W.kdu_collect (EZ hS) (J hh) dd (by rw[sz];exact hz) λh' tk b hk si=>?_) C k
    ·rw[bz]at hu;obtain⟨z,L,rfl⟩:=f9.mp hu;exact⟨z,L,rfl⟩
    ·have:=hR h' tk hk
     rwa [show b.toList=w.map λz=>Value.ref z.2.1 from ?_]
     refine List.ext_getElem? λj=>?_
     rw[BQ,bz];by_cases x:j<b.size
     ·obtain⟨en,h3,h5⟩:=si.2 j b[j] (by simp[x])
      rw[entry_at Z]at h3;obtain⟨z,L,rfl⟩:=f9.mp h3;rw[lA x,L,<-h5];rfl
     ·rw[wt (qN x),jg (by rw[<-sz,<-si.1];exact qN x)]
      rfl
  | _=>cases i
end
end L2.U
namespace PySem
def F.pW:isSubtype (.type "range_iterator") (.type "reversed")=pure false:=by rw[isSubtype_type];kernel_rfl
section
variable {prog:Program} {w:World} {A:Around} {E:Value->Shared->Prop} {s:Shared} {r:Addr} {j:Int} {t u v:Tok} {Q:Value->Shared->Prop}
def lW(j:Int):Obj:={cls:=.type "range_iterator",data:=.fields #[rawInt (0+(Builtin.Range.rangeSize 0 j 1-1)*1),rawInt (Builtin.Range.rangeSize 0 j 1),rawInt (-1)]}
def kU(b:IsRange s.heap r 0 j 1 t u v)(h1:-(2^62)<=j)(e:j<2^62)
  (h:Q (.ref s.heap.objs.size) {s with heap:=s.heap.push (lW j)}):wpAny (model prog w) A (call (.builtin "range.__reversed__") [.ref r]) Q E s:=by
 have d:s.TypeIs (.ref r) "range":=⟨_,b,rfl⟩;refine iw BR d F.entry_range_reversed ?_ (F.args_range_reversed_1 _);unfold Builtin.«range.__reversed__»;refine ag (gJ (a:=Value.ref r) rfl ?_);refine ag ?_;unfold Builtin.Range.rangeFields;refine ag (gK b rfl (x:=.int 0 t) rfl ?_);refine ag (gJ (a:=some 0) rfl ?_);refine ag (gK b rfl (x:=.int j u) rfl ?_);refine ag (gJ (a:=some j) rfl ?_);refine ag (gK b rfl (x:=.int 1 v) rfl ?_);refine ag (gJ (a:=some 1) rfl ?_);refine aw ?_;have c:(Builtin.Range.rangeFitsLong 0&&Builtin.Range.rangeFitsLong j&&Builtin.Range.rangeFitsLong 1&&Builtin.Range.rangeFitsLong (-1)&&Builtin.Range.rangeFitsLong (0-1)&&Builtin.Range.rangeFitsLong (Builtin.Range.rangeSize 0 j 1))=true:=by
  rw[rangeSize_one];unfold Builtin.Range.rangeFitsLong;simp only[aR,gG];split<;>lia
 dsimp only
 rw[c];simp only[Bool.not_true,jU,fy,jZ];exact ag (gF (aw ⟨_,rfl,h⟩))
def kW(b:IsRange s.heap r 0 j 1 t u v)(h1:-(2^62)<=j)(c:j<2^62)
  (h:Q (.ref s.heap.objs.size) {s with heap:=s.heap.push (lW j)}):codeAny (model prog w) A (.call (.builtin "reversed.__new__") ⟨[.type "reversed",.ref r],[]⟩) (wants Q E) s:=by
 have d:s.TypeIs (.ref r) "range":=⟨_,b,rfl⟩;refine codeAny_of_tree ?_;show wpAny _ A.in1 (do checkBuiltinCall "reversed.__new__" ⟨[.type "reversed",.ref r],[]⟩;again (.builtin "reversed.__new__" ⟨[.type "reversed",.ref r],[]⟩)) _ _ s
 refine ag (gJ (F.newCall_reversed_1 _) (aw ⟨plainId_quiet F.plain_reversed_new _,Cd F.entry_reversed_new ?_⟩));rw[BV F.plain_reversed_new _];unfold Builtin.«reversed.__new__»;refine ag (gJ (newClass_reversed _) ?_)
 try dsimp only
 refine ag (gJ (a:=()) (by first | rfl | kernel_rfl) ?_)
 refine ag (gJ (a:=()) (by first | rfl | kernel_rfl) ?_)
 try dsimp only
 refine ag (wpAny_specialOf d BR.lookup ?_)
 try dsimp only
 refine ag (gJ (BR.bind _) ?_)
 try dsimp only
 rw[if_neg (show ¬((Value.builtin "range.__reversed__"==Value.none)=true)from dh)]
 refine ag (qW ?_);refine ag (m:=runValue (.call (.builtin "range.__reversed__") ⟨[.ref r],[]⟩)) (show wpAny _ _ (call (.builtin "range.__reversed__") [.ref r]) _ _ _ from kU b h1 c ?_)
 first
 | exact aw h
 | exact ag (aw (aw h))
def kX(b:IsRange s.heap r 0 j 1 t u v)(h1:-(2^62)<=j)(c:j<2^62)
  (h:Q (.ref s.heap.objs.size) {s with heap:=s.heap.push (lW j)}):wpAny (model prog w) A (call (.type "reversed") [.ref r]) Q E s:=by
 refine callType_other (U:="range_iterator") (Q₁:=λobj a=>obj=.ref s.heap.objs.size/\a={s with heap:=s.heap.push (lW j)}) (by decide +kernel) F.create_reversed ⟨_,_,F.mro_reversed⟩ F.made_reversed F.pW (F.typeCall_reversed_1 _) (kW b h1 c ⟨rfl,rfl⟩) ?_
 rintro obj a ⟨rfl,rfl⟩
 exact⟨⟨_,cP _ rfl,rfl⟩,h⟩
end
end PySem
namespace L2.U
open PySem PySem.Spec PyProof.Rows
def Itb(n:Nat):It:=⟨λi _=>i<n,λi H x a=>a=H/\x=.int ((n:Int)-1+i * -1),λi _=>n<=i⟩
def KZ{P:Program}{w:World}{K:W.Frag}{C:Expr}(it:Addr)(n:Nat):Turn P w K C (Itb n) [it] it (λi h=>IsRangeIter h it ((n:Int)-1+(i:Nat) * -1) ((n:Int)-(i:Nat)) (-1)) where
 mem:=by simp
 obj:=λi h a b c=>by
  grind
 keep:=λi h f a k=>k it (by simp) _ a
 item:=by
  intro X g hw j hc i x s y H E I d a l;subst g hw j;obtain⟨m,p,D,q,r,u⟩:=d it (by simp)
  have W:=Walks.range (prog:=X.prog) (w:=X.w) (I.ok.hd hc) it ((n:Int)-1) (-1) n;refine W.item i s _ _ l a λv f J L B kk=>?_
  obtain⟨t,rfl⟩:=L;have M:Inv X x y H {s with heap:=f,toks:=J}:=I.turned (λb o c e=>kk b o (by grind) e) m p q r u
  exact⟨_,rfl,zy B rfl rfl (by decide) ⟨.int ((n:Int)-1+i * -1),H,M,⟨t,rfl⟩,⟨rfl,rfl⟩,B,λb c=>(d b c).1⟩⟩
 done:=by
  intro X g hw j hc i x s y H E I d a l;subst g hw j;obtain⟨m,p,D,q,r,u⟩:=d it (by simp)
  exact wpAny_pyNext_range_end (I.ok.hd hc) a (by have:n<=i:=l;lia) λf N=>⟨rfl,I.turned (λb o c e=>N b o c e) m p q r u⟩
 self:=λ_ _ _ _ _ a h=>BP a h
def uq:bootBuiltins "reversed"=some (.type "reversed"):=by kernel_rfl
def Vi:List PV->Option (List PV)
 | [.int j]=>if GW 0 j=true then some (pK 0 j.toNat).reverse else none
 | _=>none
def K1{K:W.Frag}{F:Fz}(n:Nat):Walk K F (pK 0 n).reverse (Itb n):=by
 intro f g c h j H R s i;have a:(pK 0 n).length=n:=by simp[pK]
 refine⟨λp e=>?_,λe=>?_⟩
 ·have b:i<(pK 0 n).reverse.length:=(bj.mp e).1;rw[BX,a]at b;rw[List.getElem?_reverse (by rw[a];exact b),a]at e
  unfold pK at e;rw[bz,nK (by lia)]at e
  cases e;exact⟨b,λx k ⟨d,y⟩=>by subst d y;exact⟨c,R,Gr.refl _,aE.mpr (cS V.int (by lia))⟩⟩
 ·have:=jS.mp e;rw[BX,a]at this;exact this
section
variable {X:Cx} {aa:Hp} {ab:Fz} {a tg:Expr} {ts:Gx (List PV)} {pos p zp xJ:Pos}
def ZL(E:Gl X "reversed")(J:X.mg "reversed"=none)(g:Gl X "range")(i:X.mg "range"=none)(L:PA X [a] (tA X aa ab ts))(M:starEach [a] X.env=[(false,eval a X.env)]):PI X tg (.Call (.Name "reversed" p) [.Call (.Name "range" zp) [a] [] xJ] [] pos) (tI X aa ab (pM Vi ts)):=by
 rintro w s σ H R I ⟨F,st,N,h⟩
 have Q:=L xJ w s σ H (λk T=>∃x y j,k=[.int j]/\GW 0 j=true/\Rep X.K aa ab x y σ T/\∀b B l,Rep X.K aa ab l y σ B->Gr x l->Walk X.K l (pK 0 j.toNat).reverse b->R b B) I
  ⟨F,st,N,h.bnd λps k F1 C f m g1 Y Z=>by
   obtain⟨o,e,z⟩:=Z.j3;unfold Vi at e;split at e
   ·obtain⟨r,rfl⟩:=aF e;obtain⟨v,rfl,b⟩:=dJ Y;rw[aE.mp b];exact⟨F1,C,_,rfl,r,m,z⟩
   ·cases e⟩
 refine Call_ (ld_blt I E J uq (ir (An rfl ?_) rfl rfl));refine Call_ (ld_blt I g i qV (ir (thn Q λus c z9=>?_) M rfl))
 obtain⟨k,f,I1,r1,F1,C,j,ev,r,m,q⟩:=z9;subst ev;obtain⟨u1,rfl,t,rfl⟩:=jH r1;obtain⟨_,_,h3,h4⟩:=dF r;refine call_range_1 (kX (wV ..) h3 h4 ?_);have u:Inv X w σ f {c with heap:=c.heap.push {cls:=.type "range",data:=.fields #[.int 0 c.toks,.int j t,.int 1 (c.toks+1)]},toks:=c.toks+1+1}:=I1.kept λb o e=>bf _ e
 have d:IsRangeIter ((c.heap.push {cls:=.type "range",data:=.fields #[.int 0 c.toks,.int j t,.int 1 (c.toks+1)]}).push (lW j)) (c.heap.push {cls:=.type "range",data:=.fields #[.int 0 c.toks,.int j t,.int 1 (c.toks+1)]}).objs.size ((j.toNat:Int)-1+(0:Nat) * -1) ((j.toNat:Int)-(0:Nat)) (-1):=by
  have e2:Builtin.Range.rangeSize 0 j 1=(j.toNat:Int):=by rw[rangeSize_one];split<;>lia
  have e:=cP (c.heap.push {cls:=.type "range",data:=.fields #[.int 0 c.toks,.int j t,.int 1 (c.toks+1)]}) (o:=lW j) rfl
  rw[IsRangeIter,e,lW,e2];simp
 refine BP d ?_;refine⟨_,[_],_,_,f,rfl,u.kept λb o e=>bf _ e,KZ _ j.toNat,d,λb D=>?_,q _ f F1 m (Gr.refl _) (K1 _)⟩
 rw[aD]at D;subst D;exact u.Cr (az _) (u.hok.fresh (az _))
end
section
variable {X:Cx}
def Pj(a:Operator):Option G2:=Up a
def K2{a:Operator}{g:G2}(h:Pj a=some g):uZ X (binaryOp a) g:=by
 exact Om h
end
structure Gm where
 sc:List (Str×NameKind)
 N:List Str
 own:Bool
 fns:List (Str×Nat)
 call:Str->oo
 cons:List (Str×PV)
 dt:List Str
 tabs:List (Str×List (Str×Str))
 cls:List (Str×Nat)
 make:Str->oo
 clss:List Str
 flds:List Str
 /-- what adT in a cell: 1 a list,2 a list of cells,10 a dict QQ keys are tuples -/
 Xv:List (Str×Nat)
 t8:Option ((PV->Gx PV)->Nat->oo)
 xO:Option (Nat×(PV->Gx PV))
def slot(a:Gm)(x:Str):Option Nat:=a.N.findIdx? (· == x)
noncomputable def Ny(a:Gm)(x:Str):Bool:=match a.sc.lookup x with | some .local=>true | some .cell=>true | some .free=>true | _=>false
noncomputable def Xd(a:Gm)(x:Str):Bool:=match a.sc.lookup x with | some .local=>true | some .cell=>a.own | _=>false
noncomputable def yY(a:Gm)(x:Str):Bool:=match a.sc.lookup x with | some .globalImplicit=>true | _=>false
noncomputable def iD(x:Str):Bool:=!(x==("__debug__":Str))&&!(x==("__classdict__":Str))&&!(x==("__name__":Str))
noncomputable def md(a:Gm)(x:Str):Nat:=(a.Xv.lookup x).getD 0
def Hg(m:Nat):Nat:=if m<10 then m-1 else 0
def Vj(X:Cx)(k:Nat)(a:List (Str×Nat))(call:Str->oo):Prop:=∀x n,a.lookup x=some n->∃j f b c,j<=k/\FnOk X.prog X.w X.K X.mg X.base (iQ X.prog X.w) j f b c (G1 X.K n (call x))/\X.mg x=some (.ref f)/\W.keepIn X.K (.ref f)=true/\gr X.K b c []
structure K3 (Γ:Gm) (X:Cx) (rs:(PV->Gx PV)->Nat->oo):Prop where
 ex:∃(st:Stmt) (fs:Addr) (RK:FuncData) (pr Ns:List Str) (k:Nat) (rb:(PV->Gx PV)->Nat->Gx dE),rs=(λω n=>dP (rb ω n) Ns.length)/\Cj X.K "spread" "spread" st fs RK/\X.mg "spread"=some (.ref fs)/\gr X.K RK pr []/\dH Ns pr (ax st)/\pr.length=2/\dN (k+2) X.A /\
  (∀(cZ:Value) (A:Around) (ay:List Env) (s:Shared) (H:Hp) (E:XK) (aa:Hp) (ab:Fz) (n:Nat) (ω:PV->Gx PV),dN (k+1) (A.deeper (envOfC "spread" (ax st) s.heap.objs.size fs cZ))->Am (fq (iQ X.prog X.w) X.prog X.w X.K X.mg X.base Ns "spread" (ax st) fs cZ A ay s H E) aa ab n ω ->
   PSs (fq (iQ X.prog X.w) X.prog X.w X.K X.mg X.base Ns "spread" (ax st) fs cZ A ay s H E) (du st) (tS (fq (iQ X.prog X.w) X.prog X.w X.K X.mg X.base Ns "spread" (ax st) fs cZ A ay s H E) aa ab (rb ω n))) /\
  Vj X k Γ.fns Γ.call
 lam:RJ X
structure GOk (Γ:Gm) (X:Cx) (aa:Hp) (ab:Fz):Prop where
 names:X.env.scope.names=Γ.sc
 N:X.N=Γ.N
 nd:X.N.Nodup
 kind:X.env.scope.kind=.function
 calm:X.calm=true
 hd:X.A.handled=none
 un:X.A.units+1150<cLine
 own:Γ.own=true->∀x,X.fn x=true
 fns:RH X Γ.fns Γ.call
 cons:∀x p,Γ.cons.lookup x=some p->∃u v,X.mg x=some u/\RelV v u/\∀F,bO X.K F p v
 dt:∀x,Γ.dt.contains x=true->X.mg x=none
 tabs:∀T rows,Γ.tabs.lookup T=some rows->ES X.K X.mg X.w.params T rows
 ns:∀x a,W.nsIn X.K mainGlobals x=some (some (.ref a))->X.mg x=some (.ref a)
 RM:Kv X.K Γ.clss Γ.flds
 cls:∀C n,Γ.cls.lookup C=some n->∃k Ca f fd ps,ClsAt X.K C (.ref Ca)/\F8 X.K Ca/\Mk X.K Ca f/\FnOk X.prog X.w X.K X.mg X.base (iQ X.prog X.w) k f fd ps (G1 X.K n (Γ.make C))/\dN (k+1) X.A/\X.mg C=some (.ref Ca)/\gr X.K fd ps []
 t8:∀rs,Γ.t8=some rs->K3 Γ X rs
 xO:∀n ω,Γ.xO=some (n,ω)->Am X aa ab n ω
def bE:Expr->Bool
 | .Starred _ _=>false
 | .Set _ _ _=>false
 | _=>true
def qj:Expr->Bool
 | .Slice _ _ _ _=>false
 | _=>true
def E6:Expr->Bool
 | .Tuple _ _ _=>false
 | .ListComp _ _ _ _=>false
 | .SetComp _ _ _ _=>false
 | .DictComp _ _ _ _ _=>false
 | _=>true
def lX:Expr->Bool
 | .ListComp _ _ _ _=>false
 | .SetComp _ _ _ _=>false
 | .DictComp _ _ _ _ _=>false
 | _=>true
def xP:Expr->Bool
 | .Name _ _=>true
 | .Subscript _ _ _=>true
 | .Attribute _ _ _=>true
 | .Call _ (_::_) _ _=>true
 | _=>false
def qk(h:xP e=true):attributeBase e f env (eval e env)=eval e env:=by
 cases e with
 | Call f as ks=>cases as with
  | nil=>cases h
  | cons=>cases f<;>rfl
 | _=>first | rfl | cases h
def xQ(h:E6 e=true):lX e=true:=by
 cases e<;>first | rfl | cases h
def Di:Expr->Bool
 | .UnaryOp .Not _ _=>false
 | .BoolOp _ _ _=>false
 | .IfExp _ _ _ _=>false
 | .Compare _ _ _ _=>false
 | _=>true
def bH(h:bE e=true)(b:List Expr)(a:Env):starEach (e::b) a=(false,eval e a)::starEach b a:=by
 cases e<;>first | rfl | cases h
def ig(h:bE e=true)(a:CmpOp):behindInMarks a e=false:=by
 cases e<;>first | rfl | cases h
def fN(h:bE e=true)(a:Env)(x:Value):foldedSetIterable e a x=pure x:=by
 cases e<;>first | rfl | cases h
def Ax(h:qj e=true):qc e:=by
 intro o i;cases e<;>first | rfl | cases h
def K4(h:Di e=true)(b:Env)(c:Sem Value):isTrue e b c=(do let v <-c;standAt e.pos;holding [v] (truthy v)):=by
 cases e with
 | UnaryOp op a p=>cases op<;>first | rfl | cases h
 | BoolOp _ _ _=>cases h
 | IfExp _ _ _ _=>cases h
 | Compare _ _ _ _=>cases h
 | _=>rfl
def ij(h:lX e=true)(t:Option Expr)(l:Nat)(a:Env):swapsWith e t l a=pure false:=by
 cases e<;>first | rfl | cases h
def ik(h:a.all bE=true)(b:Env)(pos:Pos):(backTo pos (starEach a b)).any (·.1)=false:=by
 induction a with
 | nil=>rfl
 | cons e a ih =>
  rw[gj,aR]at h;rw[bH h.1];exact ih h.2
def Dj(h:a.all bE=true)(b:Env)(pos:Pos):(backTo pos (starEach a b)).all (λx=>!x.1)=true:=by
 induction a with
 | nil=>rfl
 | cons e a ih =>
  rw[gj,aR]at h;rw[bH h.1];exact ih h.2
def Pk(h:a.all bE=true)(b:a.length<30):((backTo cp (starEach a env)).all (λx=>!x.1)&&(backToKw cp (keywordEach [] env)).all (λx=>x.1.isSome)
   && decide (a.length+([]:List Keyword).length+(if([]:List Keyword).isEmpty then 0 else 1)<30))=true:=by
 rw[Dj h];simp only[Bool.true_and,aR,gG];exact⟨rfl,b⟩
def kc(h:iD x=true):(x==("__debug__":Str))=false/\(x==("__classdict__":Str))=false/\x≠"__name__":=by
 unfold iD at h;simp only[aR,qJ]at h;exact⟨h.1.1,h.1.2,by simpa using h.2⟩
noncomputable def xT:Nat->Gm->Expr->Option (Tg×List Nat)
 | 0,_,_=>none
 | n+1,b,e=>match e with
  | .Name x _=>if Xd b x=true then(slot b x).map λi=>(aU i,[i])else none
  | .Tuple c _ _=>(c.foldr (λe r=>(xT n b e).bind λg=>r.map λa=>(dk g.1 a.1,g.2++a.2)) (some (oi,[]))).map λa=>(iR c.length a.1,a.2)
  | _=>none
def K5(h:slot a x=some i):a.N[i]?=some x:=by
 unfold slot at h;obtain⟨b,hp,_⟩:=BF.mp h;rw[bC b];exact cS some (aY hp)
section
variable {Γ:Gm} {X:Cx} {x:Str} {pos:Pos} {aa:Hp} {ab:Fz}
def GOk.adU(G:GOk Γ X aa ab)(h:Ny Γ x=true):XE X.env.scope x:=by
 unfold Ny at h;unfold XE;rw[G.names];split at h<;>simp_all
def GOk.Vk(G:GOk Γ X aa ab)(h:Xd Γ x=true):QV X.env.scope x/\(X.fn x=true\/X.env.scope.names.lookup x=some .local):=by
 unfold Xd at h;unfold QV;rw[G.names];split at h
 ·grind
 ·rename_i z;exact⟨.inr z,.inl (G.own h x)⟩
 ·cases h
def GOk.jO(G:GOk Γ X aa ab)(h:yY Γ x=true):Gl X x:=by
 unfold yY at h;show X.env.scope.names.lookup x=_;rw[G.names];split at h
 ·assumption
 ·cases h
def GOk.sk(G:GOk Γ X aa ab)(h:slot Γ x=some i):X.N[i]?=some x:=by
 rw[G.N];exact K5 h
theorem kD(G:GOk Γ X aa ab):∀(n:Nat) (e:Expr) (g:Tg×List Nat),xT n Γ e=some g->PG X e (tG X.K aa ab g.1)/\KG g.2 g.1/\(∀a:Env,(assignEach [e] a).map (·.2)=[assign e a])/\∀(b:List Expr) (a:Env),assignEach (e::b) a=(false,assign e a)::assignEach b a
 | 0,_,_,h=>by cases h
 | n+1,e,g,h=>by
  cases e with
  | Name x p =>
   have h:=h;obtain⟨j,h⟩:=bM h;obtain⟨i,z,rfl⟩:=aZ h;obtain⟨l,m⟩:=G.Vk j;exact⟨Ul i (Nv G.nd (G.sk z) l m),OG i,λ_=>rfl,λ_ _=>rfl⟩
  | Tuple b k p =>
   have all:∀b c,b.foldr (λe r=>(xT n Γ e).bind λg=>r.map λc=>(dk g.1 c.1,g.2++c.2)) (some (oi,[]))=some c ->
     PGs X b (YM X.K aa ab c.1)/\Y3 c.2 c.1/\∀a:Env,(assignEach b a).length=b.length/\(assignEach b a).findIdx? (·.1)=none:=by
    intro b;induction b with
    | nil =>
     intro c h;cases h;exact⟨Um,OH,λa=>⟨rfl,rfl⟩⟩
    | cons e b ih =>
     intro c h;rw[List.foldr_cons]at h;obtain⟨o,e1,h⟩:=aO h;obtain⟨q,z,rfl⟩:=aZ h;obtain⟨t,u,y,v⟩:=kD G n e o e1;obtain⟨f,b2,d⟩:=ih q z;refine⟨Of t f (by grind),J5 u b2,λa=>?_⟩
     rw[v];obtain⟨w,B⟩:=d a;exact⟨by rw[aN,aN,w],by grind⟩
   have h:=h;obtain⟨c,z,rfl⟩:=aZ h;obtain⟨f,b2,d⟩:=all b c z;exact⟨YN G.calm f (d _).1 (d _).2,UI b2,λ_=>rfl,λ_ _=>rfl⟩
  | _=>cases h
def vp(G:GOk Γ X aa ab)(a:iD x=true)(b:Ny Γ x=true)(c:slot Γ x=some i):PE X (.Name x pos) (Nl i) :=
 pe_var (G.sk c) (G.adU b) (kc a).1 (kc a).2.1
end
def xU(x:Str):Option GC :=
 if x==("len":Str)then some gM
 else if x==("tuple":Str)then some GF
 else if x==("int":Str)then some GG
 else if x==("sum":Str)then some GI
 else if x==("str":Str)then some GH
 else none
def K6:bootBuiltins "sum"=some (.builtin "sum"):=by kernel_rfl
set_option maxHeartbeats 4000000 in
theorem Vl(h:xU x=some g)(j:X.A.handled=none)(b:Gl X x)(c:X.mg x=none)(d:PA X (a::i) (tA X k l m))
  (he:starEach (a::i) X.env=(false,eval a X.env)::starEach i X.env) (f:(backTo pos (starEach i X.env)).any (·.1)=false):PE X (.Call (.Name x p) (a::i) [] pos) (tE X k l (gm g m)):=by
 unfold xU at h;split at h
 ·rename_i e;cases h;have e:=aY e;subst e;exact(rA GJ b c PySem.boot_len d (by decide) (by decide) he f).imp λ_ _ _ h=>mI h
 ·split at h
  ·rename_i e;cases h;have e:=aY e;subst e;exact(oh GL b c (kB .tuple) d (by decide) (by decide) he f).imp λ_ _ _ h=>mI h
  ·split at h
   ·rename_i e;cases h;have e:=aY e;subst e;exact(oh GN b c (kB .int) d (by decide) (by decide) he f).imp λ_ _ _ h=>mI h
   ·split at h
    ·rename_i e;cases h;have e:=aY e;subst e;exact(rA (GP j) b c K6 d (by decide) (by decide) he f).imp λ_ _ _ h=>mI h
    ·split at h
     ·rename_i e;cases h;have e:=aY e;subst e;exact(oh GO b c (kB .str) d (by decide) (by decide) he f).imp λ_ _ _ h=>mI h
     ·cases h
def xV:ScopeKind->Bool
 | .function=>true
 | _=>false
noncomputable def vq(a:Scope):List Str:=(a.names.filter λy=>match y.2 with | .local=>true | .free=>true | _=>false).map (·.1)
def gR(b:Gm)(a:Scope):List (Option Nat):=(vq a).map λx=>match a.names.lookup x with | some .free=>slot b x | _=>none
noncomputable def Dk(b:Gm)(a:Scope):List (Str×NameKind):=a.names.map fun(n,k)=>if(k==NameKind.free&&b.sc.lookup n==some .cell)then(n,NameKind.cell)else(n,k)
def vt(b:Gm)(a:Scope):Gm:={b with sc:=Dk b a,N:=vq a,own:=false,t8:=none,xO:=none}
def su(b:Gm)(a:Scope)(L:List Nat):Bool :=
 xV a.kind&&a.names.all (λy=>match y.2 with
  | .cell=>false
  | .local=>(match a.names.lookup y.1 with | some .local=>true | _=>false)
  | .free=>(match b.sc.lookup y.1 with | some .cell=>true | some .free=>true | _=>false)
  | _=>true)&&decide (vq a).Nodup&&L.all λi=>match(gR b a)[i]? with | some none=>true | _=>false
noncomputable def ql(a:Arguments):Option (Str×Pos):=match a.args with
 | [y]=>bif a.posonlyargs.isEmpty&&(a.vararg.isNone&&(a.kwonlyargs.isEmpty&&(a.kw_defaults.isEmpty&&(a.kwarg.isNone&&(a.defaults.isEmpty&&y.annotation.isNone)))))then some (y.arg,y.pos)else none
 | _=>none
def xW(h:ql args=some a):args=oneArg a.1 a.2:=by
 obtain⟨b,as,c,d,e,kw,f⟩:=args;rcases as with _ | ⟨⟨x,an,ap⟩,_ | _⟩
 ·cases h
 ·cases b;rotate_left;cases h;cases c;rotate_left;cases h;cases d;rotate_left;cases h;cases e;rotate_left;cases h;cases kw;rotate_left;cases h;cases f;rotate_left;cases h;cases an;rotate_left;cases h;cases h;rfl
 ·cases h
noncomputable def isFree(k:Option NameKind):Bool:=match k with | some .free=>true | _=>false
def xX(a:Scope):List Str:=(a.names.filter λy=>isFree (some y.2)).map (·.1)
def qm(b:Gm)(a:Scope):List (Option Nat):=(xX a).map (slot b)
def ZM(b:Gm)(x:Str)(a:Scope):Gm:={b with sc:=a.names,N:=x::xX a,own:=false,t8:=none,xO:=none,cls:=[]}
def K8(b:Gm)(x:Str)(a:Scope):Bool :=
 xV a.kind&&!a.isCoroutine&&!a.isGenerator&&(match a.names.lookup x with | some .local=>true | _=>false)&&a.names.all (λy=>match y.2 with
  | .cell=>false
  | .free=>(match b.sc.lookup y.1 with | some .cell=>true | some .free=>true | _=>false)&&isFree (a.names.lookup y.1)
  | _=>true)&&decide (x::xX a).Nodup
section
variable {Γ:Gm} {X:Cx} {scope:Scope} {L:List Nat} {aa:Hp} {ab:Fz}
def mT(h:su Γ scope L=true):scope.kind=.function/\(∀y∈scope.names,(match y.2 with
  | .cell=>false
  | .local=>(match scope.names.lookup y.1 with | some .local=>true | _=>false)
  | .free=>(match Γ.sc.lookup y.1 with | some .cell=>true | some .free=>true | _=>false)
  | _=>true)=true)/\(vq scope).Nodup/\∀i∈L,(gR Γ scope)[i]?=some none:=by
 unfold su at h;simp only[aR,gH,gG]at h;obtain⟨⟨⟨a,b⟩,c⟩,d⟩:=h;refine⟨?_,b,c,λi e=>?_⟩
 ·unfold xV at a;split at a
  ·assumption
  ·cases a
 ·grind
def Dl(G:GOk Γ X aa ab)(h:su Γ scope L=true):iX X (vq scope) (gR Γ scope) scope:=by
 obtain⟨c,d,f,g⟩:=mT h;refine⟨c,λy b z=>?_,λy b z=>?_,λy b z=>?_,by unfold gR;rw[aj],λi j x a e=>?_⟩
 ·grind
 ·grind
 ·have:=d y b;rw[z]at this;simp only at this;show X.env.scope.names.lookup y.1=_\/X.env.scope.names.lookup y.1=_;rw[G.names];split at this
  ·grind
  ·grind
  ·cases this
 ·unfold gR at a;rw[bz,e]at a;have a:(match scope.names.lookup x with | some .free=>slot Γ x | _=>none)=some j:=by grind
  split at a
  ·exact⟨G.sk a,by assumption⟩
  ·cases a
def K9(G:GOk Γ X aa ab)(h:su Γ scope L=true)(C:Addr)(s:Shared)(H:Hp)(a:List Addr)(b:Hp)(c:Fz):GOk (vt Γ scope) (cU X (vq scope) scope C s H a) b c where
 names:=by
  show(relabel scope X.env).names=Dk Γ scope;have e:∀n,X.env.kindOf n=Γ.sc.lookup n:=λn=>by show X.env.scope.names.lookup n=_;rw[G.names]
  unfold Dk relabel;simp only[G.kind,e]
  congr 1
  funext y
  obtain⟨n,k⟩:=y;simp
 N:=rfl
 nd:=(mT h).2.2.1
 kind:=by
  exact(mT h).1
 calm:=G.calm
 hd:=G.hd
 un:=G.un
 own:=λz=>by cases z
 fns:=G.fns
 cons:=G.cons
 dt:=G.dt
 tabs:=G.tabs
 ns:=G.ns
 RM:=G.RM
 cls:=G.cls
 t8:=λ_ z=>by cases z
 xO:=λ_ _ z=>by cases z
def La{i:Nat}(h:(xX scope)[i]?=some y):(y,NameKind.free)∈scope.names:=by
 have a:=cH h;unfold xX at a;obtain⟨z,b,rfl⟩:=au.mp a;obtain⟨c,d⟩:=cR.mp b;obtain⟨n,k⟩:=z;cases k<;>first | exact c | cases d
def Hh(h:isFree k=true):k=some .free:=by
 unfold isFree at h;split at h
 ·rfl
 ·cases h
def Hi{x:Str}(G:GOk Γ X aa ab)(h:K8 Γ x scope=true):sg X x (xX scope) (qm Γ scope) scope/\(x::xX scope).Nodup:=by
 unfold K8 at h;simp only[aR]at h;obtain⟨⟨⟨⟨⟨a,k⟩,l⟩,m⟩,e⟩,f⟩:=h;have b:=gH.mp e;refine⟨⟨?_,by grind,by grind,?_,λy c z=>?_,λy c z=>?_,?_,λi j y e1 d=>?_⟩,dF f⟩
 ·unfold xV at a;split at a
  ·assumption
  ·cases a
 ·grind
 ·grind
 ·have:=b y c;rw[z]at this;simp only[aR]at this;have hk:X.env.kindOf y.1=Γ.sc.lookup y.1:=by show X.env.scope.names.lookup y.1=_;rw[G.names]
  rw[hk];have t:=this.1;split at t
  ·grind
  ·grind
  ·cases t
 ·unfold qm;rw[aj]
 ·have g:=La d;have:=b _ g;simp only[aR]at this;refine⟨?_,Hh this.2⟩;unfold qm at e1;rw[bz,d]at e1;exact G.sk (bI e1)
def Pl(G:GOk Γ X aa ab)(hk:scope.kind=.function)(b:(x::xX scope).Nodup)(c:Vj X k Γ.fns Γ.call)
  {stack:List Env} (a:dN k (A.deeper (W.envX qual scope s.heap.objs.size d g cl))) (h:Hp) (i:Fz) :
  GOk (ZM Γ x scope) (Rj (iQ X.prog X.w) X.prog X.w X.K X.mg X.base (x::xX scope) qual scope d g cl A stack s H E) h i where
 names:=rfl
 N:=rfl
 nd:=b
 kind:=hk
 calm:=rfl
 hd:=a.hd
 un:=by
  have:=a.un;show(A.deeper _).units+1150<cLine
  lia
 own:=λz=>by cases z
 fns:=λy n e=>let ⟨j,f,fd,l,m,o,p,q,r⟩:=c y n e;⟨j,f,fd,l,o,a.mono m,p,q,r⟩
 cons:=G.cons
 dt:=G.dt
 tabs:=G.tabs
 ns:=G.ns
 RM:=G.RM
 cls:=λ_ _ z=>by cases z
 t8:=λ_ z=>by cases z
 xO:=λ_ _ z=>by cases z
end
def cK{a:Type}:Gx a:=λ_=>none
section
variable {X:Cx} {aa:Hp} {ab:Fz} {e:Expr} {es:List Expr}
def vv{C:Prop}(h:tX X aa ab a cK σ H Q):C:=by
 obtain⟨F,b,R,r,z,_⟩:=h;cases z
def bg:PE X e (tE X aa ab cK):=λ_ _ _ _ _ _ h=>vv h
def vw:PT X e (tT X aa ab cK):=λ_ _ _ _ _ _ h=>vv h
def Lb:PW X e (tT X aa ab cK):=λ_ _ _ _ _ _ _ h=>vv h
def RN:PA X es (tA X aa ab cK):=λ_ _ _ _ _ _ _ h=>vv h
def E7{a:Expr}:PI X a e (GX X aa ab cK):=λ_ _ _ _ _ _ h=>vv h
end
def bK(m n:Nat)(g:oo)(as:List PV):Gx PV:=λa=>if((m==0)&&(a.h.isEmpty || ai as))=true then ou n g as a else C9 n g as a
def adV(G:FnOk X.prog X.w X.K X.mg X.base (iQ X.prog X.w) k f fd ps (G1 X.K n g))(a:dN k X.A)(c:gr X.K fd ps []):OR X f (bK m n g):=by
 rintro d H e F st σ h s Q as us i I R b r ⟨q,e1,j⟩
 unfold bK at e1;split at e1
 ·exact Zg G a c d H e F st σ h s Q as us i I R b r ⟨q,e1,j⟩
 ·exact adn G a c d H e F st σ h s Q as us i I R b r ⟨q,e1,j⟩
def ZN(a:Gm):Expr->Nat
 | .Name x _=>Hg (md a x)
 | .Attribute _ f _=>Hg (md a f)
 | _=>0
def adW(a:Gm)(g:Str)(o:Expr):Nat:=if g==("get":Str)then 0 else ZN a o
def xY(e:Expr):Option {x:Option Expr×Option Expr // ∃p,e=.Slice x.1 x.2 none p}:=match e with
 | .Slice lo a none p=>some ⟨(lo,a),p,rfl⟩
 | _=>none
def adX:Const->Gx PV
 | .int i=>aW (.int i)
 | .bool i=>aW (.bl i)
 | .none=>aW .bB
 | .str i=>aW (.str i)
 | _=>cK
def Vm(a:Gm)(x:Str):Gx PV:=if iD x=true then(if Ny a x=true then(match slot a x with | some i=>rd i | none=>cK)else if yY a x=true then(match a.cons.lookup x with | some p=>aW p | none=>cK)else cK)else cK
noncomputable def Dn(a:Expr):Option {x:Str×Expr×List Expr // ∃p q,a=.Call (.Name x.1 p) (x.2.1::x.2.2) [] q}:=match a with
 | .Call (.Name z p) (b::bs) [] q=>some ⟨(z,b,bs),p,q,rfl⟩
 | _=>none
noncomputable def Ld(a:Expr)(b:List Expr):Option {x:Str×Expr // b=[]/\∃p q,a=.Call (.Name x.1 p) [x.2] [] q}:=match a,b with
 | .Call (.Name z p) [e] [] q,[]=>some ⟨(z,e),rfl,p,q,rfl⟩
 | _,_=>none
def il(a:Gm)(x:Str):Bool:=yY a x&&a.dt.contains x
mutual
noncomputable def bR:Nat->Gm->Nat->Expr->Gx PV
 | 0,_,_,_=>cK
 | n+1,d,m,e=>match e with
  | .Constant c _ _=>adX c
  | .Name x _=>Vm d x
  | .BinOp a op b _=>(match Pj op with | some g=>op2 g (bR n d 0 a) (bR n d 0 b) | none=>cK)
  | .UnaryOp .Not a _=>Oc (bR n d 0 a)
  | .UnaryOp .USub a _=>zS (bR n d 0 a)
  | .BoolOp op i _=>Le n d op i
  | .Compare a ops bs _=>Vn n d a ops bs
  | .IfExp c a b _=>dQ (uu n d c) (bR n d m a) (bR n d m b)
  | .Tuple h _ _=>kO .aq (kY n d m h)
  | .List h _=>(match m with | 0=>kO .lst (kY n d 0 h) | _=>ug (kY n d (Hg m) h))
  | .Dict [] [] _=>Ks (m==10)
  | .Subscript a b _=>Vo n d a b
  | .ListComp elt gens scope _=>Vp n d m elt gens scope
  | .Attribute o f _=>if xP o=true then U1 f (bR n d 0 o)else cK
  | .Call f (a::h) [] cp=>if(a::h).all bE=true then Vq n d m f a h cp else cK
  | .Call (.Attribute o f ap) [] [] cp=>if(xP o&&(ap.endLine==cp.line))=true then(if f==("isdigit":Str)then U4 (bR n d 0 o)else match Dc f with | some w=>xE w.1 w.2 (bR n d 0 o) (aW []) | none=>cK)else cK
  | _=>cK
termination_by structural n=>n
noncomputable def Vq:Nat->Gm->Nat->Expr->Expr->List Expr->Pos->Gx PV
 | 0,_,_,_,_,_,_=>cK
 | n+1,b,m,f,a,c,cp=>match f with
  | .Name x _=>if iD x=true then(if yY b x=true then Vr n b m x a c else if Ny b x=true then Lf n b x a c else cK)else cK
  | .Subscript v k p=>Ak b.fns b.call (bR n b 0 (.Subscript v k p)) (kY n b 0 (a::c))
  | .Attribute o g ap=>if(xP o&&(ap.endLine==cp.line)&&decide ((a::c).length<30))=true then(match ER g with | some w=>xE w.1 w.2 (bR n b 0 o) (kY n b (adW b g o) (a::c)) | none=>cK)else cK
  | _=>cK
termination_by structural n=>n
noncomputable def Lf:Nat->Gm->Str->Expr->List Expr->Gx PV
 | 0,_,_,_,_=>cK
 | n+1,b,x,a,c=>match c,slot b x,b.xO with
  | [],some i,some o=>Kw i o.1 o.2 (bR n b 0 a)
  | _,_,_=>cK
termination_by structural n=>n
noncomputable def Vr:Nat->Gm->Nat->Str->Expr->List Expr->Gx PV
 | 0,_,_,_,_,_=>cK
 | n+1,b,m,x,a,c=>if x==("spread":Str)then Lg n b a c else match b.fns.lookup x with
  | some k=>bnd (kY n b 0 (a::c)) (bK m k (b.call x))
  | none=>match b.cls.lookup x with
   | some k=>(match m with | 0=>mkP x k (b.make x) (kY n b 0 (a::c)) | _=>cK)
   | none=>if b.dt.contains x=true then(if x==("isinstance":Str)then Lh n b a c else if x==("sorted":Str)then Li n b a c else if x==("dict":Str)then Vs n b a c else if x==("list":Str)then Lj n b m a c else match xU x with | some g=>gm g (kY n b 0 (a::c)) | none=>cK)else cK
termination_by structural n=>n
noncomputable def Lg:Nat->Gm->Expr->List Expr->Gx PV
 | 0,_,_,_=>cK
 | n+1,b,a,d=>match d with
  | [.Lambda args body scope _]=>(match b.t8,ql args with
   | some rs,some c=>if K8 b c.1 scope=true then G7 rs (bR n b 0 a) (bR n (ZM b c.1 scope) 0 body) (qm b scope)else cK
   | _,_=>cK)
  | _=>cK
termination_by structural n=>n
noncomputable def Lj:Nat->Gm->Nat->Expr->List Expr->Gx PV
 | 0,_,_,_,_=>cK
 | n+1,b,m,a,c=>match c with
  | []=>(match Dn a with
   | some ⟨zs,_⟩=>if(zs.1==("range":Str)&&il b zs.1&&(zs.2.1::zs.2.2).all bE)=true then lrg m (kY n b 0 (zs.2.1::zs.2.2))else cK
   | none=>Va m (bR n b 0 a))
  | _=>cK
termination_by structural n=>n
noncomputable def Vs:Nat->Gm->Expr->List Expr->Gx PV
 | 0,_,_,_=>cK
 | n+1,b,a,c=>match c with
  | []=>(match a with
   | .BinOp l .Add r _=>EY (bR n b 0 l) (bR n b 0 r)
   | _=>cK)
  | _=>cK
termination_by structural n=>n
noncomputable def Li:Nat->Gm->Expr->List Expr->Gx PV
 | 0,_,_,_=>cK
 | n+1,b,a,c=>match c with
  | []=>KQ (bR n b 0 a)
  | _=>cK
termination_by structural n=>n
noncomputable def Lh:Nat->Gm->Expr->List Expr->Gx PV
 | 0,_,_,_=>cK
 | n+1,b,a,c=>match c with
  | [.Name t _]=>if il b t=true then(match EB t with | some g=>isV g (bR n b 0 a) | none=>cK)else cK
  | _=>cK
termination_by structural n=>n
noncomputable def Vn:Nat->Gm->Expr->List CmpOp->List Expr->Gx PV
 | 0,_,_,_,_=>cK
 | n+1,d,a,ops,bs=>match ops,bs with
  | [op],[b]=>if bE b=true then(match CY op with | some g=>op2 g (bR n d 0 a) (bR n d 0 b) | none=>cK)else cK
  | [op,e],[b,c]=>if bE c=true then(match CY op,CY e with | some g,some f=>chain g f (bR n d 0 a) (bR n d 0 b) (bR n d 0 c) | _,_=>cK)else cK
  | _,_=>cK
termination_by structural n=>n
noncomputable def Vo:Nat->Gm->Expr->Expr->Gx PV
 | 0,_,_,_=>cK
 | n+1,c,a,b=>match xY b with
  | some ⟨d,_⟩=>cutE (bR n c 0 a) (Pm n c d.1) (Pm n c d.2)
  | none=>if qj b=true then(match a with
   | .Name T p=>if(iD T&&yY c T)=true then(match c.tabs.lookup T with
    | some rows=>Kt (λk=>(rows.lookup k).map .fn) (bR n c 0 b)
    | none=>op2 bQ (bR n c 0 (.Name T p)) (bR n c 0 b))else op2 bQ (bR n c 0 (.Name T p)) (bR n c 0 b)
   | a=>op2 bQ (bR n c 0 a) (bR n c 0 b))else cK
termination_by structural n=>n
noncomputable def uu:Nat->Gm->Expr->Gx Bool
 | 0,_,_=>cK
 | n+1,d,e=>match e with
  | .UnaryOp .Not a _=>CS (uu n d a)
  | .BoolOp op f _=>Lk n d op f
  | .Compare a [op] [b] _=>if bE b=true then(match CY op with | some g=>toB (op2 g (bR n d 0 a) (bR n d 0 b)) | none=>cK)else cK
  | .Compare a [op,h] [b,c] _=>if bE c=true then(match CY op,CY h with | some g,some i=>toB (chain g i (bR n d 0 a) (bR n d 0 b) (bR n d 0 c)) | _,_=>cK)else cK
  | e=>if Di e=true then gO (bR n d 0 e)else cK
termination_by structural n=>n
noncomputable def Le:Nat->Gm->BoolOp->List Expr->Gx PV
 | 0,_,_,_=>cK
 | n+1,c,op,[a]=>bR n c 0 a
 | n+1,c,.And,a::b::r=>GD (bR n c 0 a) (Le n c .And (b::r))
 | n+1,c,.Or,a::b::r=>orG (bR n c 0 a) (Le n c .Or (b::r))
 | _,_,_,_=>cK
termination_by structural n=>n
noncomputable def Lk:Nat->Gm->BoolOp->List Expr->Gx Bool
 | 0,_,_,_=>cK
 | n+1,c,op,[a]=>uu n c a
 | n+1,c,.And,a::b::r=>dQ (uu n c a) (Lk n c .And (b::r)) (aW false)
 | n+1,c,.Or,a::b::r=>dQ (uu n c a) (aW true) (Lk n c .Or (b::r))
 | _,_,_,_=>cK
termination_by structural n=>n
noncomputable def kY:Nat->Gm->Nat->List Expr->Gx (List PV)
 | 0,_,_,_=>cK
 | n+1,a,m,[]=>aW []
 | n+1,a,m,e::b=>if bE e=true then ao (bR n a m e) (kY n a m b)else cK
termination_by structural n=>n
noncomputable def Pm:Nat->Gm->Option Expr->Gx (Option Int)
 | 0,_,_=>cK
 | n+1,a,none=>aW none
 | n+1,a,some e=>u5 (bR n a 0 e)
termination_by structural n=>n
noncomputable def Ll:Nat->Gm->Expr->Expr->Gx yW
 | 0,_,_,_=>cK
 | n+1,c,f,e=>match e with
  | .Call (.Name x p) [a] [] cp=>if(x==("range":Str)&&il c x&&bE a)=true then EJ (pM xD (kY n c 0 [a]))
    else if(x==("enumerate":Str)&&il c x&&bE a&&RB f)=true then EJ (vd (bR n c 0 a))
    else if(x==("reversed":Str)&&il c x)=true then(match Ld a []with | some ⟨d,_⟩=>if(d.1==("range":Str)&&il c d.1&&bE d.2)=true then EJ (pM Vi (kY n c 0 [d.2]))else cK | none=>cK)
    else iY (bR n c 0 (.Call (.Name x p) [a] [] cp))
  | .Call (.Name x p) [a,b] [] cp=>if(x==("range":Str)&&il c x&&bE a&&bE b)=true then EJ (pM UK (kY n c 0 [a,b]))
    else iY (bR n c 0 (.Call (.Name x p) [a,b] [] cp))
  | e=>if bE e=true then iY (bR n c 0 e)else cK
termination_by structural n=>n
noncomputable def Vp:Nat->Gm->Nat->Expr->List Comprehension->Scope->Gx PV
 | 0,_,_,_,_,_=>cK
 | n+1,a,m,elt,gens,scope=>match gens with
  | [⟨b,iter,ifs,0⟩]=>if bE iter=true then(match xT n (vt a scope) b with
   | some g=>if su a scope g.2=true then(match ifs with
    | []=>dB (m != 0) (gR a scope) (Ll n a b iter) (kR g.1 (bR n (vt a scope) (Hg m) elt))
    | [c]=>dB (m != 0) (gR a scope) (Ll n a b iter) (mM g.1 (uu n (vt a scope) c) (bR n (vt a scope) (Hg m) elt))
    | _=>cK)else cK
   | none=>cK)else cK
  | _=>cK
termination_by structural n=>n
end
def CC(X:Cx)(d:Hp)(e:Fz)(c:Expr)(b:List Comprehension)(a:Scope)(p:Pos)(f:Gx PV):Prop:=PE X (.ListComp c b a p) (tE X d e f) /\
  ∀i x g h,X.N[i]?=some x->X.env.scope.names.lookup x=some .local->swapsWith (.ListComp c b a p) (some (.Name x g)) h.line X.env=pure true ->
   PS X (.Assign [.Name x g] (.ListComp c b a p) h) (tS X d e (dc f (aU i)))
structure Snd (n:Nat):Prop where
 e:∀Γ X aa ab m e,GOk Γ X aa ab->PE X e (tE X aa ab (bR n Γ m e))
 f:∀Γ X aa ab m f a es cp,GOk Γ X aa ab->(a::es).all bE=true->PE X (.Call f (a::es) [] cp) (tE X aa ab (Vq n Γ m f a es cp))
 o:∀Γ X aa ab x a es p cp,GOk Γ X aa ab->(a::es).all bE=true->iD x=true->Ny Γ x=true->PE X (.Call (.Name x p) (a::es) [] cp) (tE X aa ab (Lf n Γ x a es))
 cn:∀Γ X aa ab m x a es p cp,GOk Γ X aa ab->(a::es).all bE=true->iD x=true->yY Γ x=true->PE X (.Call (.Name x p) (a::es) [] cp) (tE X aa ab (Vr n Γ m x a es))
 sp:∀Γ X aa ab a es p cp,GOk Γ X aa ab->(a::es).all bE=true->yY Γ "spread"=true->PE X (.Call (.Name "spread" p) (a::es) [] cp) (tE X aa ab (Lg n Γ a es))
 st:∀Γ X aa ab a es p cp,GOk Γ X aa ab->(a::es).all bE=true->yY Γ "sorted"=true->Γ.dt.contains "sorted"=true->PE X (.Call (.Name "sorted" p) (a::es) [] cp) (tE X aa ab (Li n Γ a es))
 d:∀Γ X aa ab a es p cp,GOk Γ X aa ab->(a::es).all bE=true->yY Γ "dict"=true->Γ.dt.contains "dict"=true->PE X (.Call (.Name "dict" p) (a::es) [] cp) (tE X aa ab (Vs n Γ a es))
 li:∀Γ X aa ab m a es p cp,GOk Γ X aa ab->(a::es).all bE=true->yY Γ "list"=true->Γ.dt.contains "list"=true->PE X (.Call (.Name "list" p) (a::es) [] cp) (tE X aa ab (Lj n Γ m a es))
 is:∀Γ X aa ab a es p cp,GOk Γ X aa ab->(a::es).all bE=true->yY Γ "isinstance"=true->Γ.dt.contains "isinstance"=true->PE X (.Call (.Name "isinstance" p) (a::es) [] cp) (tE X aa ab (Lh n Γ a es))
 k:∀Γ X aa ab a ops bs p,GOk Γ X aa ab->PE X (.Compare a ops bs p) (tE X aa ab (Vn n Γ a ops bs))
 x:∀Γ X aa ab a b p,GOk Γ X aa ab->PE X (.Subscript a b p) (tE X aa ab (Vo n Γ a b))
 t:∀Γ X aa ab e,GOk Γ X aa ab->PT X e (tT X aa ab (uu n Γ e))
 b:∀Γ X aa ab op vs p,GOk Γ X aa ab->PE X (.BoolOp op vs p) (tE X aa ab (Le n Γ op vs))
 w:∀Γ X aa ab op vs p,GOk Γ X aa ab->PW X (.BoolOp op vs p) (tT X aa ab (Lk n Γ op vs))
 a:∀Γ X aa ab m es,GOk Γ X aa ab->PA X es (tA X aa ab (kY n Γ m es))
 l:∀Γ X aa ab e,GOk Γ X aa ab->PO X e (Uu X aa ab (Pm n Γ e))
 i:∀Γ X aa ab tg e,GOk Γ X aa ab->PI X tg e (GX X aa ab (Ll n Γ tg e))
 c:∀Γ X aa ab m elt gens scope p,GOk Γ X aa ab->CC X aa ab elt gens scope p (Vp n Γ m elt gens scope)
def pI{X:Cx}{a:Hp}{b:Fz}{e:Expr}{c:Prop} [Decidable c] {f g:Gx PV} (h:c->PE X e (tE X a b f)) (h':PE X e (tE X a b g)):PE X e (tE X a b (if c then f else g)):=by
 split
 ·exact h ‹_›
 ·exact h'
def pJ{X:Cx}{a:Hp}{b:Fz}{e:Expr}{c:Prop} [Decidable c] {f:Gx PV} (h:c->PE X e (tE X a b f)):PE X e (tE X a b (if c then f else cK)):=pI h bg
def i8:PS X s (tS X a b cK):=λ_ _ _ _ _ _ ⟨F,st,R,r,z,_⟩=>by cases z
def xZ:PS X s (tS X a b (dc cK g)):=λ_ _ _ _ _ _ ⟨F,st,R,r,z,_⟩=>by cases z
def ZO{a:Fz}:PO X e (Uu X b a cK):=λ_ _ _ _ _ _ h=>vv h
def Lm:Snd 0 where
 e:=λ_ _ _ _ _ _ _=>bg
 f:=λ_ _ _ _ _ _ _ _ _ _ _=>bg
 o:=λ_ _ _ _ _ _ _ _ _ _ _ _ _=>bg
 cn:=λ_ _ _ _ _ _ _ _ _ _ _ _ _ _=>bg
 sp:=λ_ _ _ _ _ _ _ _ _ _ _=>bg
 st:=λ_ _ _ _ _ _ _ _ _ _ _ _=>bg
 d:=λ_ _ _ _ _ _ _ _ _ _ _ _=>bg
 li:=λ_ _ _ _ _ _ _ _ _ _ _ _ _=>bg
 is:=λ_ _ _ _ _ _ _ _ _ _ _ _=>bg
 k:=λ_ _ _ _ _ _ _ _ _=>bg
 x:=λ_ _ _ _ _ _ _ _=>bg
 t:=λ_ _ _ _ _ _=>vw
 b:=λ_ _ _ _ _ _ _ _=>bg
 w:=λ_ _ _ _ _ _ _ _=>Lb
 a:=λ_ _ _ _ _ _ _=>RN
 l:=λ_ _ _ _ _ _=>ZO
 i:=λ_ _ _ _ _ _ _=>E7
 c:=λ_ _ _ _ _ _ _ _ _ _=>⟨bg,λ_ _ _ _ _ _ _=>xZ⟩
section
variable {n:Nat} (S:Snd n)
include S
def ZP(c:Gm)(X:Cx)(d:Hp)(f:Fz)(g:BoolOp)(vs:List Expr)(p:Pos)(G:GOk c X d f):PE X (.BoolOp g vs p) (tE X d f (Le (n+1) c g vs)):=by
 match g,vs with
 | .And,[]=>exact bg
 | .Or,[]=>exact bg
 | .And,[a]=>exact Jf (S.e c X d f 0 a G)
 | .Or,[a]=>exact Jf (S.e c X d f 0 a G)
 | .And,a::b::r=>exact YG (S.e c X d f 0 a G) (S.b c X d f .And (b::r) p G)
 | .Or,a::b::r=>exact acV (S.e c X d f 0 a G) (S.b c X d f .Or (b::r) p G)
def ZQ(c:Gm)(X:Cx)(d:Hp)(e:Fz)(f:BoolOp)(vs:List Expr)(p:Pos)(G:GOk c X d e):PW X (.BoolOp f vs p) (tT X d e (Lk (n+1) c f vs)):=by
 match f,vs with
 | .And,[]=>exact Lb
 | .Or,[]=>exact Lb
 | .And,[a]=>exact Nn (S.t c X d e a G)
 | .Or,[a]=>exact Td (S.t c X d e a G)
 | .And,a::b::r=>exact YE (S.t c X d e a G) (S.w c X d e .And (b::r) p G)
 | .Or,a::b::r=>exact acU (S.t c X d e a G) (S.w c X d e .Or (b::r) p G)
def ZR(c:Gm)(X:Cx)(d:Hp)(f:Fz)(m:Nat)(b:List Expr)(G:GOk c X d f):PA X b (tA X d f (kY (n+1) c m b)):=by
 match b with
 | []=>exact YI
 | e::b =>
  unfold kY;split
  ·rename_i hp;exact Uc (S.e c X d f m e G) (S.a c X d f m b G) (bH hp _ _)
  ·exact RN
def ZS(a:Gm)(X:Cx)(b:Hp)(c:Fz)(e:Option Expr)(G:GOk a X b c):PO X e (Uu X b c (Pm (n+1) a e)):=by
 match e with
 | none=>exact Uv
 | some e=>exact Uw (S.e a X b c 0 e G)
def ZT(h:Gm)(X:Cx)(d:Hp)(f:Fz)(a:Expr)(i:List CmpOp)(bs:List Expr)(p:Pos)(G:GOk h X d f):PE X (.Compare a i bs p) (tE X d f (Vn (n+1) h a i bs)):=by
 rcases i with _ | ⟨op,_ | ⟨l,_ | _⟩⟩<;>rcases bs with _ | ⟨b,_ | ⟨c,_ | _⟩⟩<;>try exact bg
 ·show PE X _ (tE X d f (ite _ _ _));split
  ·rename_i hp;split
   ·rename_i g j;exact YB (kC G.un j) (S.e h X d f 0 _ G) (S.e h X d f 0 _ G) (ig hp _)
   ·exact bg
  ·exact bg
 ·show PE X _ (tE X d f (ite _ _ _));split
  ·rename_i hp;split
   ·rename_i g m j k;exact Oa (kC G.un j) (kC G.un k) (S.e h X d f 0 _ G) (S.e h X d f 0 _ G) (S.e h X d f 0 _ G) (ig hp _)
   ·exact bg
  ·exact bg
def ZU(h:Gm)(X:Cx)(d:Hp)(f:Fz)(e:Expr)(G:GOk h X d f):PT X e (tT X d f (uu (n+1) h e)):=by
 have i:∀e,PT X e (tT X d f (if Di e=true then gO (bR n h 0 e)else cK)):=λe=>by
  split
  ·rename_i hp;exact YD (S.e h X d f 0 _ G) λk=>K4 hp _ k
  ·exact vw
 cases e with
 | UnaryOp op=>cases op with
  | Not=>exact YF (S.t h X d f _ G)
  | _=>exact i _
 | BoolOp=>exact(S.w h X d f _ _ _ G).pt
 | Compare a ops bs =>
  rcases ops with _ | ⟨op,_ | ⟨m,_ | _⟩⟩<;>rcases bs with _ | ⟨b,_ | ⟨c,_ | _⟩⟩<;>try exact i _
  ·show PT X _ (tT X d f (ite _ _ _));split
   ·rename_i hp;split
    ·rename_i g j;exact YC (kC G.un j) (S.e h X d f 0 _ G) (S.e h X d f 0 _ G) (ig hp _)
    ·exact vw
   ·exact vw
  ·show PT X _ (tT X d f (ite _ _ _));split
   ·rename_i hp;split
    ·rename_i g o j l;exact Ob (kC G.un j) (kC G.un l) (S.e h X d f 0 _ G) (S.e h X d f 0 _ G) (S.e h X d f 0 _ G) (ig hp _)
    ·exact vw
   ·exact vw
 | _=>exact i _
def Vt(b:Gm)(X:Cx)(d:Hp)(f:Fz)(a:Expr)(c:List Expr)(p cp:Pos)(G:GOk b X d f)(hp:(a::c).all bE=true)(g:yY b "sorted"=true)(h:b.dt.contains "sorted"=true):PE X (.Call (.Name "sorted" p) (a::c) [] cp) (tE X d f (Li (n+1) b a c)):=by
 cases c with
 | nil =>
  rw[gj,aR]at hp;exact ZK G.hd (G.jO g) (G.dt _ h) (S.e b X d f 0 _ G) (bH hp.1 _ _)
 | cons=>exact bg
def ZV(b:Gm)(X:Cx)(c:Hp)(d:Fz)(a:Expr)(f:List Expr)(p cp:Pos)(G:GOk b X c d)(hp:(a::f).all bE=true)(g:yY b "dict"=true)(h:b.dt.contains "dict"=true):PE X (.Call (.Name "dict" p) (a::f) [] cp) (tE X c d (Vs (n+1) b a f)):=by
 rw[gj,aR]at hp;cases f with
 | cons=>exact bg
 | nil=>cases a with
  | BinOp l op=>cases op with
   | Add=>exact U7 G.hd (G.jO g) (G.dt _ h) (S.e b X c d 0 _ G) (S.e b X c d 0 _ G) rfl
   | _=>exact bg
  | _=>exact bg
def Vu(c:Gm)(X:Cx)(d:Hp)(f:Fz)(m:Nat)(a:Expr)(g:List Expr)(p cp:Pos)(G:GOk c X d f)(hp:(a::g).all bE=true)(j:yY c "list"=true)(k:c.dt.contains "list"=true):PE X (.Call (.Name "list" p) (a::g) [] cp) (tE X d f (Lj (n+1) c m a g)):=by
 rw[gj,aR]at hp;cases g with
 | cons=>exact bg
 | nil =>
  show PE X _ (tE X d f (match Dn a with | some ⟨zs,_⟩=>_ | none=>Va m (bR n c 0 a)))
  rcases Dn a with _ | ⟨⟨z,b,bs⟩,q,r,rfl⟩
  ·exact Vb G.hd (G.jO j) (G.dt _ k) (S.e c X d f 0 _ G) λ_=>bH hp.1 _ _
  ·refine pJ λhc=>?_
   simp only[il,aR]at hc;obtain⟨⟨h,l,o⟩,i⟩:=hc;have h:=aY h;subst h;rw[gj,aR]at i;exact ZE G.hd (G.jO j) (G.dt _ k) (G.jO l) (G.dt _ o) (S.a c X d f 0 _ G) (bH i.1 _ _) (ik i.2 _ _)
def Vv(c:Gm)(X:Cx)(d:Hp)(f:Fz)(a:Expr)(b:List Expr)(p cp:Pos)(G:GOk c X d f)(hp:(a::b).all bE=true)(h:yY c "isinstance"=true)(i:c.dt.contains "isinstance"=true):PE X (.Call (.Name "isinstance" p) (a::b) [] cp) (tE X d f (Lh (n+1) c a b)):=by
 cases b with
 | nil=>exact bg
 | cons e b=>cases e with
  | Name t=>cases b with
   | cons=>exact bg
   | nil =>
    refine pJ λhc=>?_
    unfold il at hc;rw[aR]at hc;rw[gj,aR]at hp;cases j:EB t with
    | none=>exact bg
    | some g=>exact ac0 j (G.jO h) (G.dt _ i) (G.jO hc.1) (G.dt _ hc.2) (S.e c X d f 0 a G) λb=>bH hp.1 b _
  | _=>exact bg
def ZW(c:Gm)(X:Cx)(d:Hp)(f:Fz)(a b:Expr)(p:Pos)(G:GOk c X d f):PE X (.Subscript a b p) (tE X d f (Vo (n+1) c a b)):=by
 show PE X _ (tE X d f (match xY b with | some ⟨i,_⟩=>_ | none=>_))
 rcases xY b with _ | ⟨⟨lo,j⟩,k,rfl⟩
 ·refine pJ λhp=>?_
  have g:=λa=>ac2 (pos:=p) G.un (S.e c X d f 0 a G) (S.e c X d f 0 b G) (Ax hp)
  cases a with
  | Name T =>
   refine pI (λhc=>?_) (g _)
   rw[aR]at hc;cases h:c.tabs.lookup T with
   | some rows=>exact Zo (G.tabs _ rows h) (G.jO hc.2) (S.e c X d f 0 _ G) (Ax hp) (kc hc.1).1
   | none=>exact g _
  | _=>exact g _
 ·exact YT (S.e c X d f 0 _ G) (S.l c X d f _ G) (S.l c X d f _ G)
def ZX(h:Gm)(X:Cx)(d:Hp)(g:Fz)(l e:Expr)(G:GOk h X d g):PI X l e (GX X d g (Ll (n+1) h l e)):=by
 have m:∀e,PI X l e (GX X d g (if bE e=true then iY (bR n h 0 e)else cK)):=λe=>by
  split
  ·exact Kh (S.e h X d g 0 _ G)
  ·exact E7
 cases e with
 | Call f as ks=>cases f with
  | Name x p =>
   rcases as with _ | ⟨a,_ | ⟨b,_ | _⟩⟩<;>rcases ks with _ | _<;>try exact m _
   ·show PI X _ _ (GX X d g (ite _ _ _));split
    ·rename_i hc;simp only[il,aR]at hc;obtain⟨⟨c,i,j⟩,hp⟩:=hc;have c:=aY c;subst c;exact ON <| Kb (G.jO i) (G.dt _ j) (S.a h X d g 0 _ G) (bH hp _ _)
    ·split
     ·rename_i hc;simp only[il,aR]at hc;obtain⟨⟨⟨c,i,j⟩,hp⟩,ht⟩:=hc;have c:=aY c;subst c;exact ON <| adk ht (G.jO i) (G.dt _ j) (S.e h X d g 0 _ G) (bH hp _ _)
     ·split
      ·rename_i hc;simp only[il,aR]at hc;obtain⟨c,i,j⟩:=hc;have c:=aY c;subst c;rcases Ld a []with _ | ⟨⟨z,e⟩,_,r,t,rfl⟩
       ·exact E7
       ·show PI X _ _ (GX X d g (ite _ _ _));split
        ·rename_i hc;simp only[il,aR]at hc;obtain⟨⟨c,o,q⟩,k⟩:=hc;have c:=aY c;subst c;exact ON <| ZL (G.jO i) (G.dt _ j) (G.jO o) (G.dt _ q) (S.a h X d g 0 _ G) (bH k _ _)
        ·exact E7
      ·exact Kh (S.e h X d g 0 _ G)
   ·show PI X _ _ (GX X d g (ite _ _ _));split
    ·rename_i hc;simp only[il,aR]at hc;obtain⟨⟨⟨c,i,j⟩,hp⟩,k⟩:=hc;have c:=aY c;subst c;exact ON <| Kc (G.jO i) (G.dt _ j) (S.a h X d g 0 _ G) (by rw[bH hp,bH k];rfl) (bH k _ _)
    ·exact Kh (S.e h X d g 0 _ G)
  | _=>exact m _
 | _=>exact m _
def Pn:CC X a b elt gens scope p cK:=⟨bg,λ_ _ _ _ _ _ _=>xZ⟩
def cI{c:Prop} [Decidable c] (h:c->CC X a b elt gens scope p f):CC X a b elt gens scope p (if c then f else cK):=by
 split
 ·exact h ‹_›
 ·exact Pn
def ZY(l:Gm)(X:Cx)(d:Hp)(f:Fz)(m:Nat)(j:Expr)(b:List Comprehension)(a:Scope)(p:Pos)(G:GOk l X d f):CC X d f j b a p (Vp (n+1) l m j b a):=by
 rcases b with _ | ⟨⟨o,iter,ifs,(_ | _) | _⟩,_ | _⟩<;>try exact Pn
 refine cI λhp=>?_
 cases J:xT n (vt l a) o with
 | none=>exact Pn
 | some g =>
  refine cI λhc=>?_
  have q:=Dl G hc;have r:=(mT hc).2.2.2;have u:=K9 G hc;have v:=S.i l X d f o iter G;have w:=λC s H k=>(kD (u C s H k d f) n o g J).1
  have y:=(kD (u 0 X.s₀ X.aa [] d f) n o g J).2.1;have he:=λC s H k=>S.e _ _ _ _ (Hg m) j (u C s H k d f)
  rcases ifs with _ | ⟨c,_ | _⟩
  ·exact⟨(EG G.calm q v (pb1 w he) (fN hp _)).imp λB H Q h=>Ki y r h,λi x L M E I hw=>(EH G.calm G.nd E I q v (pb1 w he) hw (fN hp _)).imp λD B H h=>Ki y r (qf h)⟩
  ·have ht:=λC s H k=>S.t _ _ _ _ c (u C s H k d f)
   exact⟨(EG G.calm q v (pb2 w he ht) (fN hp _)).imp λB H Q h=>Kj y r h,λi x L M E I hw=>(EH G.calm G.nd E I q v (pb2 w he ht) hw (fN hp _)).imp λD B H h=>Kj y r (qf h)⟩
  ·exact Pn
def ZZ(b:Gm)(X:Cx)(c:Hp)(d:Fz)(x:Str)(a:Expr)(f:List Expr)(p cp:Pos)(G:GOk b X c d)(hp:(a::f).all bE=true)(g:iD x=true)(h:Ny b x=true):PE X (.Call (.Name x p) (a::f) [] cp) (tE X c d (Lf (n+1) b x a f)):=by
 rw[gj,aR]at hp;cases f with
 | cons=>exact bg
 | nil =>
  show PE X _ (tE X c d (match([]:List Expr),slot b x,b.xO with | [],some i,some o=>_ | _,_,_=>cK))
  cases j:slot b x with
  | none=>exact bg
  | some=>cases k:b.xO with
   | none=>exact bg
   | some o=>exact Zu (G.xO o.1 o.2 k) (vp G g h j) (S.e b X c d 0 a G) (bH hp.1 _ _)
def Vw(b:Gm)(X:Cx)(c:Hp)(d:Fz)(a:Expr)(f:List Expr)(p cp:Pos)(G:GOk b X c d)(hp:(a::f).all bE=true)(q:yY b "spread"=true):PE X (.Call (.Name "spread" p) (a::f) [] cp) (tE X c d (Lg (n+1) b a f)):=by
 rcases f with _ | ⟨e,_ | _⟩
 ·exact bg
 ·cases e with
  | Lambda args body scope =>
   show PE X _ (tE X c d (match b.t8,ql args with | some rs,some r=>_ | _,_=>cK))
   cases t:b.t8 with
   | none=>exact bg
   | some rs=>cases u:ql args with
    | none=>exact bg
    | some r =>
     refine pJ λhc=>?_
     rw[gj,aR]at hp;obtain rfl:=xW u;obtain⟨j,g⟩:=Hi G hc;obtain⟨⟨E,fs,I,J,M,k,N,rfl,D,v,w,h,i,x,y,B⟩,L⟩:=G.t8 rs t;exact Kx D v w h i L (G.jO q) x (S.e b X c d 0 a G) (bH hp.1 _ _) j y λl Q R cl A stack s H m o C=>S.e _ _ m o 0 _ (Pl G j.kind g B C m o)
  | _=>exact bg
 ·cases e<;>exact bg
def Z0(b:Gm)(X:Cx)(l:Hp)(o:Fz)(m:Nat)(x:Str)(a:Expr)(e:List Expr)(p cp:Pos)(G:GOk b X l o)(hp:(a::e).all bE=true)(E:iD x=true)(q:yY b x=true):PE X (.Call (.Name x p) (a::e) [] cp) (tE X l o (Vr (n+1) b m x a e)):=by
 have t:=hp;rw[gj,aR]at t;obtain⟨D,T,Y⟩:=kc E;have u:=S.a b X l o 0 (a::e) G;have v:=bH t.1 e X.env;have w:=ik t.2 X.env cp;refine pI (λi=>?_) ?_
 ·cases aY i;exact S.sp b X l o a e p cp G hp q
 cases hk:b.fns.lookup x with
 | some k =>
  obtain⟨j,f,I,J,F,y,B,C,L⟩:=G.fns _ k hk;exact UT (adV F y L) (G.jO q) B C u D v w
 | none=>cases hk:b.cls.lookup x with
  | some k=>cases m with
   | zero =>
    obtain⟨j,Z,f,I,J,N,c,M,F,y,B,C⟩:=G.cls _ k hk;exact(NR (p:=p) M F y (G.jO q) B C .nil zL u D v w).imp λσ H Q h=>OZ N c h
   | succ=>exact bg
  | none =>
   refine pJ λr=>pI (λi=>?_) (pI (λi=>?_) (pI (λi=>?_) (pI (λi=>?_) ?_)))
   ·cases aY i;exact S.is b X l o a e p cp G hp q r
   ·cases aY i;exact S.st b X l o a e p cp G hp q r
   ·cases aY i;exact S.d b X l o a e p cp G hp q r
   ·cases aY i;exact S.li b X l o m a e p cp G hp q r
   cases R:xU x with
   | some g=>exact Vl R G.hd (G.jO q) (G.dt _ r) u v w
   | none=>exact bg
def Z1(b:Gm)(X:Cx)(c:Hp)(d:Fz)(m:Nat)(f a:Expr)(h:List Expr)(cp:Pos)(G:GOk b X c d)(hp:(a::h).all bE=true):PE X (.Call f (a::h) [] cp) (tE X c d (Vq (n+1) b m f a h cp)):=by
 have i:=hp;rw[gj,aR]at i;cases f with
 | Name=>exact pJ λj=>pI (λk=>S.cn b X c d m _ a h _ cp G hp j k) (pJ λl=>S.o b X c d _ a h _ cp G hp j l)
 | Subscript=>exact OY G.fns G.ns (S.e b X c d 0 _ G) (S.a b X c d 0 _ G) (bH i.1 _ _) (ik i.2 _ _)
 | Attribute o g ap =>
  refine pJ λhc=>?_
  simp only[aR,gG]at hc;cases hw:ER g with
  | none=>exact bg
  | some w=>exact ado G.un hw (S.e b X c d 0 _ G) (S.a b X c d _ _ G) (qk hc.1.1) (Pk hp hc.2) hc.1.2 (bH i.1 _ _) (ik i.2 _ _)
 | _=>exact bg
def Z2(j:Gm)(X:Cx)(d:Hp)(h:Fz)(m:Nat)(e:Expr)(G:GOk j X d h):PE X e (tE X d h (bR (n+1) j m e)):=by
 cases e with
 | Constant c=>cases c<;>first | exact bg | exact Yz | exact acS | exact Yy | exact YA
 | Name x =>
  show PE X _ (tE X d h (Vm j x));unfold Vm;split
  ·rename_i o;split
   ·rename_i p;split
    ·rename_i i r;exact Ru i (vp G o p r)
    ·exact bg
   ·split
    ·rename_i y;split
     ·rename_i q B;obtain⟨u,v,C,D,E⟩:=G.cons _ q B;exact zM (Eg (G.jO y) C D (kc o).1) E
     ·exact bg
    ·exact bg
  ·exact bg
 | BinOp a op b =>
  show PE X _ (tE X d h (match Pj op with | some g=>op2 g (bR n j 0 a) (bR n j 0 b) | none=>cK))
  cases H:Pj op with
  | none=>exact bg
  | some=>exact acT (K2 H) (S.e j X d h 0 _ G) (S.e j X d h 0 _ G)
 | UnaryOp op=>cases op with
  | Not=>exact YH (S.e j X d h 0 _ G)
  | USub=>exact YW (S.e j X d h 0 _ G)
  | _=>exact bg
 | BoolOp=>exact S.b j X d h _ _ _ G
 | Compare=>exact S.k j X d h _ _ _ _ G
 | IfExp=>exact acW (S.t j X d h _ G) (S.e j X d h m _ G) (S.e j X d h m _ G)
 | Tuple=>exact YJ (S.a j X d h m _ G)
 | List=>cases m with
  | zero=>exact YK (S.a j X d h 0 _ G)
  | succ=>exact Ud (S.a j X d h _ _ G)
 | Dict ks I=>rcases ks with _ | _<;>rcases I with _ | _<;>first | exact Zn _ | exact bg
 | Subscript=>exact S.x j X d h _ _ _ G
 | ListComp=>exact(S.c j X d h m _ _ _ _ G).1
 | Attribute =>
  show PE X _ (tE X d h (ite _ _ _));split
  ·rename_i J;exact Zp (S.e j X d h 0 _ G) (qk J)
  ·exact bg
 | Call f as ks=>cases as with
  | cons=>cases ks with
   | cons=>exact bg
   | nil =>
    show PE X _ (tE X d h (ite _ _ _));split
    ·rename_i hp;exact S.f j X d h m _ _ _ _ G hp
    ·exact bg
  | nil=>cases ks with
   | cons=>cases f<;>exact bg
   | nil=>cases f with
    | Attribute =>
     show PE X _ (tE X d h (ite _ _ _));split
     ·rename_i hc;rw[aR]at hc;split
      ·rename_i l;have l:=aY l;subst l;exact Zx (S.e j X d h 0 _ G) (qk hc.1) hc.2
      split
      ·rename_i w hw;exact Zk hw (S.e j X d h 0 _ G) (qk hc.1) hc.2
      ·exact bg
     ·exact bg
    | _=>exact bg
 | _=>exact bg
end
theorem snd:∀n:Nat,Snd n
 | 0=>Lm
 | n+1 =>
  have S:=snd n
  ⟨Z2 S,Z1 S,ZZ S,Z0 S,Vw S,Vt S,ZV S,Vu S,Vv S,ZT S,ZW S,ZU S,ZP S,ZQ S,ZR S,ZS S,ZX S,ZY S⟩
structure SOk (Γ:Gm) (X:Cx) (aa:Hp) (ab:Fz):Prop extends GOk Γ X aa ab where
 never:PassesOwn (model X.prog X.w) X.A X.env X.xe
def Vx:Expr->Bool
 | .ListComp _ _ _ _=>true
 | _=>false
def Po:G2:=rN (λ_ _=>true) λi j=>.int (i+j)
def Vy:Operator->Option G2
 | .Add=>some Po
 | _=>none
noncomputable def sI{c:Prop} [Decidable c] (h:c->PS X e (tS X a b f)):PS X e (tS X a b (if c then f else cK)):=by
 split
 ·exact h ‹_›
 ·exact i8
section
variable {Γ:Gm} {X:Cx} {x:Str} {p sp:Pos} {e:Expr} {op:Operator} {i:Nat} {aa:Hp} {ab:Fz} {fe:Gx PV} {g:G2}
def Pp(h:Vy op=some g):uZ X (inplaceOp op) g:=by
 cases op<;>cases h
 exact gy (zP ND) (λ_ _ _=>trivial) λ_ _ _=>aE.mpr rfl
def Pq{st:cy}(h:rd i st=some r):∃p,st.ρ[i]?=some (some p)/\r=(.ok p,st):=by
 obtain⟨p,e1,a⟩:=aZ h;cases z:st.ρ[i]? with
 | none=>rw[z]at e1;cases e1
 | some o =>
  rw[z]at e1;cases o with
  | none=>cases e1
  | some b=>cases e1;exact⟨p,rfl,a.symm⟩
def Z3(ho:uZ X (inplaceOp op) g)(he:PE X e (tE X aa ab fe))(hN:X.N.Nodup)(b:X.N[i]?=some x)(c:QV X.env.scope x)(d:X.fn x=true\/X.env.scope.names.lookup x=some .local):PS X (.AugAssign (.Name x p) op e sp) (tS X aa ab (dc (op2 g (rd i) fe) (aU i))):=by
 refine(Ts hN b c he (λf s a H x y v u Q I j m t=>ho f s a H x y v u Q I j m t) d).imp λD a H h=>?_
 obtain⟨F,o,R,h⟩:=qf h;obtain⟨r,e1,B⟩:=At.bnd h;obtain⟨q,C,rfl⟩:=Pq e1;obtain⟨v,E,J⟩:=R.l.av i q C;refine⟨v,E,F,o,R,Tx.bnd (B) λy w F1 L H1 M T Y Z=>?_⟩
 obtain⟨z,hz,k⟩:=Z.hp;exact⟨aa,ab,F1,L,a,q,y,z,hz,M,J.mono T,Y,k⟩
def Ay(G:GOk Γ X aa ab)(b:slot Γ x=some i)(c:Xd Γ x=true)(he:PE X e (tE X aa ab fe))(a:swapsWith e (some (.Name x p)) sp.line X.env=pure false):PS X (.Assign [.Name x p] e sp) (tS X aa ab (dc fe (aU i))):=by
 obtain⟨d,f⟩:=G.Vk c;exact(Tq G.nd (G.sk b) d he a f).imp λD j H h=>qf h
def Dp :
  (swapsWith (.ListComp elt gens scope cp) (some (.Name x p)) sp.line X.env=pure true/\X.env.scope.names.lookup x=some .local)\/swapsWith (.ListComp elt gens scope cp) (some (.Name x p)) sp.line X.env=pure false:=by
 have e:swapsWith (.ListComp elt gens scope cp) (some (.Name x p)) sp.line X.env=pure (X.env.blockKind==.function&&X.env.kindOf x==some .local&&p.line==(Expr.ListComp elt gens scope cp).pos.line&&!(scope.names.any fun(n,k)=>n==x&&(k==.local || k==.cell))):=rfl
 rw[e];cases a:(X.env.blockKind==.function&&X.env.kindOf x==some .local&&p.line==(Expr.ListComp elt gens scope cp).pos.line&&!(scope.names.any fun(n,k)=>n==x&&(k==.local || k==.cell)))with
 | true =>
  refine .inl ⟨rfl,?_⟩;simp only[aR]at a;exact aY a.1.1.2
 | false=>exact .inr rfl
def Hj(h:(lX e || Vx e)=true)(l:Nat)(b:Env):swapsWith e (some (.Attribute a x p)) l b=pure false:=by
 cases e<;>first | rfl | cases h
def Dq(h:qj k=true)(a:Env)(v:Value):assign (.Subscript o k p) a v=(do
   let b <-holding [v] (eval o a)
   let c <-holding [v,b] (eval k a)
   standAt p
   holding [v,b,c] (setItem b c v)
   release [v,b,c] []):=by
 cases k<;>first | rfl | cases h
def Dr(a:Env):swappedStores [.Subscript o k p] e a=pure none:=by
 cases e<;>rfl
end
def Z4:Nat:=8000000
def isD(a:Gm):Expr->Bool
 | .Name x _=>md a x==10
 | _=>false
def RET:Str:="[return]"
def asName(n:Nat)(a:Gm)(x:Str)(e:Expr):Gx dE:=if(Xd a x&&(lX e || Vx e))=true then(match slot a x with | some i=>dc (bR n a (md a x) e) (aU i) | none=>cK)else cK
noncomputable def RO(n:Nat)(a:Gm)(b e:Expr):Gx dE:=match b with
 | .Name x _=>asName n a x e
 | .Tuple c k p=>if E6 e=true then(match xT n a (.Tuple c k p)with | some g=>dc (bR n a 0 e) g.1 | none=>cK)else cK
 | .Subscript o k _=>if(qj k&&lX e)=true then Kr (bR n a (ZN a o) e) (bR n a 0 o) (bR n a 0 k)else cK
 | .Attribute o f _=>if(lX e || Vx e)=true then U2 a.clss a.flds f (bR n a (md a f) e) (bR n a 0 o)else cK
 | _=>cK
noncomputable def RP(n:Nat)(a:Gm)(b:Expr)(c:Operator)(e:Expr):Gx dE:=match b with
 | .Name x _=>if Xd a x=true then(match slot a x,Vy c with | some i,some g=>dc (op2 g (rd i) (bR n a 0 e)) (aU i) | _,_=>cK)else cK
 | _=>cK
mutual
noncomputable def Vz:Nat->Gm->Stmt->Gx dE
 | 0,_,_=>cK
 | n+1,d,st=>match st with
  | .Pass _=>aW .nx
  | .Break _=>aW .bk
  | .Continue _=>aW .ct
  | .Return none _=>aW (.rt .bB)
  | .Return (some e) _=>retS (bR n d (md d RET) e)
  | .If c a b _=>dQ (uu n d c) (kf n d a) (kf n d b)
  | .While c b [] _=>jr (uu n d c) (kf n d b) Z4
  | .For f iter body [] _=>if bE iter=true then(match xT n d f with | some g=>if isD d iter=true then Za (bR n d 0 iter) g.1 (kf n d body)else Ac (Ll n d f iter) g.1 (kf n d body) | none=>cK)else cK
  | .Expr e _=>if lX e=true then fV (bR n d 0 e)else cK
  | .Assign [f] e _=>RO n d f e
  | .AugAssign f op e _=>RP n d f op e
  | _=>cK
termination_by structural n=>n
noncomputable def kf:Nat->Gm->List Stmt->Gx dE
 | 0,_,_=>cK
 | n+1,a,[]=>aW .nx
 | n+1,a,[st]=>Vz n a st
 | n+1,a,st::b=>d0 (Vz n a st) (kf n a b)
termination_by structural n=>n
end
structure ad0 (n:Nat):Prop where
 s:∀Γ X aa ab st,SOk Γ X aa ab->PS X st (tS X aa ab (Vz n Γ st))
 ss:∀Γ X aa ab Xe,SOk Γ X aa ab->PSs X Xe (tS X aa ab (kf n Γ Xe))
def VA:PSs X s (tS X a b cK):=λ_ _ _ _ _ _ ⟨F,st,R,r,z,_⟩=>by cases z
def VB(G:GOk a X b d):PS X (.Assign [l] e sp) (tS X b d (RO n a l e)):=by
 have S:=snd n;cases l with
 | Name x p =>
  refine sI λhc=>?_
  rw[aR]at hc;cases h:slot a x with
  | none=>exact i8
  | some i =>
   rcases wI _ _▸hc.2 with q | j
   ·exact Ay G h hc.1 (S.e a X b d _ _ G) (ij q _ _ _)
   ·cases e<;>try (exact absurd j dh)
    rcases Dp with⟨z,j⟩ | z
    ·cases n with
     | zero=>exact xZ
     | succ n=>exact((snd n).c a X b d _ _ _ _ _ G).2 i x p sp (G.sk h) j z
    ·exact Ay G h hc.1 (S.e a X b d _ _ G) z
 | Tuple m k f =>
  refine sI λhc=>?_
  cases r:xT n a (.Tuple m k f)with
  | none=>exact i8
  | some g =>
   obtain⟨t,v,u,w⟩:=kD G n _ g r;refine YO (S.e a X b d _ _ G) t (ij (xQ hc) (some (Expr.Tuple m k f)) sp.line X.env) ?_ (u _);cases e<;>first | rfl | cases hc
 | Subscript o k f =>
  refine sI λhc=>?_
  rw[aR]at hc;exact Zm G.un (S.e a X b d _ _ G) (S.e a X b d _ _ G) (S.e a X b d _ _ G) (Dq hc.1 _) (ij hc.2 (some (Expr.Subscript o k f)) sp.line X.env) (Dr _)
 | Attribute=>exact sI λhc=>Zq G.RM (S.e a X b d _ _ G) (S.e a X b d _ _ G) (Hj hc _ _)
 | _=>exact i8
def VC(G:GOk a X b c):PS X (.AugAssign d op e sp) (tS X b c (RP n a d op e)):=by
 cases d with
 | Name x p =>
  refine sI λhc=>?_
  cases f:slot a x with
  | none=>exact i8
  | some i=>cases h:Vy op with
   | none=>exact i8
   | some g =>
    obtain⟨j,k⟩:=G.Vk hc;exact Z3 (Pp h) ((snd n).e a X b c _ _ G) G.nd (G.sk f) j k
 | _=>exact i8
theorem sns:∀n:Nat,ad0 n
 | 0=>⟨λ_ _ _ _ _ _=>i8,λ_ _ _ _ _ _=>VA⟩
 | n+1=>by
  have T:=sns n;have S:=snd n;refine⟨λa X d f h G=>?_,λa X d f k G=>?_⟩
  ·cases h with
   | Pass=>exact Uh
   | Break=>exact Oe
   | Continue=>exact Ui
   | Return e=>cases e with
    | none=>exact Uj
    | some e=>exact YL (S.e a X d f _ _ G.toGOk)
   | If=>exact acX (S.t a X d f _ G.toGOk) (T.ss a X d f _ G) (T.ss a X d f _ G)
   | While c b o=>cases o with
    | nil=>exact Oh Z4 G.never (S.t a X d f _ G.toGOk) (T.ss a X d f _ G)
    | cons=>exact i8
   | For l iter body o=>cases o with
    | cons=>exact i8
    | nil =>
     refine sI λhp=>?_
     cases j:xT n a l with
     | none=>exact i8
     | some g =>
      show PS X _ (tS X d f (ite _ _ _));split
      ·exact UO G.never G.calm (S.e a X d f _ _ G.toGOk) (kD G.toGOk n _ g j).1 (T.ss a X d f _ G) (fN hp _)
      ·exact UL G.never G.calm (S.i a X d f _ _ G.toGOk) (kD G.toGOk n _ g j).1 (T.ss a X d f _ G) (fN hp _)
   | Expr=>exact sI λhc=>Uk (S.e a X d f _ _ G.toGOk) (ij hc _ _ _)
   | Assign m=>rcases m with _ | ⟨_,_ | _⟩<;>first | exact VB G.toGOk | exact i8
   | AugAssign=>exact VC G.toGOk
   | _=>exact i8
  ·rcases k with _ | ⟨h,_ | _⟩
   ·exact Ue
   ·exact Ug (T.s a X d f h G)
   ·exact Od (T.s a X d f h G) (T.ss a X d f _ G)
def Ds:Nat:=120
abbrev CT:=Str->oo
def noFn:CT:=λ_ _ _=>none
def VD(P:Pg):List (Str×Nat):=P.cls.map λd=>(d.1,(params d.2).length)
def VE(P:Pg)(x:Str)(st:Stmt)(cls:List (Str×Nat))(make:CT)(t8:Option ((PV->Gx PV)->Nat->oo))(xO:Option (Nat×(PV->Gx PV)))(c:CT):Gm where
 sc:=(ax st).names
 N:=cj st
 own:=true
 fns:=P.defs.map λd=>(d.1,(params d.2).length)
 call:=c
 cons:=P.cons
 dt:=P.dt
 tabs:=P.tabs
 cls:=cls
 make:=make
 clss:=P.cls.map (·.1)
 flds:=P.flds
 Xv:=(P.Xv.lookup x).getD []
 t8:=t8
 xO:=xO
def rdI(P:Pg)(C:Str)(st:Stmt)(c:CT):Gx dE:=kf Ds (VE P C st [] noFn none none c) (du st)
def Xf(P:Pg)(c:CT):CT:=λC=>match P.cls.lookup C with | some st=>dP (rdI P C st c) (cj st).length | none=>λ_ _=>none
def VF(P:Pg)(st:Stmt)(c:CT)(ω:PV->Gx PV)(n:Nat):Gx dE:=kf Ds (VE P "spread" st [] noFn none (some (n,ω)) c) (du st)
def VG(P:Pg)(x:Str)(c:CT):Option ((PV->Gx PV)->Nat->oo):=if P.nZ.contains x=true then(P.defs.lookup ("spread":Str)).map λa=>λb n=>dP (VF P a c b n) (cj a).length else none
def RQ(P:Pg)(x:Str)(st:Stmt)(c:CT):Gx dE:=kf Ds (VE P x st (VD P) (Xf P c) (VG P x c) none c) (du st)
def run(P:Pg):Nat->CT
 | 0=>noFn
 | k+1=>λx=>match P.defs.lookup x with | some st=>dP (RQ P x st (run P k)) (cj st).length | none=>λ_ _=>none
def VH{P:Pg}{k:Nat}{x:Str}{st:Stmt}(h:P.defs.lookup x=some st):run P (k+1) x=dP (RQ P x st (run P k)) (cj st).length:=by
 show(match P.defs.lookup x with | some st=>dP (RQ P x st (run P k)) (cj st).length | none=>λ_ _=>none)=_
 rw[h]
theorem kh{b c:Type}(g:b->c)(x:Str):∀l:List (Str×b),(l.map λd=>(d.1,g d.2)).lookup x=(l.lookup x).map g
 | []=>rfl
 | (n,a)::r=>by
  rw[aM,jW,jW];cases x==n with
  | true=>rfl
  | false=>exact kh g x r
section
variable {prog:Program} {w:World} {K:W.Frag} {mg:Str->Option Value} {base:Heap}
def Dt{x:Str}{c T:Addr}(h:W.tabIn K x=some (c,T)):∃f b d a e,W.nsIn K mainGlobals x=some (some (.ref f))/\K.lookup f=some ⟨b,d,.func a,e⟩/\a.code=.ref c:=by
 unfold W.tabIn at h;split at h
 ·grind
 ·cases h
structure VI (P:Pg) (w:World) (K:W.Frag) (mg:Str->Option Value):Prop where
 fns:∀x st,P.defs.lookup x=some st->∃f fd,Cj K x x st f fd/\gr K fd (params st) []/\mg x=some (.ref f)/\dH (cj st) (params st) (ax st)
 cons:∀x p,P.cons.lookup x=some p->∃u v,mg x=some u/\RelV v u/\∀F,bO K F p v
 dt:∀x,P.dt.contains x=true->mg x=none
 tabs:∀T rows,P.tabs.lookup T=some rows->ES K mg w.params T rows
 ns:∀x a,W.nsIn K mainGlobals x=some (some (.ref a))->mg x=some (.ref a)
 RM:Kv K (P.cls.map (·.1)) P.flds
 cls:∀C st,P.cls.lookup C=some st->∃Ca f fd,ClsAt K C (.ref Ca)/\F8 K Ca/\Mk K Ca f/\mg C=some (.ref Ca)/\Cj K "__init__" (C++".__init__") st f fd/\gr K fd (params st) []/\dH (cj st) (params st) (ax st)
 t8:∀x st,P.defs.lookup x=some st->P.nZ.contains x=true->x∈dA/\(∃c T,W.tabIn K x=some (c,T)/\W.codeHdIn K c T=true)/\∀st,P.defs.lookup ("spread":Str)=some st->(params st).length=2
def FR(P:Pg)(prog:Program)(w:World)(K:W.Frag)(mg:Str->Option Value)(base:Heap)(k:Nat):Prop:=∀(x:Str) (st:Stmt) (f:Addr) (fd:FuncData),P.defs.lookup x=some st->mg x=some (.ref f)->Cj K x x st f fd->dH (cj st) (params st) (ax st) ->
 FnOk prog w K mg base (iQ prog w) (3*k) f fd (params st) (G1 K (params st).length (run P k x))
section
variable {P:Pg} (O:VI P w K mg) {k:Nat} (ih:FR P prog w K mg base k)
include O ih
def RS{X:Cx}(h1:X.prog=prog)(a:X.w=w)(h:X.K=K)(i:X.mg=mg)(j:X.base=base):Vj X (3*k) (P.defs.map λd=>(d.1,(params d.2).length)) (run P k):=λy n c=>by
 subst h1 a h i j;rw[kh (λl=>(params l).length)]at c
 obtain⟨b,h1,a⟩:=aZ c;subst a;obtain⟨e,f,F1,m,g,o⟩:=O.fns y b h1;exact⟨3*k,e,f,params b,az _,ih y b e f h1 g F1 o,g,F1.kp,m⟩
def Lo{st:Stmt}{x q:Str}{f:Addr}{b:Value}{A:Around}{c:List Env}{s:Shared}{H p:Hp}{r:Fz}{E:XK}{a:List (Str×Nat)}{make:CT}{g:Option ((PV->Gx PV)->Nat->oo)}{h:Option (Nat×(PV->Gx PV))}{j:Nat}(S:dH (cj st) (params st) (ax st))
  (l:dN j (A.deeper (envOfC q (ax st) s.heap.objs.size f b))) (v:3*k<=j) (m:∀C n,a.lookup C=some n->∃k' d e t ps,ClsAt K C (.ref d)/\F8 K d/\Mk K d e/\FnOk prog w K mg base (iQ prog w) k' e t ps (G1 K n (make C))/\dN (k'+1) (A.deeper (envOfC q (ax st) s.heap.objs.size f b))/\mg C=some (.ref d)/\gr K t ps [])
  (B:∀u,g=some u->K3 (VE P x st a make g h (run P k)) (fq (iQ prog w) prog w K mg base (cj st) q (ax st) f b A c s H E) u)
  (o:∀n ω,h=some (n,ω)->Am (fq (iQ prog w) prog w K mg base (cj st) q (ax st) f b A c s H E) p r n ω) :
  SOk (VE P x st a make g h (run P k)) (fq (iQ prog w) prog w K mg base (cj st) q (ax st) f b A c s H E) p r:=by
 refine⟨⟨rfl,rfl,S.nd,S.kind,rfl,l.hd,?_,λ_ _=>rfl,λy n D=>?_,O.cons,O.dt,O.tabs,O.ns,O.RM,m,B,o⟩,PassesOwn.leaving⟩
 ·have:=l.un;show(A.deeper _).units+1150<cLine
  lia
 ·obtain⟨i,e,I,ps,J,L,M,N,Q⟩:=RS (X:=fq (iQ prog w) prog w K mg base (cj st) q (ax st) f b A c s H E) O ih rfl rfl rfl rfl rfl y n D;exact⟨i,e,I,ps,L,l.mono (bP J v),M,N,Q⟩
def VL{st:Stmt}{x:Str}{f:Addr}{b:Value}{A:Around}{i:List Env}{s:Shared}{H:Hp}{E:XK}{d:List (Str×Nat)}{make:CT}{o:Option ((PV->Gx PV)->Nat->oo)}{p:Option (Nat×(PV->Gx PV))}{j:(PV->Gx PV)->Nat->oo}(h:P.defs.lookup x=some st)(q:mg x=some (.ref f))(hc:C8 K f b)(r:P.nZ≠[]->zJ mg base)
  (t:dN (3*k+2) (A.deeper (envOfC x (ax st) s.heap.objs.size f b))) (e:VG P x (run P k)=some j):K3 (VE P x st d make o p (run P k)) (fq (iQ prog w) prog w K mg base (cj st) x (ax st) f b A i s H E) j:=by
 obtain⟨u,e⟩:=bM e;obtain⟨a,e1,rfl⟩:=aZ e;obtain⟨v,⟨c,T,ht,y⟩,g⟩:=O.t8 x st h u;obtain⟨fs,B,F1,C,D,l⟩:=O.fns _ a e1;refine⟨⟨a,fs,B,params a,cj a,3*k,VF P a (run P k),rfl,F1,D,C,l,g a e1,t,λb A i s H E I J n ω L ho=>?_,RS O ih rfl rfl rfl rfl rfl⟩,⟨⟨x,c,T,v,ht,y,(by
  obtain⟨M,oc,od,fd,yU,N,g,Q⟩:=Dt ht;obtain⟨R,X,VJ,Y,m,Z⟩:=hc;have:=O.ns x M N;rw[q]at this;cases this;rw[g]at m;cases m;exact Z.symm.trans Q),rfl⟩,r (λz=>by grind)⟩⟩
 exact(sns Ds).ss _ _ I J _ (Lo O ih l L (nQ _ _) (λ_ _ z=>by cases z) (λ_ z=>by cases z) λ_ _ z=>by cases z;exact ho)
def Z5{C:Str}{st:Stmt}{f:Addr}{a:FuncData}(h:P.cls.lookup C=some st)(F:Cj K "__init__" (C++".__init__") st f a)(S:dH (cj st) (params st) (ax st)):FnOk prog w K mg base (iQ prog w) (3*k+1) f a (params st) (G1 K (params st).length (Xf P (run P k) C)):=by
 have e:Xf P (run P k) C=dP (rdI P C st (run P k)) (cj st).length:=by
  unfold Xf;rw[h]
 rw[e];exact Ko F S λg A i s H E _ b c d=>(sns Ds).ss _ _ c d _ (Lo O ih S b (az _) (λ_ _ z=>by cases z) (λ_ z=>by cases z) λ_ _ z=>by cases z)
end
theorem Lp{P:Pg}(O:VI P w K mg)(j:P.nZ≠[]->zJ mg base):∀(k:Nat),FR P prog w K mg base k
 | 0=>λx d f q h l F S=>by
  have m:∀b H Q E,¬G1 K (params d).length (run P 0 x) b H Q E:=λb H Q E ⟨_,_,_,_,_,_,_,_,_,_,z,_⟩=>by cases z
  exact⟨λb H Q E h=>absurd h (m b H Q E),λA r s H args R b Q E _ _ _ _ h=>absurd h (m b H Q E)⟩
 | k+1=>λx d f q h l F S=>by
  have ih:=Lp (P:=P) O j k;rw[VH h];refine Ko (k:=3*k+2) F S λT A r s H E t g u v=>(sns Ds).ss _ _ u v _ (Lo O ih S g (nQ _ _) (λC n i=>?_) (λX e=>VL O ih h l t j g e) λ_ _ z=>by cases z)
  unfold VD at i;rw[kh (λd=>(params d).length)]at i
  obtain⟨o,p,y⟩:=aZ i;subst y;obtain⟨B,D,I,a,c,M,J,F1,L,N⟩:=O.cls C o p;exact⟨3*k+1,B,D,I,params o,a,c,M,Z5 O ih p F1 N,g,J,L⟩
def ya(a:List Int):PV:=.lst (a.map .int)
theorem Az{F:Fz}:∀a:List Int,aA K F (a.map .int) (a.map V.int)
 | []=>.nil
 | n::r=>.cons (aE.mpr rfl) (Az r)
end
theorem jt{c d:Type} [BEq c] [LawfulBEq c] {k:c} {v:d}:∀{l:List (c×d)},l.lookup k=some v->(k,v)∈l
 | [],h=>by cases h
 | (a,b)::l,h=>by
  rw[jW]at h;cases z:k==a with
  | true =>
   rw[z]at h;cases h;rw[aY z];exact aJ
  | false =>
   rw[z]at h;exact aH _ (jt h)
def F9.at{K:W.Frag}{h:Heap}{b:Str->Option Value}{P:Params}{T:Str}{rows:List (Str×Str)}(x:F9 K P T rows)(X:K.In h)(G:h.Ns mainGlobals b):ES K b P T rows:=by
 obtain⟨a,d,n,g,i,j,l⟩:=x;refine⟨a,d,n,W.mg_of X G g,i,j,λk fn e=>?_⟩
 obtain⟨f,m,c⟩:=l (k,fn) (jt e);exact⟨f,m,W.mg_of X G c,c⟩
def IP.at{K:W.Frag}{h a:Heap}{c:Str->Option Value}(b:IP K)(X:K.In h)(G:h.Ns mainGlobals c)(Y:K.In a):zJ c a :=
 let ⟨bm,o,d,e,f,g,i⟩:=b;⟨bm,o,W.mg_of X G d,e,f,Y _ _ g,i⟩
def AA(K:W.Frag):List (Addr×Str):=dA.filterMap λx=>(W.tabIn K x).map λa=>(a.2,zq x)
theorem vx{c d:Type} [BEq c] [LawfulBEq c] {b:c} {q:d}:∀{l:List (c×d)},(l.map (·.1)).Nodup->(b,q)∈l->l.lookup b=some q
 | [],_,h=>nomatch h
 | (a,v)::l,f,h=>by
  rw[aM,gg]at f;rw[jW];rcases aK.mp h with e | g
  ·grind
  ·have:(b==a)=false:=by
    grind
   rw[this];exact vx f.2 g
def Hk(K:W.Frag):(AA K).map (·.1)=dA.filterMap λx=>(W.tabIn K x).map (·.2):=by
 unfold AA;rw[List.map_filterMap]
 congr 1
 funext x
 cases W.tabIn K x<;>rfl
def mi.tabs{K:W.Frag}{h:Heap}(t:mi K h)(X:K.In h):(∀b q,(AA K).lookup b=some q->h.get? b=some {cls:=.none,data:=.fields #[]}/\isCodeTable h b/\K.lookup b=none)/\∀H:Hp,(∀b q,(AA K).lookup b=some q->H b=some (.Ci q))->rf K H:=by
 refine⟨λb q e=>?_,λH g x a c T e=>?_⟩
 ·have d:=jt e;unfold AA at d;obtain⟨x,a,i⟩:=nM.mp d;obtain⟨f,j,k⟩:=f9.mp i;cases k;obtain⟨l,m,p⟩:=t.at_ x a f.1 f.2 j;obtain⟨o,r,_,_,_,_,_,_,_,u,v,w,y,_⟩:=W.codeHd_of_K X l;exact⟨m,⟨_,o,r,u,v,w,y⟩,p⟩
 ·refine g T (zq x) (vx (by rw[Hk];exact t.nd) ?_)
  exact nM.mpr ⟨x,a,by rw[e];rfl⟩
def VM(P:Pg):Bool:=P.nZ.isEmpty || (match P.defs.lookup ("spread":Str)with | some st=>(params st).length==2 | none=>true)
def ad2{P:Pg}{K:W.Frag}{h:Heap}{t:Str->Option Value}(X:K.In h)(G:h.Ns mainGlobals t)(hd:∀d∈P.defs,IM K d.1 d.2)
  (hc:∀d∈P.cons,∃u v,W.nsIn K mainGlobals d.1=some (some u)/\RelV v u/\∀F,bO K F d.2 v) (B:∀x∈P.dt,W.nsIn K mainGlobals x=some none) {w:World} (ht:∀d∈P.tabs,F9 K w.params d.1 d.2) (i:∀d∈P.cls,SF K d.1 d.2 P.flds) (l:VM P=true) (m:∀x∈P.nZ,SG K x):VI P w K t where
 fns:=λx j e=>by
  obtain⟨⟨f,k,a,F,b⟩,s⟩:=hd (x,j) (eu e);exact⟨f,k,F,.all b,W.mg_of X G a,s⟩
 cons:=λx p e=>by
  obtain⟨u,v,a,r,b⟩:=hc (x,p) (eu e);exact⟨u,v,W.mg_of X G a,r,b⟩
 dt:=λx e=>W.mg_none_of X G (B x (by simpa using e))
 tabs:=λT rows e=>(ht (T,rows) (jt e)).at X G
 ns:=λx a e=>W.mg_of X G e
 RM:=λC e=>by
  have e:C∈P.cls.map (·.1):=by simpa using e
  obtain⟨d,hd,rfl⟩:=au.mp e;obtain⟨o,f,k,a,M,c,y,F,b,s⟩:=i d hd;exact⟨o,a,c,λg D=>y g (by simpa using D)⟩
 cls:=λC j e=>by
  obtain⟨o,f,k,a,M,c,y,F,b,s⟩:=i (C,j) (eu e);exact⟨o,f,k,a,c,M,W.mg_of X G a,F,.all b,s⟩
 t8:=λx j e q=>by
  obtain⟨E,H⟩:=m x (by simpa using q)
  refine⟨E,H,λJ I=>?_⟩
  unfold VM at l;rw[I]at l;rcases Bool.or_eq_true_iff.mp l with z | z
  ·rw[wH.mp z]at q;cases q
  ·exact aY z
def Yes(o:Option (Rs PV×List ak)):Prop:=∃h,o=some (.ok (.bl true),h)
def VN{K:W.Frag}{P:Pg}{k:Nat}{H:Hp}{a:Addr}{d:List Int}(f:Yes (run P k "law" [ya d] []))(hS:k9 K H a (d.map V.int)):G1 K 1 (run P k "law") [.ref a] H (λv _=>v=.bl true) λ_ _ _=>False :=
 let ⟨h,e⟩:=f
 ⟨H,⟨H,[]⟩,[],[ya d],_,h,⟨cL.refl H,cL.refl H,Gr.refl _,λ_ _ e=>.inl e,λn a e=>by simp at e,rfl,jX,λn c a e=>by simp at e⟩,λ_ _ e=>.inl e,.cons (gv.mpr ⟨a,_,rfl,hS,Az d⟩) .nil,rfl,e,λv g i _ b=>b8.mp b⟩
def Lq{P:Pg}{N:Nat}{x:Str}{st:Stmt}{l:W.OpenLaw}{q:Program}{loose:List Str}{XP:(Str->Option Value)->Heap->Prop}{YP:World->Heap->Prop}{d:DefRec}(r:P.defs.lookup ("law":Str)=some st)(t:params st=[x])
  (I:l.most=some 63) (j:d.name="law") (m:d.params.defaults=[]) (J:dN (3*N) callerA) (L:VM P=true) (M:∀(w:World) (h:Heap),YP w h->∃K:W.Frag,K.In h/\IQ P w K/\mi K h)
  (p:∀i:List Int,i.length<=63->Yes (run P N "law" [ya i] [])):W.WalkO q loose XP YP l.row.toRowW d [] (λf vs=>PySem.call f vs):=by
 refine Att.zI I m λw v y mg mb fa o pm cd Q a vs i G Y ho hd Ed B R X C Z=>?_
 obtain⟨K,c,T,TH⟩:=M w _ Y;obtain⟨t1,t2⟩:=TH.tabs c;have O:=ad2 c G.T.g T.hd T.hc T.hb T.ht T.hcl L T.hlm;obtain⟨⟨f,fd,D,F,b⟩,s⟩:=T.hd ("law",st) (eu r);rw[j]at B;have e:=B.symm.trans (W.mg_of c G.T.g D);cases e;rw[t]at b;refine GA (CX:=iQ l.prog w) c G.T.g G.T.b G.T.builtins G.T.nolimit Z t1 t2 R X (bP C (by decide)) J (λE kb _=>?_) (λs u=>.of_eq (b [u] rfl)) (λH hS=>VN (p i C) hS) (by rintro _ _ _ ⟨_,_,_,_,_,_,_,_,_,_,_,h,_⟩;exact h)
 have k:=Lp (prog:=l.prog) O (λz=>(T.hbm z).at c G.T.g kb) N "law" st _ fd r (W.mg_of c G.T.g D) F s
 rw[t]at k;exact k
abbrev Ev{b:Type}(f:Gx b)(s:cy)(a:b)(c:cy):Prop:=f s=some (.ok a,c)
abbrev Ek {b : Type} (f : Gx b) (s : cy) (a : b) : Prop := Ev f s a s
section
variable {α β:Type} {s s1 s2 s3:cy}
def eB(h:Ev f s a s1)(b:k a s1=r):bnd f k s=r:=by
 show(f s).bind (Yx k)=r;rw[h];exact b
def eI(h:Ev a s b s1)(c:(if b=true then f s1 else g s1)=r):dQ a f g s=r:=eB h (by grind)
def iT(h:Ev a s true s1)(b:f s1=r):dQ a f g s=r:=eI h b
def iF(h:Ev a s false s1)(b:g s1=r):dQ a f g s=r:=eI h b
variable {fa fb fe:Gx PV} {ts:Gx (List PV)} {p q x y z:PV} {ps as:List PV}
def b2(a:Ev fa s x s1)(b:Ev fb s1 y s2)(h:g s2.h x y=some z):Ev (op2 g fa fb) s z s2:=eB a (eB b (by show(g s2.h x y).map _=_;rw[h];rfl))
def cA(a:Ev fa s x s1)(b:Ev ts s1 as s2):Ev (ao fa ts) s (x::as) s2:=eB a (eB b rfl)
def tU(h:Ev ts s ps s1)(a:ps.length<=4000000):Ev (kO .aq ts) s (.aq ps) s1:=eB h (by show(small ps (.nd .aq ps)).map _=_;rw[show small ps (.nd .aq ps)=some (.nd .aq ps)from if_pos a];rfl)
def lS(h:Ev ts s ps s1)(a:ps.length<=4000000):Ev (kO .lst ts) s (.lst ps) s1:=eB h (by show(small ps (.nd .lst ps)).map _=_;rw[show small ps (.nd .lst ps)=some (.nd .lst ps)from if_pos a];rfl)
def bV(a:Ev ts s as s1)(h:g s1.h as=some z):Ev (gm g ts) s z s1:=eB a (by show(g s1.h as).map _=_;rw[h];rfl)
def bT(h:Ev fa s (.bl b) s1):Ev (toB fa) s b s1:=eB h rfl
def tR(h:Ev fa s p s1)(ht:pG s1.h p=some b):Ev (gO fa) s b s1:=eB h (by show(pG s1.h p).map _=_;rw[ht];rfl)
def nB(h:Ev a s b s1):Ev (CS a) s (!b) s1:=eB h rfl
def clV(b:Ev ts s as s1)(c:as.length=n)(a:(s1.h.isEmpty || ai as)=true)(hc:g as []=some (.ok p,h'))(d:mO h' p=some q):Ev (bnd ts (bK 0 n g)) s q s1:=eB b (by
 unfold bK;rw[a,if_pos (show((0==0)&&true)=true from rfl)]
 unfold ou;rw[if_pos ⟨c,a⟩,hc];show(mO h' p).map _=_;rw[d];rfl)
def MZ(a:Ev ts s as s1)(b:as.length=n)(c:((m==0)&&(s1.h.isEmpty || ai as))=false)(hc:g as s1.h=some (.ok p,h')):Ev (bnd ts (bK m n g)) s p ⟨s1.ρ,h'⟩:=eB a (by
 unfold bK;rw[c,if_neg dh];unfold C9;rw[if_pos b,hc];rfl)
variable {f g:Gx dE} {r:Option (Rs dE×cy)}
def sq(h:Ev f s .nx s1)(a:g s1=r):d0 f g s=r:=eB h a
def sv(h:Ev f s (.rt p) s1):d0 f g s=some (.ok (.rt p),s1):=eB h rfl
def aS(h:Ev fa s p s1)(ht:t p s1=some s2):Ev (dc fa t) s .nx s2:=eB h (by show(t p s1).map _=_;rw[ht];rfl)
def rS(h:Ev fa s p s1):Ev (retS fa) s (.rt p) s1:=eB h rfl
def dS(h:Ev fa s p s1):Ev (fV fa) s .nx s1:=eB h rfl
def gz(e:f ⟨gn n as,h⟩=some (.ok (.rt p),⟨yb,h'⟩)):dP f n as h=some (.ok p,h'):=by
 unfold dP;rw[e];rfl
def VO(e:f ⟨gn n as,h⟩=some (.ok .nx,⟨yb,h'⟩)):dP f n as h=some (.ok .bB,h'):=by
 unfold dP;rw[e];rfl
variable {t:Tg} {body:Gx dE}
def fC(ht:t p s=some s1)(a:Ev body s1 .nx s2)(h:dm t body ps s2=r):dm t body (p::ps) s=r:=eB (show Ev (stp (t p)) s .nx s1 by show(t p s).map _=_;rw[ht];rfl) (eB a h)
def fR(ht:t p s=some s1)(a:Ev body s1 (.rt q) s2):dm t body (p::ps) s=some (.ok (.rt q),s2):=eB (show Ev (stp (t p)) s .nx s1 by show(t p s).map _=_;rw[ht];rfl) (eB a rfl)
def fS(h:Ev fi s (.sq ps) s1)(a:dm t body ps s1=r):Ac fi t body s=r:=eB h a
def sV(he:Ev fa s p s1)(a:uk p=some h):Ev (iY fa) s (.sq h) s1:=eB he (by show(Kf s1.h p).map _=_;unfold Kf;rw[a];rfl)
def sG(h:Ev fi s ps s1):Ev (EJ fi) s (.sq ps) s1:=eB h rfl
theorem AB:∀{ps:List PV},(∀p∈ps,bd p h=some (F p,h))->fg bd ps h=some (ps.filterMap F,h)
 | [],_=>rfl
 | p::ps,H=>by
  show(bd p h).bind _=_;rw[H p aJ];show(fg bd ps h).map _=_;rw[AB λq a=>H q (aH _ a)]
  cases e:F p with
  | none=>rw[List.filterMap_cons_none e];rfl
  | some v=>rw[List.filterMap_cons_some e];rfl
def cQ(a:Ev fi s (.sq ps) s1)(b:ps.length<=4000000)(c:∀p∈ps,bd (bY link s1.ρ) p s1.h=some (F p,s1.h)):Ev (dB false link fi bd) s (.lst (ps.filterMap F)) s1:=eB a (by
 show(if ps.length<=fL then fg _ ps s1.h else none).bind _=_
 rw[if_pos (show ps.length<=fL from b),AB c]
 rfl)
def e1(ht:t p ⟨ρ,h⟩=some ⟨C4,h1⟩)(he:Ev fe ⟨C4,h1⟩ q ⟨a,b⟩):kR t fe ρ p h=some (some q,b):=by
 unfold kR;rw[ht,cW,he];rfl
def VP(ht:t p ⟨ρ,h⟩=some ⟨C4,h1⟩)(hw:Ev c ⟨C4,h1⟩ true ⟨a,b⟩)(he:Ev fe ⟨a,b⟩ q ⟨d,e⟩):mM t c fe ρ p h=some (some q,e):=by
 unfold mM;rw[ht,cW,hw,cW];show(if true=true then(fe ⟨a,b⟩).bind _ else _)=_
 rw[if_pos rfl,he];rfl
def VQ(ht:t p ⟨ρ,h⟩=some ⟨C4,h1⟩)(hw:Ev a ⟨C4,h1⟩ false ⟨b,c⟩):mM t a fe ρ p h=some (none,c):=by
 unfold mM;rw[ht,cW,hw];rfl
end
inductive Sh where
 | num | own | bL (n:Int) | bt (ps:List Sh)
mutual
def enc:Sh->PV
 | .num=>.aq [.str "num"]
 | .own=>.aq [.str "own"]
 | .bL n=>.aq [.str "strip",.int n]
 | .bt a=>.aq [.str "rec",.aq (bX a)]
def bX:List Sh->List PV
 | []=>[]
 | s::r=>enc s::bX r
end
mutual
def lv:Sh->List Sh
 | .num=>[.num]
 | .own=>[.own]
 | .bL n=>[.bL n]
 | .bt a=>fW a
def fW:List Sh->List Sh
 | []=>[]
 | s::r=>lv s++fW r
end
mutual
def dp:Sh->Nat
 | .bt a=>oY a+1
 | _=>0
def oY:List Sh->Nat
 | []=>0
 | s::r=>max (dp s) (oY r)
end
def iE:Sh->Bool
 | .bt _=>false
 | _=>true
theorem i9:∀l:List Sh,bX l=l.map enc
 | []=>rfl
 | s::r=>by simp[bX,i9 r]
def oZ(a b:List Sh):bX (a++b)=bX a++bX b:=by simp[i9]
def dX(a:List Sh):(bX a).length=a.length:=by simp[i9]
theorem sx:∀a b:List Sh,fW (a++b)=fW a++fW b
 | [],b=>by simp[fW]
 | s::r,b=>by simp[fW,sx r b]
mutual
theorem qo:∀s:Sh,∀x∈lv s,iE x=true
 | .num,x,h=>by simp[lv]at h;subst h;rfl
 | .own,x,h=>by simp[lv]at h;subst h;rfl
 | .bL n,x,h=>by simp[lv]at h;subst h;rfl
 | .bt a,x,h=>AD a x (by simpa[lv]using h)
theorem AD:∀ps:List Sh,∀x∈fW ps,iE x=true
 | [],x,h=>by simp[fW]at h
 | s::r,x,h=>by
  simp only[fW,bA]at h;rcases h with h | h
  ·exact qo s x h
  ·exact AD r x h
end
def Du(h:iE s=true):lv s=[s]/\dp s=0:=by
 cases s with
 | bt _=>cases h
 | _=>exact⟨by simp[lv],by simp[dp]⟩
mutual
theorem c8:∀s:Sh,noRef (enc s)=true
 | .num=>rfl
 | .own=>rfl
 | .bL _=>rfl
 | .bt a=>by simp[enc,noRef,ai,qp a]
theorem qp:∀l:List Sh,ai (bX l)=true
 | []=>rfl
 | s::l=>by simp[bX,ai,c8 s,qp l]
end
def xC(hc:h[n]?=some ⟨.lst,ps⟩)(b:CQ h q=some a)(c:ps.length+a.length<=4000000):zW (.ref n) [q] ⟨ρ,h⟩=some (.ok .bB,⟨ρ,h.set n ⟨.lst,ps++a⟩⟩):=by
 show(CQ h q).bind _=_;rw[b,cW];show(iA h (.ref n)).bind _=_;have e:iA h (.ref n)=some (n,⟨.lst,ps⟩):=by
  show(h[n]?).bind _=_;rw[hc];rfl
 rw[e,cW];show(((if ps.length+a.length<=fL then some (ps++a)else none).map _).map _)=_
 rw[if_pos (show ps.length+a.length<=fL from c)]
 rfl
def aC(hc:h[n]?=some ⟨.lst,ps⟩)(a:ps.length<4000000):iB (gY xA) (.ref n) [q] ⟨ρ,h⟩=some (.ok .bB,⟨ρ,h.set n ⟨.lst,ps++[q]⟩⟩):=by
 show(iA h (.ref n)).bind _=_;have e:iA h (.ref n)=some (n,⟨.lst,ps⟩):=by
  show(h[n]?).bind _=_;rw[hc];rfl
 rw[e,cW];show(((if ps.length<fL then some (ps++[q])else none).map _).map _)=_
 rw[if_pos (show ps.length<fL from a)]
 rfl
def yZ(h1:Ev b s (.ref n) s1)(hc:s1.h[n]?=some ⟨.lst,ps⟩)(c:Ev d s1 as s2)(f:w (.ref n) as s2=r):xE "list" w b d s=r:=by
 refine eB h1 (eB (a:=()) ?_ (eB c f));show((cz s1.h (.ref n)).bind _).map _=_;have e:cz s1.h (.ref n)=some (.lst,ps):=by
  show(s1.h[n]?).bind _=_;rw[hc];rfl
 rw[e];rfl
def E8(c:CT):Gx dE:=(fV (xE "list" zW (rd 1) (ao (bnd (ao (rd 2) (aW [])) (bK 0 1 (c "leaves"))) (aW []))))
def yc(c:CT):Gx dE :=
 (d0 (dQ (toB (op2 Ij (op2 bQ (rd 0) (aW (.int 0))) (aW (.str "rec"))))
  (retS (kO .aq (ao (rd 0) (aW []))))
  (aW .nx))
  (d0 (dc (ug (aW [])) (aU 1))
  (d0 (Ac (iY (op2 bQ (rd 0) (aW (.int 1)))) (aU 2) (E8 c))
  (retS (gm GF (ao (rd 1) (aW [])))))))
def Gives(o:Option (Rs PV×List ak))(q:PV):Prop:=∃p h,o=some (.ok p,h)/\mO h p=some q
def Dv(hp:noRef p=true):mO h p=some p:=by
 unfold mO;split
 ·rfl
 ·unfold vf;rw[if_pos hp]
theorem o8(X:PV):∀(ps acc:List Sh) (o:Option PV),(∀s∈ps,Gives (c "leaves" [enc s] []) (.aq (bX (lv s))))->acc.length+(fW ps).length<=4000000 ->
  ∃a,dm (aU 2) (E8 c) (bX ps) ⟨[some X,some (.ref 0),o],[⟨.lst,bX acc⟩]⟩=some (.ok .nx,⟨[some X,some (.ref 0),a],[⟨.lst,bX (acc++fW ps)⟩]⟩)
 | [],acc,o,_,_=>⟨o,by simp[fW];rfl⟩
 | s::r,acc,o,h,b=>by
  obtain⟨p,g,d,e⟩:=h s aJ;simp only[fW,aV]at b;obtain⟨a,ih⟩:=o8 X r (acc++lv s) (some (enc s)) (λs f=>h s (aH _ f)) (by grind)
  refine⟨a,?_⟩;rw[dG]at ih;refine fC rfl (dS (yZ rfl rfl (cA (clV rfl rfl (by simp[ai,c8]) d e) rfl) (xC rfl rfl (by rw[dX,dX];lia)))) ?_
  rw[<-oZ];exact ih
def ki(h:iE s=true):dP (yc c) 3 [enc s] []=some (.ok (.aq [enc s]),[]):=by
 cases s with
 | bt _=>cases h
 | _=>kernel_rfl
def Dw (h:∀s∈ps,Gives (c "leaves" [enc s] []) (.aq (bX (lv s)))) (hz:(fW ps).length<=4000000):Gives (dP (yc c) 3 [enc (.bt ps)] []) (.aq (bX (fW ps))):=by
 obtain⟨a,q⟩:=o8 (enc (.bt ps)) ps [] none h (by simpa using hz)
 refine⟨_,_,gz (sq (iF (s1:=⟨[some (enc (.bt ps)),none,none],[]⟩) (bT (by kernel_rfl)) rfl) (sq rfl (sq (fS rfl q) (rS rfl)))),Dv ?_⟩
 simp[noRef,qp]
structure dY (R:Nat->CT):Prop where
 run:∀k,R (k+1) "leaves"=dP (yc (R k)) 3
mutual
theorem dY.all{R:Nat->CT}(A:dY R):∀(s:Sh) (k:Nat),dp s<=k->(lv s).length<=4000000->Gives (R (k+1) "leaves" [enc s] []) (.aq (bX (lv s)))
 | .num,k,_,_=>⟨_,_,by rw[A.run,ki rfl],rfl⟩
 | .own,k,_,_=>⟨_,_,by rw[A.run,ki rfl],rfl⟩
 | .bL n,k,_,_=>⟨_,_,by rw[A.run,ki rfl],rfl⟩
 | .bt b,0,hd,_=>by simp[dp]at hd
 | .bt b,k+1,hd,a=>by
  simp only[dp]at hd;simp only[lv]at a;rw[A.run];exact Dw (A.each b k (by lia) a) a
theorem dY.each{R:Nat->CT}(A:dY R):∀ps k,oY ps<=k->(fW ps).length<=4000000->∀s∈ps,Gives (R (k+1) "leaves" [enc s] []) (.aq (bX (lv s)))
 | [],_,_,_,s,a=>by cases a
 | p::r,k,hd,b,s,a=>by
  simp only[oY]at hd;simp only[fW,aV]at b;rcases aK.mp a with e | e
  ·rw[e];exact dY.all A p k (by lia) (by lia)
  ·exact dY.each A r k (by lia) (by lia) s e
end
end L2.U
namespace L2.U
open PySem L2
abbrev Rw:=List Int×Int×Int×Sh
noncomputable def mU(k a:Int)(r:Rw):Rw:=(k::r.1,a+r.2.1,r.2.2)
mutual
def tab:Sh->List Rw
 | .num=>[([],0,1,.num)]
 | .own=>[([],0,1,.own)]
 | .bL n=>[([],0,1,.bL n)]
 | .bt a=>([],0,((fW a).length:Int),.bt a)::tabs 0 0 a
def tabs:Nat->Int->List Sh->List Rw
 | _,_,[]=>[]
 | k,a,s::r=>(tab s).map (mU k a)++tabs (k+1) (a+((lv s).length:Int)) r
end
def sz(s:Sh):Int:=((lv s).length:Int)
def g8:List Sh->Nat
 | []=>0
 | s::l=>(tab s).length+g8 l
def Lr(h:iE s=true):tab s=[([],0,1,s)]:=by
 cases s with
 | bt _=>cases h
 | _=>rfl
def AE(s:Sh):∃R,tab s=(([],0,sz s,s):Rw)::R:=by
 cases s with
 | bt a=>exact⟨tabs 0 0 a,by simp only[tab,sz,lv]⟩
 | num=>exact⟨[],by simp[tab,sz,lv]⟩
 | own=>exact⟨[],by simp[tab,sz,lv]⟩
 | bL n=>exact⟨[],by simp[tab,sz,lv]⟩
theorem fX:∀(l:List Sh) (k:Nat) (a:Int),(tabs k a l).length=g8 l
 | [],_,_=>rfl
 | s::l,k,a=>by simp[tabs,g8,fX l]
def ip(s:Sh):1<=(tab s).length:=by
 obtain⟨R,e⟩:=AE s;rw[e];simp
theorem sy:∀l:List Sh,l.length<=g8 l
 | []=>az _
 | s::l=>by
  have:=ip s;have:=sy l;simp only[g8,aN]
  lia
mutual
theorem vy:∀s:Sh,(lv s).length<=(tab s).length
 | .num=>by simp[lv,tab]
 | .own=>by simp[lv,tab]
 | .bL n=>by simp[lv,tab]
 | .bt a=>by
  have:=yd a;simp only[lv,tab,aN,fX]
  lia
theorem yd:∀l:List Sh,(fW l).length<=g8 l
 | []=>by simp[fW]
 | s::l=>by
  have:=vy s;have:=yd l;simp only[fW,g8,aV]
  lia
end
mutual
theorem RT:∀s:Sh,dp s<=(tab s).length
 | .num=>by simp[dp]
 | .own=>by simp[dp]
 | .bL n=>by simp[dp]
 | .bt a=>by
  have:=Ls a;simp only[dp,tab,aN,fX]
  lia
theorem Ls:∀l:List Sh,oY l<=g8 l
 | []=>by simp[oY]
 | s::l=>by
  have:=RT s;have:=Ls l;simp only[oY,g8]
  lia
end
mutual
theorem E9:∀(s:Sh),∀r∈tab s,r.1.length<=dp s
 | .num,r,h=>by simp[tab]at h;subst h;simp
 | .own,r,h=>by simp[tab]at h;subst h;simp
 | .bL n,r,h=>by simp[tab]at h;subst h;simp
 | .bt a,r,h=>by
  simp only[tab,aK]at h;rcases h with rfl | h
  ·simp
  ·simp only[dp];exact AG a 0 0 r h
theorem AG:∀l k a,∀r∈tabs k a l,r.1.length<=oY l+1
 | [],_,_,r,h=>by simp[tabs]at h
 | s::l,k,a,r,h=>by
  simp only[tabs,bA,au]at h;simp only[oY];rcases h with⟨b,h0,rfl⟩ | h
  ·have:=E9 s b h0;simp only[mU,aN]
   lia
  ·have:=AG l _ _ r h
   lia
end
theorem AH:∀(l:List Sh) (s:Sh),s∈l->(tab s).length<=g8 l
 | s::l,t,h=>by
  simp only[g8];rcases aK.mp h with rfl | h
  ·lia
  ·have:=AH l t h
   lia
def vz(h:s∈ps):(tab s).length<=(tab (.bt ps)).length:=by
 have:=AH ps s h;simp only[tab,aN,fX]
 lia
noncomputable def Iq:Sh->Int->Option (Sh×Int)
 | .bt a,k=>if 0<=k then(a[k.toNat]?).map λs=>(s,((fW (a.take k.toNat)).length:Int))else none
 | _,_=>none
def walk:Sh->Int->List Int->Option (Sh×Int)
 | s,a,[]=>some (s,a)
 | s,a,k::p=>(Iq s k).bind λx=>walk x.1 (a+x.2) p
mutual
theorem sE:∀(s:Sh),∀r∈tab s,∀b,walk s b r.1=some (r.2.2.2,b+r.2.1)
 | .num,r,h,b=>by simp[tab]at h;subst h;simp[walk]
 | .own,r,h,b=>by simp[tab]at h;subst h;simp[walk]
 | .bL n,r,h,b=>by simp[tab]at h;subst h;simp[walk]
 | .bt a,r,h,b=>by
  simp only[tab,aK]at h;rcases h with rfl | h
  ·simp[walk]
  ·exact vA a [] r (by simpa[fW]using h) b
theorem vA:∀(c a:List Sh),∀r∈tabs a.length ((fW a).length:Int) c,∀b,walk (.bt (a++c)) b r.1=some (r.2.2.2,b+r.2.1)
 | [],a,r,h,b=>by simp[tabs]at h
 | s::c,a,r,h,b=>by
  simp only[tabs,bA,au]at h;rcases h with⟨d,h0,rfl⟩ | h
  ·have:=sE s d h0 (b+((fW a).length:Int));simp only[mU,walk,Iq];simp[this]
   lia
  ·have:=vA c (a++[s]) r (by simpa[sx,fW]using h) b
   simpa using this
end
end L2.U
namespace L2.U
open PySem PySem.Spec PyProof.Rows
noncomputable def oy:bh->PV
 | .inl i=>.int i
 | .inr x=>.str x
def dD(ks:List bh):PV:=.aq (ks.map oy)
def vD:Nat:=3000000
abbrev dM:=List (List bh×Int)
noncomputable def Hl(ks:List (List bh))(k:List bh):Bool:=ks.any λj=>decide (j=k)
def eK(a:dM)(c:Int)(f:List bh):dM:=if Hl (a.map (·.1)) f=true then a else a++[(f,c)]
def dq(a:dM)(c:Int):List (List bh)->dM
 | []=>a
 | f::r=>dq (eK a c f) c r
def oz(a:dM)(c:Int)(f:List bh):(eK a c f).length<=a.length+1:=by
 unfold eK;split
 ·lia
 ·grind
theorem oA(c:Int):∀(l:List (List bh)) (a:dM),(dq a c l).length<=a.length+l.length
 | [],_=>az _
 | g::l,a=>by
  have b:=oA c l (eK a c g);have d:=oz a c g;show(dq (eK a c g) c l).length<=_;rw[aN]
  lia
def toldP(t:List bh×Int):PV:=.aq (t.1.map oy++[.int t.2])
def gA(b:List bh->Option (List (List bh))):Nat->Nat->dM->Option dM
 | 0,_,_=>none
 | n+1,k,a=>match a[k]? with
  | none=>some a
  | some t=>(b t.1).bind λfs=>if a.length+fs.length<fL then gA b n (k+1) (dq a k fs)else none
theorem gD [DecidableEq α]:∀(l U:List α),l.Nodup->(∀x∈l,x∈U)->l.length<=U.length
 | [],_,_,_=>fJ _
 | x::l,U,a,b=>by
  rw[gg]at a;have c:=b x aJ;have e:=gD l (U.erase x) a.2 λy d=>(List.mem_erase_of_ne (λz=>a.1 (by grind))).mpr (b y (aH _ d))
  have f:=List.length_erase_of_mem c;have g:=List.length_pos_of_mem c;rw[aN]
  lia
def AI:Hl ks k=true↔k∈ks:=by
 unfold Hl;simp only[List.any_eq_true,gG];exact⟨(by rintro⟨x,h,e⟩;exact e▸h),λh=>⟨k,h,rfl⟩⟩
theorem fO(c:Int):∀(fs:List (List bh)) (b:dM),∃a:dM,dq b c fs=b++a/\(∀t∈a,t.2=c/\t.1∈fs)
 | [],b=>⟨[],by rw[dU];rfl,λ_ z=>nomatch z⟩
 | f::fs,b=>by
  obtain⟨a,d,g⟩:=fO c fs (eK b c f);show ∃m,dq (eK b c f) c fs=b++m/\_
  by_cases h:Hl (b.map (·.1)) f=true
  ·have e:eK b c f=b:=by unfold eK;rw[if_pos h]
   rw[e]at d ⊢;exact⟨a,d,λt ht=>⟨(g t ht).1,aH _ (g t ht).2⟩⟩
  ·have e:eK b c f=b++[(f,c)]:=by unfold eK;rw[if_neg h]
   rw[e]at d ⊢;refine⟨(f,c)::a,by rw[d];simp,λt ht=>?_⟩
   rcases aK.mp ht with rfl | ht
   ·grind
   ·grind
theorem sF(c:Int):∀(fs:List (List bh)) (d:dM),(d.map (·.1)).Nodup->((dq d c fs).map (·.1)).Nodup
 | [],_,h=>h
 | f::fs,d,h=>by
  refine sF c fs (eK d c f) ?_;unfold eK;split
  ·exact h
  ·rename_i i;rw[cw];refine qK.mpr ⟨h,by simp,λa e b g z=>?_⟩
   simp at g;subst z;rw[g]at e;exact i (AI.mpr e)
theorem oC(c:Int):∀(fs:List (List bh)) (a:dM),∀f∈fs,f∈(dq a c fs).map (·.1)
 | [],_,_,h=>nomatch h
 | g::fs,a,f,h=>by
  rcases aK.mp h with rfl | h
  ·obtain⟨b,d,_⟩:=fO c fs (eK a c f);show f∈(dq (eK a c f) c fs).map (·.1);rw[d,cw];refine gf _ ?_;unfold eK;split
   ·rename_i e;exact AI.mp e
   ·grind
  ·exact oC c fs (eK a c g) f h
section
variable (ju:List bh->Option (List (List bh))) (dZ:List (List bh))
def Pr(a:dM):Prop:=∀(i:Nat) (f:List bh) (c:Int),a[i]?=some (f,c)->(c = -1/\f∈dZ)\/∃(j:Nat) (g:List bh) (d:Int) (fs:List (List bh)),j<i/\c=(j:Int)/\a[j]?=some (g,d)/\ju g=some fs/\f∈fs
def Dx(a:dM)(k:Nat):Prop:=∀(j:Nat) (g:List bh) (d:Int),j<k->a[j]?=some (g,d)->∃fs,ju g=some fs/\∀f∈fs,f∈a.map (·.1)
def Hm:Pr ju dZ (dq [] (-1) dZ):=by
 obtain⟨a,b,d⟩:=fO (-1) dZ [];rw[gi]at b;intro i f c e;rw[b]at e;obtain⟨g,h⟩:=d _ (cH e);exact .inl ⟨g,h⟩
def Lu{k:Nat}(h:Pr ju dZ a)(hk:a[k]?=some (g,d))(ho:ju g=some fs):Pr ju dZ (dq a (k:Int) fs):=by
 obtain⟨b,m,o⟩:=fO k fs a;have E:=(bj.mp hk).1;have l:∀{j:Nat} {x:List bh×Int},a[j]?=some x->(a++b)[j]?=some x:=λ{j x} e=>by
  rw[c5 (bj.mp e).1];exact e
 intro i f c e;rw[m]at e ⊢;by_cases p:i<a.length
 ·rw[c5 p]at e;rcases h i f c e with z | ⟨j,q,r,t,u,v,w,y,B⟩
  ·exact .inl z
  ·exact .inr ⟨j,q,r,t,u,v,l w,y,B⟩
 ·rw[je (by lia)]at e
  obtain⟨C,D⟩:=o _ (cH e);exact .inr ⟨k,g,d,fs,by lia,C,l hk,ho,D⟩
def Hn(h:Dx ju a k)(hk:a[k]?=some (g,d))(ho:ju g=some fs):Dx ju (dq a (k:Int) fs) (k+1):=by
 obtain⟨c,i,t⟩:=fO k fs a;have u:=(bj.mp hk).1;intro j l m v e;rw[i]at e;rw[c5 (b7 ‹_› ‹_›)]at e;by_cases b:j=k
 ·subst b;rw[hk]at e;cases e;exact⟨fs,ho,oC j fs a⟩
 ·obtain⟨o,p,q⟩:=h j l m (by lia) e
  refine⟨o,p,λf r=>?_⟩
  rw[i,cw];exact gf _ (q f r)
theorem o9(U:List (List bh))(B:Nat)(h:U.length+B<fL)(e:∀g∈U,∃fs,ju g=some fs/\(∀f∈fs,f∈U)/\fs.length<=B):∀(n k:Nat) (a:dM),U.length<n+k->k<=a.length->(a.map (·.1)).Nodup->(∀t∈a,t.1∈U)->Pr ju dZ a->Dx ju a k ->
  ∃res,gA ju n k a=some res/\(res.map (·.1)).Nodup/\(∀t∈res,t.1∈U)/\Pr ju dZ res/\Dx ju res res.length/\∃b,res=a++b
 | n,k,a,v,hk,nd,sub,why,done=>by
  have w:a.length<=U.length:=by
   have:=gD (a.map (·.1)) U nd λx y=>by
    grind
   rwa [aj]at this
  cases n with
  | zero=>lia
  | succ n =>
   cases ht:a[k]? with
   | none =>
    have i:a.length<=k:=by grind
    refine⟨a,?_,nd,sub,why,?_,[],by simp⟩
    ·show(match a[k]? with | none=>some a | some t=>_)=_
     rw[ht]
    ·grind
   | some t =>
    obtain⟨g,d⟩:=t;have j:=sub (g,d) (cH ht);obtain⟨fs,c,C,D⟩:=e g j;obtain⟨b,E,H⟩:=fO k fs a;have I:=(bj.mp ht).1;obtain⟨res,l,m,o,p,q,r,J⟩:=o9 U B h e n (k+1) (dq a k fs) (by lia) (by grind) (sF _ _ _ nd) (λt u=>by
     grind) (Lu ju dZ why ht c) (Hn ju done ht c)
    refine⟨res,?_,m,o,p,q,b++r,by grind⟩
    show(match a[k]? with | none=>some a | some t=>(ju t.1).bind λfs=>if a.length+fs.length<fL then gA ju n (k+1) (dq a k fs)else none)=_
    rw[ht];show((ju g).bind λfs=>if a.length+fs.length<fL then gA ju n (k+1) (dq a k fs)else none)=_
    rw[c,cW,if_pos (by lia)]
    exact l
def sH(U:List (List bh))(B:Nat)(c:U.length+B<fL)(q:U.length<vD)(e:∀g∈U,∃fs,ju g=some fs/\(∀f∈fs,f∈U)/\fs.length<=B)(r:∀f∈dZ,f∈U) :
  ∃res,gA ju vD 0 (dq [] (-1) dZ)=some res/\(res.map (·.1)).Nodup/\(∀t∈res,t.1∈U)/\Pr ju dZ res/\Dx ju res res.length/\∀f∈dZ,f∈res.map (·.1):=by
 obtain⟨b,u,v⟩:=fO (-1) dZ [];obtain⟨res,h,i,k,l,m,w,o⟩:=o9 ju dZ U B c e vD 0 (dq [] (-1) dZ) (Nat.le_add_right_of_le ‹_›) (fJ _) (sF _ _ _ jX) (λt ht=>by
  grind) (Hm ju dZ) (λj g d p=>absurd p (Cf _))
 exact⟨res,h,i,k,l,m,λf a=>by rw[o,cw];exact gf _ (oC _ _ _ f a)⟩
end
def VR(k:bh):zT (oy k)=some k:=by cases k<;>rfl
theorem Lv:∀ks:List bh,cb zT (ks.map oy)=some ks
 | []=>rfl
 | k::ks=>by simp only[aM,cb,VR,Lv ks,cW,gh]
def Fb(h:ks.length<1000):ie true (dD ks)=some ks:=by
 show(if(ks.map oy).length<1000 then cb zT (ks.map oy)else none)=_
 rw[aj,if_pos h,Lv]
def Lw(k:bh):noRef (oy k)=true:=by cases k<;>rfl
theorem Fc:∀ks:List bh,ai (ks.map oy)=true
 | []=>rfl
 | k::ks=>by simp[ai,Lw,Fc ks]
def Pt(ks:List bh):noRef (dD ks)=true:=by simp[dD,noRef,Fc]
def hS(hd:List ak)(a:dM):List ak:=hd++[⟨.lst,a.map toldP⟩,⟨.eR true (a.map (·.1)),a.map λ_=>.bl true⟩]
section
variable {hd:List ak} {ah:dM}
def VS:(hS hd ah)[hd.length]?=some ⟨.lst,ah.map toldP⟩:=by simp[hS]
def Z6:(hS hd ah)[hd.length+1]?=some ⟨.eR true (ah.map (·.1)),ah.map λ_=>.bl true⟩:=by simp[hS]
def RV(h:j<hd.length):(hS hd ah)[j]?=hd[j]?:=by unfold hS;rw[c5 h]
def Z7(a b c:ak):(hd++[a,b]).set (hd.length+1) c=hd++[a,c]:=by
 simp_all
def Z8(a b c:ak):(hd++[a,b]).set hd.length c=hd++[c,b]:=by
 grind
end
def mV:Gx dE :=
 (dQ (toB (op2 (jK true) (rd 4) (rd 1)))
  (d0 (Kr (aW (.bl true)) (rd 1) (rd 4))
  (fV (xE "list" (iB (gY xA)) (rd 0) (ao (op2 eG (rd 4) (kO .aq (ao (rd 3) (aW [])))) (aW [])))))
  (aW .nx))
def vE(d:f.length<1000)(l:a.length<4000000) :
  Ev mV ⟨[some (.ref hd.length),some (.ref (hd.length+1)),g,some (.int b),some (dD f)],hS hd a⟩ .nx ⟨[some (.ref hd.length),some (.ref (hd.length+1)),g,some (.int b),some (dD f)],hS hd (eK a b f)⟩:=by
 have j:cz (hS hd a) (.ref (hd.length+1))=some (.eR true (a.map (·.1)),a.map λ_=>.bl true):=by
  show((hS hd a)[hd.length+1]?).bind _=_;rw[Z6];rfl
 have t:jK true (hS hd a) (dD f) (.ref (hd.length+1))=some (.bl (!Hl (a.map (·.1)) f)):=by
  unfold jK;rw[j];show(ie true (dD f)).map _=_;rw[Fb d];rfl
 unfold mV eK;cases hm:Hl (a.map (·.1)) f with
 | true =>
  rw[hm]at t;rw[if_pos rfl];exact iF (bT (b2 rfl rfl t)) rfl
 | false =>
  rw[hm]at t;rw[if_neg dh];refine iT (bT (b2 rfl rfl t)) (sq (s1:=⟨[some (.ref hd.length),some (.ref (hd.length+1)),g,some (.int b),some (dD f)],hd++[⟨.lst,a.map toldP⟩,⟨.eR true (a.map (·.1)++[f]),(a.map λ_=>PV.bl true)++[.bl true]⟩]⟩) ?_ ?_)
  ·refine eB rfl (eB rfl (eB rfl ?_));show(Aj (.ref (hd.length+1)) (dD f) (.bl true) _).map _=_;have c:iA (hS hd a) (.ref (hd.length+1))=some (hd.length+1,⟨.eR true (a.map (·.1)),a.map λ_=>.bl true⟩):=by
    show((hS hd a)[hd.length+1]?).bind _=_;rw[Z6];rfl
   unfold Aj;rw[c];show((ie true (dD f)).bind _).map _=_;rw[Fb d];show Option.map _ (if(a.map (λt:List bh×Int=>t.1)).length<fL then _ else _)=_
   rw[if_pos (show(a.map (·.1)).length<fL by rw[aj];have:fL=4000000:=rfl;lia)]
   unfold mK;rw[show iz f (a.map (·.1))=false from hm,if_neg dh]
   show some (Rs.ok dE.nx,cy.mk _ ((hd++_).set (hd.length+1) _))=_;rw[Z7]
  ·have k:∀h,eG h (dD f) (.aq [.int b])=some (toldP (f,b)):=λh=>by
    have e:eG h (dD f) (.aq [.int b])=sizeOk ((f.map oy).length+1) (toldP (f,b)):=rfl;rw[e,aj];exact if_pos (show f.length+1<=fL by have:fL=4000000:=rfl;lia)
   have i:(hd++[⟨.lst,a.map toldP⟩,⟨.eR true (a.map (·.1)++[f]),(a.map λ_=>PV.bl true)++[.bl true]⟩]:List ak)[hd.length]?=some ⟨.lst,a.map toldP⟩:=by simp
   refine dS (p:=.bB) (yZ rfl i (cA (b2 rfl (tU (cA rfl rfl) (by simp)) (k _)) rfl) ((aC i (by rw[aj];lia)).trans ?_))
   rw[Z8];simp[hS]
theorem vF:∀(fs:List (List bh)) (a:dM) (o:Option PV),(∀f∈fs,f.length<1000)->a.length+fs.length<4000000 ->
  ∃c,dm (aU 4) mV (fs.map dD) ⟨[some (.ref hd.length),some (.ref (hd.length+1)),d,some (.int b),o],hS hd a⟩=some (.ok .nx,⟨[some (.ref hd.length),some (.ref (hd.length+1)),d,some (.int b),c],hS hd (dq a b fs)⟩)
 | [],a,o,_,_=>⟨o,rfl⟩
 | f::fs,a,o,hf,e=>by
  simp only[aN]at e;have i:=oz a b f;obtain⟨c,ih⟩:=vF fs (eK a b f) (some (dD f)) (λg h=>hf g (aH _ h)) (by lia)
  exact⟨c,fC rfl (vE (hf f aJ) (by lia)) ih⟩
def AJ:Gx dE:=Ac (iY (rd 2)) (aU 4) mV
def Z9(c:CT)(ω:PV->Gx PV)(n:Nat):Gx dE :=
 (d0 (fV (bnd (ao (rd 2) (ao (rd 3) (ao (Kw 1 n ω (cutE (op2 bQ (rd 2) (rd 4)) (aW none) (u5 (zS (aW (.int 1)))))) (ao (rd 4) (aW []))))) (bK 0 4 (c "tell_new"))))
  (dc (op2 Po (rd 4) (aW (.int 1))) (aU 4)))
def VT(c:CT)(ω:PV->Gx PV)(n:Nat):Gx dE :=
 (d0 (dc (ug (aW [])) (aU 2))
  (d0 (dc (Ks true) (aU 3))
  (d0 (fV (bnd (ao (rd 2) (ao (rd 3) (ao (rd 0) (ao (zS (aW (.int 1))) (aW []))))) (bK 0 4 (c "tell_new"))))
  (d0 (dc (aW (.int 0)) (aU 4))
  (d0 (jr (toB (op2 JQ (rd 4) (gm gM (ao (rd 2) (aW []))))) (Z9 c ω n) Z4)
  (retS (rd 2)))))))
def AK(b:∀f∈fs,f.length<1000)(c:a.length+fs.length<4000000) :
  dP AJ 5 [.ref hd.length,.ref (hd.length+1),.lst (fs.map dD),.int d] (hS hd a)=some (.ok .bB,hS hd (dq a d fs)):=by
 obtain⟨g,e⟩:=vF fs a none b c;exact VO (fS (sV rfl rfl) e)
theorem sJ{all:List (List bh)}(k:hd[j]?=some ⟨.lst,all.map dD⟩):∀(fs:List (List bh)) (i c:Nat) (a:dM) (o:Option PV),all.drop i=fs->(∀f∈fs,f.length<1000)->a.length+fs.length<4000000->fs.length<c ->
  ∃l,Ab (aU 4) mV j c i ⟨[some (.ref hd.length),some (.ref (hd.length+1)),e,some (.int b),o],hS hd a⟩=some (.ok .nx,⟨[some (.ref hd.length),some (.ref (hd.length+1)),e,some (.int b),l],hS hd (dq a b fs)⟩)
 | fs,i,0,a,o,_,_,_,h=>by lia
 | fs,i,c+1,a,o,d,hf,r,m=>by
  have t:=(bj.mp k).1;have nx:Ke j (hS hd a) i=some ((all.map dD)[i]?):=by
   unfold Ke;have:cz (hS hd a) (.ref j)=some (.lst,all.map dD):=by
    show((hS hd a)[j]?).bind _=_;rw[RV t,k];rfl
   rw[this]
  have u:Ab (aU 4) mV j (c+1) i ⟨[some (.ref hd.length),some (.ref (hd.length+1)),e,some (.int b),o],hS hd a⟩=(match Ke j (hS hd a) i with
   | some (some p)=>bnd (stp (aU 4 p)) (λ_=>bnd mV (u4 (Ab (aU 4) mV j c (i+1)))) ⟨[some (.ref hd.length),some (.ref (hd.length+1)),e,some (.int b),o],hS hd a⟩
   | some none=>some (.ok .nx,⟨[some (.ref hd.length),some (.ref (hd.length+1)),e,some (.int b),o],hS hd a⟩)
   | none=>none):=rfl
  rw[u,nx,bz];cases fs with
  | nil =>
   have:=List.drop_eq_nil_iff.mp d;rw[jg this];exact⟨o,rfl⟩
  | cons f fs =>
   have q:i<all.length:=by
    rcases Nat.lt_or_ge i all.length with h | h
    ·exact h
    ·rw[List.drop_eq_nil_of_le h]at d;cases d
   rw[lz q]at d;injection d with e1 v
   simp only[aN]at r m;have x:=oz a b f;obtain⟨l,ih⟩:=sJ k fs (i+1) c (eK a b f) (some (dD f)) v (λg w=>hf g (aH _ w)) (by lia) (by lia)
   refine⟨l,?_⟩;rw[bC q,e1];exact eB rfl (eB (vE (hf f aJ) (by lia)) ih)
def Ho(b:hd[j]?=some ⟨.lst,fs.map dD⟩)(c:∀f∈fs,f.length<1000)(d:a.length+fs.length<4000000) :
  dP AJ 5 [.ref hd.length,.ref (hd.length+1),.ref j,.int g] (hS hd a)=some (.ok .bB,hS hd (dq a g fs)):=by
 obtain⟨i,e⟩:=sJ b fs 0 fL a none rfl c d (by have:fL=4000000:=rfl;lia)
 have h:=(bj.mp b).1;refine VO (eB (eB rfl ?_) (show Y7 (aU 4) mV (yW.cl j) _=_ from e))
 have:cz (hS hd a) (.ref j)=some (.lst,fs.map dD):=by
  show((hS hd a)[j]?).bind _=_;rw[RV h,b];rfl
 unfold Kf;show Option.map _ (match cz (hS hd a) (.ref j)with | some (.lst,_)=>some (yW.cl j) | _=>none)=_
 rw[this];rfl
def VU(e:cz h (.ref n)=some (.lst,ps)):bQ h (.ref n) (.int i)=L2.lb ps i:=by
 unfold bQ;simp only[e];rfl
def Lx(ps:List PV)(p:PV):j6 (ps++[p]) none (some (-1))=ps:=by
 unfold j6;have e:HT.eE (ps++[p]).length (ps++[p]).length (some (-1))=ps.length:=by
  simp[HT.eE]
  lia
 rw[HT.zE,e,List.drop_zero,wR];simp
def cE'(h1:Ev a s p s1)(b:Ev c s1 l s2)(d:Ev e s2 h s3)(f:Il s3.h l h p=some q):Ev (cutE a c e) s q s3:=eB h1 (eB b (eB d (by show(Il s3.h l h p).map _=_;rw[f];rfl)))
section
variable {c:CT} {hd:List ak} {ju:List bh->Option (List (List bh))} {ω:PV->Gx PV} {n:Nat} (hc:c "tell_new"=dP AJ 5)
  (hω:∀g fs,ju g=some fs->(∀f∈fs,f.length<1000)/\∀ah ρ,ω (dD g) ⟨ρ,hS hd ah⟩=some (.ok (.lst (fs.map dD)),⟨ρ,hS hd ah⟩))
include hc hω
theorem AL(p:Option PV):∀(N k b:Nat) (a res:dM),gA ju N k a=some res->N<=b->a.length<4000000 ->
  ∃k',jr (toB (op2 JQ (rd 4) (gm gM (ao (rd 2) (aW []))))) (Z9 c ω n) b ⟨[p,some (.ref n),some (.ref hd.length),some (.ref (hd.length+1)),some (.int (k:Int))],hS hd a⟩=some (.ok .nx,⟨[p,some (.ref n),some (.ref hd.length),some (.ref (hd.length+1)),k'],hS hd res⟩)
 | 0,_,_,_,_,h,_,_=>by cases h
 | N+1,k,b,a,res,h,hf,o=>by
  obtain⟨b,rfl⟩:∃f,b=f+1:=⟨b-1,by lia⟩
  have dT:cz (hS hd a) (.ref hd.length)=some (.lst,a.map toldP):=by
   show((hS hd a)[hd.length]?).bind _=_;rw[VS];rfl
  have t:Ek (toB (op2 JQ (rd 4) (gm gM (ao (rd 2) (aW []))))) ⟨[p,some (.ref n),some (.ref hd.length),some (.ref (hd.length+1)),some (.int k)],hS hd a⟩ (decide (k<(a.length:Int))):=bT (b2 rfl (bV (cA rfl rfl) (by
   have e:YU (hS hd a) (.ref hd.length)=some a.length:=by
    unfold YU;rw[dT];show some (a.map toldP).length=_;rw[aj]
   show Option.map _ (Option.bind (YU (hS hd a) (.ref hd.length)) _)=_;rw[e];rfl)) rfl)
  have h:(match a[k]? with | none=>some a | some t=>(ju t.1).bind λfs=>if a.length+fs.length<fL then gA ju N (k+1) (dq a k fs)else none)=some res:=h
  cases hk:a[k]? with
  | none =>
   rw[hk]at h;cases h;have j:=jS.mp hk;rw[lJ (by lia)]at t
   exact⟨_,eB t rfl⟩
  | some tt =>
   obtain⟨g,d⟩:=tt;rw[hk]at h;obtain⟨fs,l,h⟩:=aO h;obtain⟨i,h⟩:=bM h;have i:a.length+fs.length<4000000:=i;obtain⟨m,hw⟩:=hω g fs l;have q:=(bj.mp hk).1;have r:=oA k fs a;obtain⟨k',ih⟩:=AL p N (k+1) b (dq a k fs) res h (by lia) (nN ‹_› ‹_›)
   refine⟨k',?_⟩;rw[dW (by lia)]at t
   have ct:Il (hS hd a) none (some (-1)) (toldP (g,d))=some (dD g):=by
    show some (PV.aq (j6 (g.map oy++[.int d]) none (some (-1))))=_;rw[Lx];rfl
   refine eB t ?_;refine eB (sq (dS (MZ (cA rfl (cA rfl (cA (eB rfl (eB (show Option.map _ (if n=n then some ()else none)=_ by rw[if_pos rfl];rfl) (eB (cE' (b2 rfl rfl (by
    rw[VU dT];exact atI_nat (by grind))) rfl rfl ct) (hw a _)))) (cA rfl rfl)))) rfl (by
    have:(hS hd a).isEmpty=false:=by simp[hS]
    rw[this];rfl) (by rw[hc];exact AK m i))) (aS (b2 rfl rfl rfl) rfl)) ih
def Pu(hp:p=.lst (fk.map dD)\/∃j,p=.ref j/\hd[j]?=some ⟨.lst,fk.map dD⟩)(hk:∀f∈fk,f.length<1000)(k:fk.length<4000000)(a:gA ju vD 0 (dq [] (-1) fk)=some res) :
  dP (VT c ω n) 5 [p,.ref n] hd=some (.ok (.ref hd.length),hS hd res):=by
 have b:=oA (-1) fk [];simp only[wL,iy]at b;obtain⟨l,e⟩:=AL hc hω (some p) vD 0 Z4 (dq [] (-1) fk) res a (by decide) (nN ‹_› ‹_›)
 have d:hS hd []=(hd++[⟨.lst,[]⟩])++[⟨.eR true [],[]⟩]:=by simp[hS]
 have g:Ev (dc (ug (aW [])) (aU 2)) ⟨[some p,some (.ref n),none,none,none],hd⟩ .nx ⟨[some p,some (.ref n),some (.ref hd.length),none,none],hd++[⟨.lst,[]⟩]⟩:=rfl;have run:c "tell_new" [.ref hd.length,.ref (hd.length+1),p,.int (-1)] (hS hd [])=some (.ok .bB,hS hd (dq [] (-1) fk)):=by
  rw[hc];rcases hp with rfl | ⟨j,rfl,h⟩
  ·exact AK hk (by grind)
  ·exact Ho h hk (by grind)
 have i:Ev (fV (bnd (ao (rd 2) (ao (rd 3) (ao (rd 0) (ao (zS (aW (.int 1))) (aW []))))) (bK 0 4 (c "tell_new")))) ⟨[some p,some (.ref n),some (.ref hd.length),some (.ref (hd.length+1)),none],hS hd []⟩ .nx ⟨[some p,some (.ref n),some (.ref hd.length),some (.ref (hd.length+1)),none],hS hd (dq [] (-1) fk)⟩ :=
  dS (MZ (s1:=⟨[some p,some (.ref n),some (.ref hd.length),some (.ref (hd.length+1)),none],hS hd []⟩) (cA rfl (cA rfl (cA rfl (cA rfl rfl)))) rfl (by
   have:(hS hd []).isEmpty=false:=by simp[hS]
   rw[this];rfl) run)
 exact gz (sq g (sq (by
  rw[d,<-show(hd++[(⟨.lst,[]⟩:ak)]).length=hd.length+1 by simp]
  rfl) (sq i (sq rfl (sq e (rS rfl))))))
end
end L2.U
namespace cq
open PySem L2 L2.U
abbrev mX:Stmt:=top 16
abbrev aaa:Stmt:=top 83
abbrev kI (n : Int) : Gx PV := aW (.int n)
abbrev kS (s : Str) : Gx PV := aW (.str s)
abbrev Q0 := dk (aU 2) (dk (aU 3) oi)
abbrev Q1 := ao (rd 1) (aW [])
abbrev Q2 := op2 bQ (rd 1) (kI 1)
abbrev Q3 := kO .aq (ao (kS "lent") (ao (kS "sole") (aW [])))
abbrev Q5 := op2 bQ (rd 1) (op2 bQ (rd 0) (kI 0))
abbrev Q6 := ao (rd 3) (aW [])
abbrev Q7 := dk (aU 4) (dk (aU 5) oi)
abbrev Q8 := gm gM (ao (rd 2) (aW []))
abbrev Q9 := dQ (toB (op2 j5 (rd 2) (op2 bQ (rd 4) (kI 1)))) (dQ (gO (rd 3)) (aW true) (toB (op2 j5 (rd 5) (kS "lend")))) (aW false)
abbrev Qa := dc (rd 2) (iR 6 (dk (aU 3) (dk (aU 4) (dk (aU 5) (dk (aU 6) (dk (aU 7) (dk (aU 8) oi)))))))
abbrev Qb := ao (rd 0) Q1
abbrev Qc := orG (rd 6) (kO .lst (ao (aW (.aq [(.str "rest"),(.str ""),(.bl false),(.int 0),(.int 0),(.str "")])) (aW [])))
abbrev Qd := iR 2 (dk (aU 1) (dk (aU 2) oi))
abbrev Qe := dQ (toB (op2 j5 (op2 bQ (rd 2) (kI 0)) (kS "strip"))) (gO (rd 3)) (aW false)
abbrev Qf := ao (op2 bQ (rd 2) (op2 bQ (rd 0) (kI 0))) (ao Q5 (ao (rd 0) (aW [])))
abbrev Qg := iR 3 (dk (aU 1) Q0)
abbrev Qh := op2 bQ (rd 5) (kI 0)
abbrev Qi := op2 bQ (rd 0) (rd 1)
abbrev Qj := dB false [none,none] (iY Q5) (kR (aU 1) (kO .aq Q1))
abbrev Qk := op2 bQ (rd 2) (kI 1)
abbrev Ql := iR 3 (dk (aU 4) (dk (aU 5) (dk (aU 6) oi)))
abbrev Qm := dQ (toB (op2 j5 (rd 2) (rd 4))) (gO (rd 3)) (aW false)
abbrev Qn := ao (kO .aq (ao (kI 0) (aW []))) (aW [])
abbrev Qo := toB (op2 j5 Q2 (kS ""))
abbrev Qp := toB (op2 (jK true) (op2 bQ (rd 4) (kI 0)) Q3)
abbrev Qq := toB (op2 (jK true) (op2 bQ (rd 3) (kI 0)) Q3)
abbrev Qr := iR 2 Q0
abbrev Qs := op2 eG (rd 4) (kI 1)
abbrev Qt := toB (op2 (jK false) (op2 bQ Q2 (kI 0)) Q3)
abbrev Qu := ao (rd 4) (aW [])
abbrev Qv := ao (rd 6) (aW [])
abbrev Qw := op2 bQ (rd 1) (kI 0)
abbrev Q4 := dQ (toB (op2 j5 Qw (kS "call"))) (toB (op2 Ij Q2 (kS ""))) (aW false)
abbrev Qx := iY (rd 3)
abbrev Qy := gm gM (ao (rd 7) (aW []))
abbrev Qz := ao (rd 0) (ao Q2 (aW []))
def VV:List (Str×Nat):=txt.defs.map λd=>(d.1,(params d.2).length)
abbrev Rn(x:Str)(F:CT->Gx dE)(n:Nat):Prop:=∀k,run txt (k+1) x=dP (F (run txt k)) n
open Lean Meta in
dsimproc_decl pqF (Str.mk _):=λe=>do
 let .app _ (.app _ l):=e | return .continue
 let some l <-getListLit? l | return .continue
 return .done (mkApp (mkConst ``Str.ofString) (toExpr (String.ofList (l.toList.map λx=>Char.ofNat (x.nat?.getD 0)))))
open Lean in
dsimproc_decl pqI (Int.ofNat _):=λe=>do
 let .app _ n:=e | return .continue
 let some n:=n.nat? | return .continue
 return .done (toExpr (n:Int))
def fP(x:Str)(i n k:Nat){f:CT->Gx dE}(h:∀k,run txt (k+1) x=dP (RQ txt x (top i) (run txt k)) n:=by intro _;kernel_rfl)(e:∀c,RQ txt x (top i) c=f c:=by intro c;conv=>(lhs;reduce;simp only[pqF,pqI])):run txt (k+1) x=dP (f (run txt k)) n:=by rw[h,e]
noncomputable def lbP(s:List Stmt):List Nat->List Stmt
 | []=>s
 | i::r=>lbP (match s[i]? with | some (.For _ _ b _ _) | some (.If _ b _ _)=>b | _=>[]) r
def qr(x:Str)(i:Nat)(p:List Nat)(c:CT):Gx dE:=kf Ds (VE txt x (top i) (VD txt) (Xf txt c) (VG txt x c) none c) (lbP (du (top i)) p)
abbrev oE(a:Gx dE){f:Gx dE}(_:a=f:=by conv=>(lhs;reduce;simp only[pqF,pqI])):Gx dE:=f
section
seal d0 U2 op2 bQ rd bnd ao aW bK dB iY kR mM aU fV xE zW dQ toB Ij retS kO dc ug Ac gm GF cK CS chain leO JQ gM Po GI cutE u5 jK j5 eG iR dk oi gO Ks zS jr Kr iB gY xA Ak Kt orG EJ vd zX G7 lrg GD U4 isV YS GH mkP Xf U1 pM xD YQ geO gk uh GG iU Oj OA J0 Oc EY Kw dP VF G4 JY KQ OU
def Dy(k:Nat):=fP "leaves" 5 3 k
def sL(k:Nat):=fP "check_part" 6 2 k
noncomputable def Ly(c:CT):=oE (qr "part" 7 [1] c)
def Lz(k:Nat):=fP "part" 7 4 k
noncomputable def Hq(c:CT):=oE (qr "first" 8 [2] c)
def Hr(k:Nat):=fP "first" 8 5 k
def uv(k:Nat):=fP "is_copied" 9 1 k
noncomputable def AM(c:CT):=oE (qr "kind_of" 12 [0] c)
def AN(k:Nat):=fP "kind_of" 12 4 k
def uw(k:Nat):=fP "is_holder" 13 1 k
def ye(k:Nat):=fP "shape_of" 14 1 k
def yf(k:Nat):=fP "tell_new" 17 5 k
noncomputable def pd(c:CT):=oE (RQ txt "row_nexts" (top 28) c)
theorem ux:Rn "row_nexts" pd 3:=λ_=>by kernel_rfl
noncomputable def sM(c:CT):Gx dE :=
 (d0 (dc (Ak VV c (Kt (λk=>(List.lookup k jm).map .fn) Qh) (ao (rd 2) (ao (rd 5) (aW [])))) (aU 6))
  (fV (xE "list" zW (rd 3) (ao (dB false [none,none,some 4] (iY Qc) (kR (aU 1) (op2 eG (kO .aq (ao (rd 2) (aW []))) (rd 1)))) (aW [])))))
noncomputable def VW(c:CT):Gx dE :=
 (d0 (dc Qi (aU 2))
  (d0 (dc (ug (aW [])) (aU 3))
  (d0 (Ac (EJ (vd (op2 bQ (rd 2) (kI 4)))) (iR 2 Q7) (sM c))
  (retS (rd 3)))))
theorem LB:Rn "acts" VW 7:=λ_=>by kernel_rfl
noncomputable def vG(c:CT):=oE (qr "nexts" 30 [2] c)
noncomputable def oF(c:CT):=oE (qr "nexts" 30 [4] c)
def Hs(k:Nat):=fP "nexts" 30 7 k
def AO(k:Nat):=fP "come_to" 31 2 k
noncomputable def Dz(c:CT):Gx dE :=
 (retS (G7 (λa n=>dP (VF txt mX c a n) 5) (kO .lst Qn) Qj [some 0]))
theorem yg:Rn "arrivals" Dz 1:=λ_=>by kernel_rfl
def AQ(k:Nat):=fP "touched" 33 1 k
def AR(k:Nat):=fP "touches" 34 3 k
def Ht(k:Nat):=fP "touch" 35 6 k
def pX(k:Nat):=fP "touch_whole" 36 4 k
def AS(k:Nat):=fP "at_acts" 37 2 k
def oG(k:Nat):=fP "operand_acts" 38 2 k
noncomputable def lj(c:CT):=oE (RQ txt "target_acts" (top 39) c)
theorem pY:Rn "target_acts" lj 2:=λ_=>by kernel_rfl
def yh(k:Nat):=fP "put_acts" 40 2 k
def yi(k:Nat):=fP "set_acts" 41 2 k
def uy(k:Nat):=fP "copy_acts" 42 2 k
def uz(k:Nat):=fP "move_acts" 43 2 k
def uA(k:Nat):=fP "drop_acts" 44 2 k
def uB(k:Nat):=fP "lend_acts" 45 2 k
def uC(k:Nat):=fP "call_acts" 46 3 k
def AU(k:Nat):=fP "arg_act" 47 4 k
def uD(k:Nat):=fP "owner_act" 48 2 k
def yj(k:Nat):=fP "say_acts" 51 2 k
def ll(k:Nat):=fP "give_acts" 52 2 k
noncomputable def pe(c:CT):=oE (qr "empties" 55 [3] c)
noncomputable def Hu(c:CT):Gx dE :=
 (d0 (dc (bnd Qb (bK 0 2 (c "acts"))) (aU 5))
  (d0 (dc (bnd Qb (bK 0 2 (c "nexts"))) (aU 4))
  (d0 (dc (bnd (ao Qi (aW [])) (bK 1 1 (c "empty_at_first"))) (aU 2))
  (d0 (Ac (iY (bnd Qb (bK 0 2 (c "come_to")))) (aU 3) (pe c))
  (retS (G7 (λa n=>dP (VF txt mX c a n) 5) (rd 2) (bnd Qf (bK 0 3 (c "stays_empty"))) [some 4,some 5]))))))
theorem AV:Rn "empties" Hu 6:=λ_=>by kernel_rfl
noncomputable def lY(c:CT):=oE (qr "empty_at_first" 56 [1] c)
def lZ(k:Nat):=fP "empty_at_first" 56 5 k
noncomputable def AW(c:CT):=oE (qr "emptied" 57 [2] c)
def AX(k:Nat):=fP "emptied" 57 4 k
def pZ(k:Nat):=fP "stays_empty" 58 3 k
def Hv(k:Nat):=fP "fills" 59 3 k
def yk(k:Nat):=fP "_law_cell_at" 61 2 k
def DA(k:Nat):=fP "_law_mixed" 62 4 k
noncomputable def sN(c:CT):=oE (qr "_law_names" 63 [5,1] c)
noncomputable def sO(c:CT):=oE (qr "_law_names" 63 [5] c)
def DB(k:Nat):=fP "_law_names" 63 10 k
def DC(k:Nat):=fP "_law_shape" 64 4 k
noncomputable def pf(c:CT):=oE (qr "_law_leaves" 65 [2] c)
def ph(k:Nat):=fP "_law_leaves" 65 3 k
noncomputable def sP(c:CT):=oE (qr "_law_parts" 66 [1,0] c)
def sQ(k:Nat):=fP "_law_parts" 66 4 k
noncomputable def Hw(c:CT):=oE (qr "_law_lets" 67 [3] c)
def Hx(k:Nat):=fP "_law_lets" 67 8 k
noncomputable def DD(c:CT):=oE (qr "_law_spots" 68 [1,3] c)
noncomputable def DE(c:CT):=oE (qr "_law_spots" 68 [1] c)
def DF(k:Nat):=fP "_law_spots" 68 8 k
noncomputable def mY(c:CT):=oE (qr "_law_numbers" 69 [1] c)
def yl(k:Nat):=fP "_law_numbers" 69 7 k
def ym(k:Nat):=fP "_law_operand" 70 3 k
def yn(k:Nat):=fP "_law_carried" 71 9 k
def yo(k:Nat):=fP "_law_lending" 72 9 k
def Hy(k:Nat):=fP "_law_call" 73 10 k
def sR(k:Nat):=fP "_law_small_row" 74 6 k
def LC(k:Nat):=fP "_law_row" 75 14 k
noncomputable def sS(c:CT):=oE (RQ txt "_law_program" (top 76) c)
theorem yp:Rn "_law_program" sS 24:=λ_=>by kernel_rfl
noncomputable def DG(c:CT):=oE (qr "_law_first" 77 [1,0] c)
noncomputable def DH(c:CT):=oE (qr "_law_first" 77 [1] c)
def DI(k:Nat):=fP "_law_first" 77 5 k
noncomputable def pj(c:CT):=oE (qr "_law_starts" 78 [1] c)
def AY(k:Nat):=fP "_law_starts" 78 4 k
noncomputable def yq(c:CT):=oE (qr "_law_touched" 79 [3] c)
def yr(k:Nat):=fP "_law_touched" 79 5 k
noncomputable def jv(c:CT):=oE (qr "_law_emptied" 80 [3] c)
def jw(k:Nat):=fP "_law_emptied" 80 5 k
def kj(k:Nat):=fP "_law_filled" 81 2 k
noncomputable def lq(c:CT):=oE (qr "_law_at_first" 82 [1,2] c)
noncomputable def uE(c:CT):=oE (qr "_law_at_first" 82 [1] c)
def uF(k:Nat):=fP "_law_at_first" 82 6 k
noncomputable def Fd(c:CT):=oE (qr "law" 83 [8] c)
def Pw(k:Nat):=fP "law" 83 15 k
noncomputable def AZ(c:CT)(ω:PV->Gx PV)(n:Nat):Gx dE :=
 (d0 (fV (bnd (ao (rd 2) (ao (rd 3) (ao (Kw 1 n ω (cutE (op2 bQ (rd 2) (rd 4)) (aW none) (u5 (zS (kI 1))))) Qu))) (bK 0 4 (c "tell_new"))))
  (dc (op2 Po (rd 4) (kI 1)) (aU 4)))
noncomputable def Hz(c:CT)(ω:PV->Gx PV)(n:Nat):Gx dE :=
 (d0 (dc (ug (aW [])) (aU 2))
  (d0 (dc (Ks true) (aU 3))
  (d0 (fV (bnd (ao (rd 2) (ao (rd 3) (ao (rd 0) (ao (zS (kI 1)) (aW []))))) (bK 0 4 (c "tell_new"))))
  (d0 (dc (kI 0) (aU 4))
  (d0 (jr (toB (op2 JQ (rd 4) Q8)) (AZ c ω n) Z4)
  (retS (rd 2)))))))
theorem DJ(c:CT)(ω:PV->Gx PV)(n:Nat):VF txt mX c ω n=Hz c ω n:=by kernel_rfl
end
abbrev S0(l:List (Option PV)):cy:=⟨l,[]⟩
section
variable {s s1:cy} {ts:Gx (List PV)} {as:List PV} {q:PV}
theorem da{n:Nat}{g:oo}(a:Ev ts s as s1)(b:as.length=n)(c:(s1.h.isEmpty || ai as)=true)(hc:Gives (g as []) q):Ev (bnd ts (bK 0 n g)) s q s1:=let ⟨_,_,d,e⟩:=hc;clV a b c d e
theorem gV{f:Gx dE}{n:Nat}{p:PV}{yb:List (Option PV)}{h':List ak}(e:f ⟨gn n as,[]⟩=some (.ok (.rt p),⟨yb,h'⟩))(hp:noRef p=true):Gives (dP f n as []) p:=⟨p,h',gz e,Dv hp⟩
theorem gN{f:Gx dE}{n:Nat}{yb:List (Option PV)}{h':List ak}(e:f ⟨gn n as,[]⟩=some (.ok .nx,⟨yb,h'⟩)):Gives (dP f n as []) .bB:=⟨.bB,h',VO e,Dv rfl⟩
end
theorem eU(h:List ak)(a b:Str):j5 h (.str a) (.str b)=some (.bl (a==b)):=rfl
noncomputable def Xg:Sh->Str
 | .num=>"num"
 | .own=>"own"
 | .bL _=>"strip"
 | .bt _=>"rec"
theorem pw(h:List ak)(s:Sh):bQ h (enc s) (.int 0)=some (.str (Xg s)):=by cases s<;>rfl
inductive Kn where
 | ow (s:Sh) | ho (ahB:Bool) (s:Sh)
noncomputable def hw(b:Bool):Str:=if b then "sole" else "lent"
def encK:Kn->PV
 | .ow s=>enc s
 | .ho b s=>.aq [.str (hw b),enc s]
def bN:Kn->Sh
 | .ow s=>s
 | .ho _ s=>s
noncomputable def d9:Kn->Bool
 | .ow _=>false
 | .ho _ _=>true
theorem qt(d:Kn):noRef (encK d)=true:=by
 cases d with
 | ow s=>exact c8 s
 | ho b s=>simp[encK,noRef,ai,c8]
theorem Px(d:Kn):((bQ [] (encK d) (.int 0)).bind λw=>jK false [] w (.aq [.str "lent",.str "sole"]))=some (.bl (d9 d)):=by
 cases d with
 | ow s=>cases s<;>kernel_rfl
 | ho b s=>cases b<;>kernel_rfl
theorem fj(k:Nat)(d:Kn):Gives (run txt (k+1) "is_holder" [encK d] []) (.bl (d9 d)):=by
 rw[uw];obtain⟨w,a,b⟩:=lB.mp (Px d);exact gV (rS (b2 (b2 rfl rfl a) rfl b)) rfl
theorem DK(k:Nat)(d:Kn):Gives (run txt (k+2) "shape_of" [encK d] []) (enc (bN d)):=by
 rw[ye];have h:=fj k d;refine gV (yb:=[some (encK d)]) (h':=[]) (rS (eI (tR (da (cA rfl rfl) rfl rfl h) rfl) ?_)) (c8 _);cases d with
 | ow s=>rfl
 | ho b s=>rfl
abbrev Rk:=Str×Kn
def bu(r:Rk):PV:=.aq [.str r.1,encK r.2]
def mZ:List Rk->Str->Option Kn
 | [],_=>none
 | r::l,x=>if r.1=x then some r.2 else mZ l x
theorem ja:∀(l:List Rk) (r:Rk),(l.map (·.1)).Nodup->r∈l->mZ l r.1=some r.2
 | s::l,r,a,h=>by
  rw[aM,gg]at a;rcases aK.mp h with rfl | h
  ·rw[mZ,if_pos rfl]
  ·rw[mZ,if_neg,ja l r a.2 h];intro e;exact a.1 (au.mpr ⟨r,h,e.symm⟩)
theorem vH(c:CT)(f:Option PV)(x:Str):∀(R:List Rk) (b g:Option PV) (d:Kn),mZ R x=some d->∃ρ,dm Qr (AM c) (R.map bu) (S0 [f,some (.str x),b,g])=some (.ok (.rt (encK d)),S0 ρ)
 | [],_,_,_,h=>by cases h
 | r::R,b,g,d,h=>by
  have t:iR 2 Q0 (bu r) (S0 [f,some (.str x),b,g])=some (S0 [f,some (.str x),some (.str r.1),some (encK r.2)]):=rfl;have e:Ek (toB (op2 j5 (rd 2) (rd 1))) (S0 [f,some (.str x),some (.str r.1),some (encK r.2)]) (r.1==x):=bT (b2 rfl rfl (eU _ _ _));unfold mZ at h;by_cases a:r.1=x
  ·rw[if_pos a]at h;cases h;rw[show(r.1==x)=true by rw[a];exact fH x]at e
   exact⟨_,fR t (iT e (rS rfl))⟩
  ·rw[if_neg a]at h;obtain⟨ρ,ih⟩:=vH c f x R (some (.str r.1)) (some (encK r.2)) d h;rw[show(r.1==x)=false by rw[fu];exact a]at e
   exact⟨ρ,fC t (iF e rfl) ih⟩
def BC(nm res a:PV)(b R2:List Rk):PV:=.aq [nm,.aq (b.map bu),res,.aq (R2.map bu),a]
theorem aT{h:List ak}{ps a:List PV}(b:ps.length+a.length<=4000000):eG h (.aq ps) (.aq a)=some (.aq (ps++a)):=if_pos (show ps.length+a.length<=fL from b)
theorem HA(k:Nat)(n res a:PV)(b R2:List Rk)(x:Str)(d:Kn)(hd:mZ (b++R2) x=some d)(h:b.length+R2.length<=1000):Gives (run txt (k+1) "kind_of" [BC n res a b R2,.str x] []) (encK d):=by
 rw[AN];obtain⟨f,e⟩:=vH (run txt k) (some (BC n res a b R2)) x (b++R2) none none d hd;have c:eG [] (.aq (b.map bu)) (.aq (R2.map bu))=some (.aq ((b++R2).map bu)):=by
  rw[cw];exact aT (by simp;lia)
 exact gV (sv (fS (sV (b2 (b2 rfl rfl rfl) (b2 rfl rfl rfl) c) rfl) e)) (qt d)
theorem LA:dY (run txt):=⟨λk=>Dy k⟩
theorem qu{ps:List Sh}{i:Int}{y:Sh}(a:0<=i)(b:ps[i.toNat]?=some y):L2.lb (bX ps) i=some (enc y):=by
 have:=atI_nat (xs:=bX ps) (by rw[i9,bz,b];rfl)
 rw[lF a]at this;exact this
theorem km{s:Sh}{i:Int}{x:Sh×Int}(h:Iq s i=some x):∃ps,s=.bt ps/\0<=i/\ps[i.toNat]?=some x.1/\x.2=((fW (ps.take i.toNat)).length:Int):=by
 cases s with
 | bt ps =>
  simp only[Iq]at h;by_cases a:0<=i
  ·rw[if_pos a]at h;cases b:ps[i.toNat]? with
   | none=>rw[b]at h;simp at h
   | some y=>rw[b]at h;simp at h;subst h;exact⟨ps,rfl,a,b,rfl⟩
  ·rw[if_neg a]at h;cases h
 | num=>simp[Iq]at h
 | own=>simp[Iq]at h
 | bL n=>simp[Iq]at h
theorem LD{ps:List Sh}{y:Sh}(h:y∈ps):dp y<=oY ps:=by
 induction ps with
 | nil=>cases h
 | cons z zs ih =>
  simp only[oY];rcases aK.mp h with rfl | hm
  ·lia
  ·have:=ih hm
   lia
mutual
theorem sU:∀(s:Sh),∀r∈tab s,r.2.2.1=sz r.2.2.2
 | .num,r,h=>by simp[tab]at h;subst h;simp[sz,lv]
 | .own,r,h=>by simp[tab]at h;subst h;simp[sz,lv]
 | .bL n,r,h=>by simp[tab]at h;subst h;simp[sz,lv]
 | .bt a,r,h=>by
  simp only[tab,aK]at h;rcases h with rfl | h
  ·simp[sz,lv]
  ·exact Ff a 0 0 r h
theorem Ff:∀(l:List Sh) (k:Nat) (a:Int),∀r∈tabs k a l,r.2.2.1=sz r.2.2.2
 | [],_,_,r,h=>by simp[tabs]at h
 | s::l,k,a,r,h=>by
  simp only[tabs,bA,au]at h;rcases h with⟨b,h0,rfl⟩ | h
  ·exact sU s b h0
  ·exact Ff l _ _ r h
end
mutual
theorem oH:∀(s:Sh),∀r∈tab s,dp r.2.2.2<=dp s/\(lv r.2.2.2).length<=(lv s).length
 | .num,r,h=>by simp[tab]at h;subst h;simp
 | .own,r,h=>by simp[tab]at h;subst h;simp
 | .bL n,r,h=>by simp[tab]at h;subst h;simp
 | .bt a,r,h=>by
  simp only[tab,aK]at h;rcases h with rfl | h
  ·simp
  ·have:=Fg a 0 0 r h;simp only[dp,lv]
   lia
theorem Fg:∀(l:List Sh) (k:Nat) (a:Int),∀r∈tabs k a l,dp r.2.2.2<=oY l/\(lv r.2.2.2).length<=(fW l).length
 | [],_,_,r,h=>by simp[tabs]at h
 | s::l,k,a,r,h=>by
  simp only[tabs,bA,au]at h;simp only[oY,fW,aV];rcases h with⟨b,h0,rfl⟩ | h
  ·have:=oH s b h0;simp only[mU]
   lia
  ·have:=Fg l _ _ r h
   lia
end
section
variable {s s1 s2 s3:cy} {fa fb fc:Gx PV} {x y z r:PV}
theorem eCh{g a:G2}(b:Ev fa s x s1)(c:Ev fb s1 y s2)(h1:g s2.h x y=some (.bl true))(hc:Ev fc s2 z s3)(d:a s3.h y z=some r):Ev (chain g a fa fb fc) s r s3 :=
 eB b (eB c (eB (by show((g s2.h x y).bind u0).map _=_;rw[h1];rfl) (by rw[if_pos rfl];exact eB hc (by show(a s3.h y z).map _=_;rw[d];rfl))))
end
theorem le_int(h:List ak)(i j:Int):leO h (.int i) (.int j)=some (.bl (decide (i<=j))):=rfl
theorem lt_int(h:List ak)(i j:Int):JQ h (.int i) (.int j)=some (.bl (decide (i<j))):=rfl
theorem Fh(k:Nat){s:Sh}{i:Int}{x:Sh×Int}(c:Iq s i=some x):Gives (run txt (k+1) "check_part" [enc s,.int i] []) .bB:=by
 obtain⟨a,rfl,d,e,_⟩:=km c;rw[sL];have h:i.toNat<a.length:=(bj.mp e).1;have f:leO [] (.int 0) (.int i)=some (.bl true):=by rw[le_int,dW d]
 have g:JQ [] (.int i) (.int ((bX a).length:Int))=some (.bl true):=by rw[lt_int,dW (by rw[dX];lia)]
 exact gN (sq (iF (s1:=S0 [some (enc (.bt a)),some (.int i)]) (bT (by kernel_rfl)) rfl) (iF (nB (b:=true) (bT (eCh rfl rfl f (bV (cA (b2 rfl rfl rfl) rfl) rfl) g))) rfl))
theorem vI(k:Nat)(A P:Option PV):∀(p:List Int) (s:Sh) (a:Int) (o:Option PV) (b:Sh) (c:Int),walk s a p=some (b,c)->∃d,dm (aU 3) (Ly (run txt (k+1))) (p.map .int) (S0 [A,P,some (enc s),o])=some (.ok .nx,S0 [A,P,some (enc b),d])
 | [],s,a,o,b,c,h=>by
  simp[walk]at h;obtain⟨rfl,rfl⟩:=h;exact⟨o,rfl⟩
 | i::p,s,a,o,b,c,h=>by
  obtain⟨x,e,hw⟩:=lB.mp (show(Iq s i).bind (λx=>walk x.1 (a+x.2) p)=some (b,c)from h)
  have hc:=Fh k e;obtain⟨l,rfl,f,g,_⟩:=km e;obtain⟨d,q⟩:=vI k A P p x.1 (a+x.2) (some (.int i)) b c hw;have j:=qu f g;exact⟨d,fC rfl (sq (dS (da (cA rfl (cA rfl rfl)) rfl rfl hc)) (aS (b2 (b2 rfl rfl rfl) rfl j) rfl)) q⟩
theorem VX(k:Nat)(s:Sh)(p:List Int)(x:Sh×Int)(h:walk s 0 p=some x):Gives (run txt (k+2) "part" [enc s,.aq (p.map .int)] []) (enc x.1):=by
 rw[Lz];obtain⟨a,q⟩:=vI k (some (enc s)) (some (.aq (p.map .int))) p s 0 none x.1 x.2 h;exact gV (sq (aS rfl rfl) (sq (fS rfl q) (rS rfl))) (c8 _)
theorem Py(l:List Sh):(l.map λs=>((lv s).length:Int)).sum=((fW l).length:Int):=by
 induction l with
 | nil=>simp[fW]
 | cons s l ih=>simp[fW,ih]
theorem oI:∀a:List Int,mJ (a.map .int)=some a
 | []=>rfl
 | n::r=>by
  have e:cb mH (r.map PV.int)=some r:=oI r;simp only[mJ,aM,cb,mH,cW,e,gh]
theorem HB(h:List ak)(a:List Int):GI h [.lst (a.map .int)]=some (.int a.sum):=by
 show(mJ _).map _=_;rw[oI];rfl
theorem LF(ps:List PV)(q:Nat):j6 ps none (some (q:Int))=ps.take q:=by
 unfold j6;rw[HT.xf,HT.zE,List.drop_zero,wR];by_cases h:q<=ps.length
 ·rw[Nat.min_eq_left h]
 ·rw[Nat.min_eq_right (by lia),qD (by lia),qD (by lia)]
theorem cM{c:Type}{link:List (Option Nat)}{fi:Gx yW}{bd:Bd}{s s1:cy}{l:List c}{e G:c->PV}(f:Ev fi s (.sq (l.map e)) s1)(g:l.length<=4000000)(d:∀a∈l,bd (bY link s1.ρ) (e a) s1.h=some (some (G a),s1.h)):Ev (dB false link fi bd) s (.lst (l.map G)) s1:=eB f (by
 have:∀l:List c,(∀a∈l,bd (bY link s1.ρ) (e a) s1.h=some (some (G a),s1.h))->fg (bd (bY link s1.ρ)) (l.map e) s1.h=some (l.map G,s1.h):=by
  intro l;induction l with
  | nil=>intro _;rfl
  | cons a l ih =>
   intro H;show(bd (bY link s1.ρ) (e a) s1.h).bind _=_;rw[H a aJ];show(fg (bd (bY link s1.ρ)) (l.map e) s1.h).map _=_;rw[ih λb d=>H b (aH _ d)]
   rfl
 show(if(l.map e).length<=fL then fg _ (l.map e) s1.h else none).bind _=_
 rw[if_pos (show(l.map e).length<=fL by rw[aj];exact g),this l d]
 rfl)
theorem cE{b:Gx PV}{c d:Gx (Option Int)}{s s1 s2 a:cy}{p q:PV}{l h:Option Int}(h1:Ev b s p s1)(e:Ev c s1 l s2)(f:Ev d s2 h a)(g:Il a.h l h p=some q):Ev (cutE b c d) s q a:=eB h1 (eB e (eB f (by show(Il a.h l h p).map _=_;rw[g];rfl)))
theorem Pz(k:Nat)(ps:List Sh)(q:Nat)(hd:oY ps<=k)(h:(fW ps).length<=1000)(i:ps.length<=1000)(a b d:Option PV) :
  Ek (gm GI (ao (dB false [none,none] (iY (cutE Qk (aW none) (u5 (rd 4)))) (kR (aU 1) (gm gM (ao (bnd Q1 (bK 0 1 (run txt (k+1) "leaves"))) (aW []))))) (aW []))) (S0 [a,b,some (enc (.bt ps)),d,some (.int (q:Int))]) (.int ((fW (ps.take q)).length:Int)):=by
 have c:=HB [] ((ps.take q).map λs=>((lv s).length:Int))
 rw[Py,cJ]at c;have e:Il [] none (some (q:Int)) (.aq (bX ps))=some (.aq ((ps.take q).map enc)):=by
  show some (PV.aq (j6 (bX ps) none (some (q:Int))))=_;rw[LF,i9,List.map_take]
 refine bV (cA (cM (sV (cE (b2 rfl rfl rfl) rfl rfl e) rfl) (by rw[jV];lia) λs f=>?_) rfl) c
 have g:=dY.each LA ps k hd (by lia) s (List.mem_of_mem_take f)
 refine e1 rfl (bV (cA (da (cA rfl rfl) rfl rfl g) rfl) ?_);show some (PV.int ((bX (lv s)).length:Int))=_;rw[dX];rfl
theorem sW(k:Nat)(A P:Option PV):∀(p:List Int) (s:Sh) (a:Int) (o:Option PV) (c:Sh) (d:Int),(tab s).length<=500->dp s<=k->walk s a p=some (c,d)->∃e,dm (aU 4) (Hq (run txt (k+1))) (p.map .int) (S0 [A,P,some (enc s),some (.int a),o])=some (.ok .nx,S0 [A,P,some (enc c),some (.int d),e])
 | [],s,a,o,c,d,_,_,h=>by
  simp[walk]at h;obtain⟨rfl,rfl⟩:=h;exact⟨o,rfl⟩
 | i::p,s,a,o,c,d,ht,hd,h=>by
  obtain⟨x,f,hw⟩:=lB.mp (show(Iq s i).bind (λx=>walk x.1 (a+x.2) p)=some (c,d)from h)
  have hc:=Fh k f;obtain⟨b,rfl,g,j,r⟩:=km f;have l:x.1∈b:=cH j;have C:=vz l;have t:(tab (.bt b)).length=g8 b+1:=by simp only[tab,aN,fX]
  have u:=yd b;have v:=sy b;have w:=LD l;have y:oY b+1<=k:=by simpa only[dp]using hd
  obtain⟨e,q⟩:=sW k A P p x.1 (a+x.2) (some (.int i)) c d (by lia) (by lia) hw
  have m:=Pz k b i.toNat (by lia) (by lia) (by lia) A P (some (.int a))
  rw[lF g,<-r]at m;have B:=qu g j;exact⟨e,fC rfl (sq (dS (da (cA rfl (cA rfl rfl)) rfl rfl hc)) (sq (aS (b2 rfl m rfl) rfl) (aS (b2 (b2 rfl rfl rfl) rfl B) rfl))) q⟩
theorem PC(k:Nat)(s:Sh)(p:List Int)(x:Sh×Int)(ht:(tab s).length<=500)(hd:dp s<=k)(h:walk s 0 p=some x):Gives (run txt (k+2) "first" [enc s,.aq (p.map .int)] []) (.int x.2):=by
 rw[Hr];obtain⟨a,q⟩:=sW k (some (enc s)) (some (.aq (p.map .int))) p s 0 none x.1 x.2 ht hd h;exact gV (sq (aS rfl rfl) (sq (aS rfl rfl) (sq (fS rfl q) (rS rfl)))) rfl
structure b6 where
 w:Str
 n:Str
 t:Bool
 f:Int
 m:Int
 k:Str
def kZ(a:b6):PV:=.aq [.str a.w,.str a.n,.bl a.t,.int a.f,.int a.m,.str a.k]
noncomputable def vJ:b6:=⟨"rest","",false,0,0,""⟩
noncomputable def px:b6:=⟨"hand","",false,0,0,""⟩
def LI(x:Str)(a:Bool)(p:List Int)(at_:PV):PV:=.aq [.str x,.bl a,.aq (p.map .int),at_]
def yt(s:Sh):Prop:=(tab s).length<=100/\dp s<=3
def sX(F:PV)(ks:List Rk):Prop:=∀k,∀r∈ks,Gives (run txt (k+1) "kind_of" [F,.str r.1] []) (encK r.2)
def tA(w x:Str)(d:Kn)(r:Rw)(t:Str):b6:=⟨w,x,d9 d,r.2.1,r.2.2.1,t⟩
theorem Jz(n res a:PV)(b R2:List Rk)(h:b.length+R2.length<=1000)(c:((b++R2).map (·.1)).Nodup):sX (BC n res a b R2) (b++R2):=λk r d=>HA k n res a b R2 r.1 r.2 (ja _ r c d) h
theorem fQ{F:PV}{ks:List Rk}(hF:sX F ks)(k:Nat)(hk:3<=k)(w t:Str){x:Str}{d:Kn}(f:(x,d)∈ks)(b:yt (bN d)){r:Rw}(c:r∈tab (bN d))(a:PV):Gives (run txt (k+3) "touch" [F,.str w,LI x (d9 d) r.1 a,.str t] []) (kZ (tA w x d r t)):=by
 rw[Ht];have hw:=sE (bN d) r c 0;have hd:=oH (bN d) r c;have p:=vy (bN d);have g:=hF (k+1) (x,d) f;have h:=DK k d;have i:=VX k (bN d) r.1 _ hw;have j:=dY.all LA r.2.2.2 (k+1) (by have:=b.2;lia) (by have:=b.1;lia)
 have e:=PC k (bN d) r.1 _ (by have:=b.1;lia) (by have:=b.2;lia) hw
 have l:=sU (bN d) r c;have m:0+r.2.1=r.2.1:=by lia
 rw[m]at e;have o:gM [] [.aq (bX (lv r.2.2.2))]=some (.int r.2.2.1):=by
  show some (PV.int ((bX (lv r.2.2.2)).length:Int))=_;rw[dX,l];rfl
 exact gV (sq (aS (da (cA (da (cA rfl (cA (b2 rfl rfl rfl) rfl)) rfl rfl g) rfl) rfl rfl h) rfl)
  (sq (aS (bV (cA (da (cA (da (cA rfl (cA (b2 rfl rfl rfl) rfl)) rfl rfl i) rfl) rfl rfl j) rfl) o) rfl)
  (rS (tU (cA rfl (cA (b2 rfl rfl rfl) (cA (b2 rfl rfl rfl) (cA (da (cA rfl (cA (b2 rfl rfl rfl) rfl)) rfl rfl e) (cA rfl (cA rfl rfl)))))) (by simp))))) rfl
theorem fY(s:Sh):(([],0,sz s,s):Rw)∈tab s:=by
 obtain⟨L,e⟩:=AE s;rw[e];exact aJ
theorem eM{F:PV}{ks:List Rk}(hF:sX F ks)(k:Nat)(hk:3<=k)(w t:Str){x:Str}{d:Kn}(a:(x,d)∈ks)(b:yt (bN d)):Gives (run txt (k+4) "touch_whole" [F,.str w,.str x,.str t] []) (kZ (tA w x d ([],0,sz (bN d),bN d) t)):=by
 rw[pX];have c:=hF (k+2) (x,d) a;have e:=fj (k+2) d;have f:=fQ hF k hk w t a b (fY (bN d)) .bB;exact gV (rS (da (cA rfl (cA rfl (cA (tU (cA rfl (cA (da (cA (da (cA rfl (cA rfl rfl)) rfl rfl c) rfl) rfl rfl e) (cA (tU rfl (by simp)) (cA rfl rfl)))) (by simp)) (cA rfl rfl)))) rfl rfl f)) rfl
def fE(as:List b6):PV:=.lst (as.map kZ)
theorem ad6(a:b6):noRef (kZ a)=true:=rfl
theorem LJ:∀as:List b6,ai (as.map kZ)=true
 | []=>rfl
 | a::as=>by simp[ai,ad6,LJ as]
theorem DL(as:List b6):noRef (fE as)=true:=by simp[fE,noRef,LJ]
theorem aL{h:List ak}{ps a:List PV}(b:ps.length+a.length<=4000000):eG h (.lst ps) (.lst a)=some (.lst (ps++a)):=by
 have e:eG h (.lst ps) (.lst a)=sizeOk (ps.length+a.length) (.lst (ps++a)):=rfl;rw[e];exact if_pos (show ps.length+a.length<=fL from b)
theorem lE(as bs:List b6)(h:List ak)(a:as.length+bs.length<=1000):eG h (fE as) (fE bs)=some (fE (as++bs)):=by
 unfold fE;rw[cw];exact aL (by simp only[aj];lia)
inductive uG (ks:List Rk):PV->Prop
 | bB:uG ks .bB
 | int (i:Int):uG ks (.int i)
 | str (y:Str) (h:(y,Kn.ow .num)∈ks):uG ks (.str y)
noncomputable def Fi:PV->List b6
 | .str y=>[⟨"read",y,false,0,1,""⟩]
 | _=>[]
theorem vK{F:PV}{ks:List Rk}(hF:sX F ks)(k:Nat)(hk:3<=k)(x:Str)(c:Bool)(p:List Int){a:PV}(d:uG ks a):Gives (run txt (k+5) "at_acts" [F,LI x c p a] []) (fE (Fi a)):=by
 rw[AS];cases d with
 | bB=>exact gV (sv (iT (nB (tR (p:=.bl false) (by rfl) rfl)) (rS rfl))) rfl
 | int i=>exact gV (sv (iT (nB (tR (p:=.bl false) (by rfl) rfl)) (rS rfl))) rfl
 | str y h =>
  have b:=eM hF k hk "read" "" h ⟨by simp[bN,tab],by simp[bN,dp]⟩
  have e:tA "read" y (.ow .num) ([],0,sz (bN (.ow .num)),bN (.ow .num)) ""=⟨"read",y,false,0,1,""⟩:=by
   simp[tA,d9,bN,sz,lv]
  rw[e]at b;exact gV (sq (iF (nB (tR (p:=.bl true) (by rfl) rfl)) rfl) (rS (lS (cA (da (cA rfl (cA rfl (cA (b2 rfl rfl rfl) (cA rfl rfl)))) rfl rfl b) rfl) (by show 1<=4000000;decide)))) rfl
structure Sp where
 x:Str
 d:Kn
 r:Rw
 a:PV
def bF(s:Sp):PV:=LI s.x (d9 s.d) s.r.1 s.a
structure cC (ks:List Rk) (s:Sp):Prop where
 mem:(s.x,s.d)∈ks
 ok:yt (bN s.d)
 row:s.r∈tab (bN s.d)
 at_:uG ks s.a
def k0(w:Str)(s:Sp)(t:Str):b6:=tA w s.x s.d s.r t
inductive Op where
 | n (i:Int) | s (s:Sp)
def gq:Op->PV
 | .n i=>.int i
 | .s s=>bF s
def eW(ks:List Rk):Op->Prop
 | .n _=>True
 | .s s=>cC ks s
def m4:Op->List b6
 | .n _=>[]
 | .s s=>Fi s.a++[k0 "read" s ""]
theorem yu(a:PV):(Fi a).length<=1:=by
 unfold Fi;split<;>simp
theorem fD{F:PV}{ks:List Rk}(hF:sX F ks)(k:Nat)(hk:3<=k){o:Op}(ho:eW ks o):Gives (run txt (k+6) "operand_acts" [F,gq o] []) (fE (m4 o)):=by
 rw[oG];cases o with
 | n i=>exact gV (sv (iT (nB (tR (p:=.bl false) (by rfl) rfl)) (rS rfl))) rfl
 | s s =>
  obtain⟨b,c,e,f⟩:=ho;have e1:=vK hF k hk s.x (d9 s.d) s.r.1 f;have g:=fQ hF (k+2) (by lia) "read" "" b c e s.a
  have h:=yu s.a;exact gV (sq (iF (nB (tR (p:=.bl true) (by rfl) rfl)) rfl) (rS (b2 (da (cA rfl (cA rfl rfl)) rfl rfl e1) (lS (cA (da (cA rfl (cA rfl (cA rfl (cA rfl rfl)))) rfl rfl g) rfl) (by simp)) (lE (Fi s.a) [k0 "read" s ""] [] (by simp;lia))))) (DL _)
def sY(s:Sp):List b6:=match s.a with
 | .bB=>[k0 "fill" s ""]
 | a=>Fi a++[k0 "turn" s ""]
theorem lr{F:PV}{ks:List Rk}(hF:sX F ks)(k:Nat)(hk:3<=k){s:Sp}(g:cC ks s):Gives (run txt (k+6) "target_acts" [F,bF s] []) (fE (sY s)):=by
 rw[pY];obtain⟨b,c,e,f⟩:=g;have e1:=vK hF k hk s.x (d9 s.d) s.r.1 f;have j:=fQ hF (k+2) (by lia) "fill" "" b c e s.a
 have l:=fQ hF (k+2) (by lia) "turn" "" b c e s.a
 obtain⟨x,d,r,a⟩:=s;have m:=yu a;have lQ:∀(z:YS [] a .bB=some (.bl false)) (q:sY ⟨x,d,r,a⟩=Fi a++[k0 "turn" ⟨x,d,r,a⟩ ""]),Gives (dP (lj (run txt (k+5))) 2 [F,bF ⟨x,d,r,a⟩] []) (fE (sY ⟨x,d,r,a⟩)):=by
  intro z q;rw[q];exact gV (sq (iF (bT (b2 (b2 rfl rfl rfl) rfl z)) rfl) (rS (b2 (da (cA rfl (cA rfl rfl)) rfl rfl e1) (lS (cA (da (cA rfl (cA rfl (cA rfl (cA rfl rfl)))) rfl rfl l) rfl) (by simp)) (lE (Fi a) [k0 "turn" ⟨x,d,r,a⟩ ""] [] (by simp;lia))))) (DL _)
 cases f with
 | bB=>exact gV (sv (iT (bT (b2 (b2 rfl rfl rfl) rfl rfl)) (rS (lS (cA (da (cA rfl (cA rfl (cA rfl (cA rfl rfl)))) rfl rfl j) rfl) (by show 1<=4000000;decide))))) rfl
 | int i=>exact lQ rfl rfl
 | str y h=>exact lQ rfl rfl
theorem l7(o:Op):(m4 o).length<=2:=by
 cases o with
 | n i=>simp[m4]
 | s s=>have:=yu s.a;simp[m4];lia
theorem yv(s:Sp):(sY s).length<=2:=by
 unfold sY;split
 ·simp
 ·rename_i a _;have:=yu s.a;simp
  lia
section
variable {F:PV} {ks:List Rk} (hF:sX F ks) (k:Nat) (hk:3<=k)
include hF hk
theorem DM(w:Str){s:Sp}(a:cC ks s){o:Op}(ho:eW ks o):Gives (run txt (k+7) "put_acts" [F,.aq [.str w,bF s,gq o]] []) (fE (m4 o++sY s)):=by
 rw[yh];have b:=fD hF k hk ho;have c:=lr hF k hk a;have d:=l7 o;have e:=yv s;exact gV (rS (b2 (da (cA rfl (cA (b2 rfl rfl rfl) rfl)) rfl rfl b) (da (cA rfl (cA (b2 rfl rfl rfl) rfl)) rfl rfl c) (lE _ _ _ (by lia)))) (DL _)
theorem DN(w:Str){s:Sp}(c:cC ks s)(q:PV){a b:Op}(d:eW ks a)(e:eW ks b):Gives (run txt (k+7) "set_acts" [F,.aq [.str w,bF s,q,gq a,gq b]] []) (fE (m4 a++m4 b++sY s)):=by
 rw[yi];have f:=fD hF k hk d;have g:=fD hF k hk e;have h:=lr hF k hk c;have i:=l7 a;have j:=l7 b;have l:=yv s;exact gV (rS (b2 (b2 (da (cA rfl (cA (b2 rfl rfl rfl) rfl)) rfl rfl f) (da (cA rfl (cA (b2 rfl rfl rfl) rfl)) rfl rfl g) (lE _ _ _ (by lia))) (da (cA rfl (cA (b2 rfl rfl rfl) rfl)) rfl rfl h) (lE _ _ _ (by rw[aV];lia)))) (DL _)
theorem DO(w:Str){a:Op}(b:eW ks a):Gives (run txt (k+7) "say_acts" [F,.aq [.str w,gq a]] []) (fE (m4 a)):=by
 rw[yj];have c:=fD hF k hk b;exact gV (rS (da (cA rfl (cA (b2 rfl rfl rfl) rfl)) rfl rfl c)) (DL _)
omit hF hk in
theorem yw(w:Str):Gives (run txt (k+7) "give_acts" [F,.aq [.str w,.str ""]] []) (fE []):=by
 rw[ll];exact gV (sv (iT (bT (b2 (b2 rfl rfl rfl) rfl (show j5 [] (.str "") (.str "")=some (.bl true) by kernel_rfl))) (rS rfl))) rfl
theorem A0(w:Str){s t:Sp}(b:cC ks s)(ht:cC ks t):Gives (run txt (k+7) "copy_acts" [F,.aq [.str w,bF s,bF t]] []) (fE [k0 "read" t "",k0 "fill" s ""]):=by
 rw[uy];have c:=fQ hF (k+3) (by lia) "read" "" ht.mem ht.ok ht.row t.a
 have d:=fQ hF (k+3) (by lia) "fill" "" b.mem b.ok b.row s.a
 exact gV (rS (lS (cA (da (cA rfl (cA rfl (cA (b2 rfl rfl rfl) (cA rfl rfl)))) rfl rfl c) (cA (da (cA rfl (cA rfl (cA (b2 rfl rfl rfl) (cA rfl rfl)))) rfl rfl d) rfl)) (by simp))) rfl
theorem A1(w:Str){s t:Sp}(b:cC ks s)(ht:cC ks t):Gives (run txt (k+7) "move_acts" [F,.aq [.str w,bF s,bF t]] []) (fE [k0 "empty" t "",k0 "fill" s ""]):=by
 rw[uz];have c:=fQ hF (k+3) (by lia) "empty" "" ht.mem ht.ok ht.row t.a
 have d:=fQ hF (k+3) (by lia) "fill" "" b.mem b.ok b.row s.a
 exact gV (rS (lS (cA (da (cA rfl (cA rfl (cA (b2 rfl rfl rfl) (cA rfl rfl)))) rfl rfl c) (cA (da (cA rfl (cA rfl (cA (b2 rfl rfl rfl) (cA rfl rfl)))) rfl rfl d) rfl)) (by simp))) rfl
theorem A2(w:Str){s:Sp}(b:cC ks s):Gives (run txt (k+7) "drop_acts" [F,.aq [.str w,bF s]] []) (fE [k0 "empty" s ""]):=by
 rw[uA];have c:=fQ hF (k+3) (by lia) "empty" "" b.mem b.ok b.row s.a
 exact gV (rS (lS (cA (da (cA rfl (cA rfl (cA (b2 rfl rfl rfl) (cA rfl rfl)))) rfl rfl c) rfl) (by simp))) rfl
theorem A3(w t:Str){s:Sp}(b:cC ks s):Gives (run txt (k+7) "lend_acts" [F,.aq [.str w,.str t,bF s]] []) (fE [k0 w s t]):=by
 rw[uB];have c:=fQ hF (k+3) (by lia) w t b.mem b.ok b.row s.a
 exact gV (rS (lS (cA (da (cA rfl (cA (b2 rfl rfl rfl) (cA (b2 rfl rfl rfl) (cA (b2 rfl rfl rfl) rfl)))) rfl rfl c) rfl) (by simp))) rfl
end
noncomputable def jM:Sh->Bool
 | .own=>true
 | _=>false
abbrev oP:PV:=.aq [.str "own"]
mutual
def vL:Sh->Tr
 | .num=>.aq [.str "num"]
 | .own=>.aq [.str "own"]
 | .bL n=>.aq [.str "strip",.int n]
 | .bt a=>.aq [.str "rec",.aq (m6 a)]
def m6:List Sh->List Tr
 | []=>[]
 | s::l=>vL s::m6 l
end
mutual
theorem toT_enc(h:List ak):∀(s:Sh) (n:Nat),2*dp s+2<n->toT h n (enc s)=some (vL s)
 | .num,n+3,_=>rfl
 | .own,n+3,_=>rfl
 | .bL _,n+3,_=>rfl
 | .bt b,n+3,a=>by
  have:=toT_encs h b (n+1) (by simp only[dp]at a;lia)
  have e1:toT h (n+2) (.str "rec")=some (.str "rec"):=rfl;have c:toT h (n+2) (.aq (bX b))=some (.aq (m6 b)):=by
   show((cb (toT h (n+1)) (bX b)).bind (JS .aq))=_;rw[this];rfl
  show((cb (toT h (n+2)) [.str "rec",.aq (bX b)]).bind (JS .aq))=_;simp only[cb,e1,c,cW,gh,vL,JS]
 | .num,0,a=>by lia
 | .num,1,a=>by lia
 | .num,2,a=>by lia
 | .own,0,a=>by lia
 | .own,1,a=>by lia
 | .own,2,a=>by lia
 | .bL _,0,a=>by lia
 | .bL _,1,a=>by lia
 | .bL _,2,a=>by lia
 | .bt _,0,a=>by lia
 | .bt _,1,a=>by lia
 | .bt _,2,a=>by lia
theorem toT_encs(h:List ak):∀(l:List Sh) (n:Nat),2*oY l+2<n->cb (toT h n) (bX l)=some (m6 l)
 | [],_,_=>rfl
 | s::l,n,a=>by
  simp only[oY]at a;have b:=toT_enc h s n (by lia)
  have c:=toT_encs h l n (by lia)
  simp only[bX,cb,b,c,cW,gh,m6]
end
theorem VZ(s:Sh):eqT (vL s) (.aq [.str "own"])=jM s:=by
 cases s with
 | bt a=>show((Str.ofString "rec"==Str.ofString "own")&&mz [.aq (m6 a)] [])=false;rw[show(Str.ofString "rec"==Str.ofString "own")=false by decide +kernel];rfl
 | num=>decide +kernel
 | own=>decide +kernel
 | bL n=>show((Str.ofString "strip"==Str.ofString "own")&&mz [.int n] [])=false;rw[show(Str.ofString "strip"==Str.ofString "own")=false by decide +kernel];rfl
theorem yx:∀l:List Sh,((m6 l).any λy=>eqT y (.aq [.str "own"]))=l.any jM
 | []=>rfl
 | s::l=>by rw[m6,ji,ji,yx l,VZ]
def Fj(s:Sh):Bool:=!(lv s).any jM
theorem m7:∀{l:List Sh},(∀x∈l,iE x=true)->oY l=0
 | [],_=>rfl
 | s::l,h=>by
  have b:=(Du (h s aJ)).2;have c:=m7 λx a=>h x (aH _ a)
  simp only[oY]
  lia
theorem V0(s:Sh):jK true [] oP (.aq (bX (lv s)))=some (.bl (Fj s)):=by
 have hd:=m7 (qo s);have e:=toT_encs [] (lv s) eH (by rw[hd];decide)
 have a:Ik [] oP (bX (lv s))=some ((lv s).any jM):=by
  unfold Ik;rw[e,show toT [] eH oP=some (.aq [.str "own"])from rfl,<-yx]
  rfl
 have e1:jK true [] oP (.aq (bX (lv s)))=(Ik [] oP (bX (lv s))).map λb=>.bl (if true=true then !b else b):=rfl
 rw[e1,a];unfold Fj;cases(lv s).any jM<;>rfl
def oW(s:Sh):Str:=if Fj s=true then "read" else "empty"
abbrev yy(s:Sh):Rw:=([],0,sz s,s)
def V1(x:Str)(d:Kn)(t:Str):b6:=match d with
 | .ow s=>tA (oW s) x (.ow s) (yy s) ""
 | .ho b s=>tA (if b=true then "sole" else "lend") x (.ho b s) (yy s) t
def gvA(x:Str)(d:Kn):b6:=match d with
 | .ow s=>tA (oW s) x (.ow s) (yy s) ""
 | .ho b s=>tA "give" x (.ho b s) (yy s) ""
theorem A4(k:Nat)(s:Sh)(hd:dp s<=k)(hz:(lv s).length<=4000000):Gives (run txt (k+2) "is_copied" [enc s] []) (.bl (Fj s)):=by
 rw[uv];have h:=dY.all LA s k hd hz;exact gV (rS (b2 (tU (cA rfl rfl) (by simp)) (da (cA rfl rfl) rfl rfl h) (V0 s))) rfl
section
variable {F:PV} {ks:List Rk} (hF:sX F ks) (k:Nat) (hk:3<=k)
include hF hk
theorem pz{x:Str}{s:Sh}(b:(x,Kn.ow s)∈ks)(a:yt s):Gives (run txt (k+5) "owner_act" [F,.str x] []) (kZ (tA (oW s) x (.ow s) (yy s) "")):=by
 rw[uD];have c:=hF (k+3) _ b;have f:=vy s;have d:=A4 (k+2) s (by have:=a.2;lia) (by have:=a.1;lia)
 have e:=eM hF k hk (oW s) "" b a;have hw:Ek (dQ (gO (bnd (ao (bnd Qb (bK 0 2 (run txt (k+4) "kind_of"))) (aW [])) (bK 0 1 (run txt (k+4) "is_copied")))) (aW (PV.str "read")) (aW (PV.str "empty"))) (S0 [some F,some (.str x)]) (PV.str (oW s)):=by
  refine eI (tR (da (cA (da (cA rfl (cA rfl rfl)) rfl rfl c) rfl) rfl rfl d) rfl) ?_;unfold oW;cases Fj s<;>rfl
 exact gV (rS (da (cA rfl (cA hw (cA rfl (cA rfl rfl)))) rfl rfl e)) rfl
theorem HC{x:Str}{d:Kn}(a:(x,d)∈ks)(e:yt (bN d))(t:Str):Gives (run txt (k+6) "arg_act" [F,.str x,.str t] []) (kZ (V1 x d t)):=by
 rw[AU];have h:=hF (k+4) _ a;have i:=fj (k+4) d;have f:Ev (dc (bnd Qb (bK 0 2 (run txt (k+5) "kind_of"))) (aU 3)) (S0 [some F,some (.str x),some (.str t),none]) .nx (S0 [some F,some (.str x),some (.str t),some (encK d)]):=aS (da (cA rfl (cA rfl rfl)) rfl rfl h) rfl;have g:Ek (CS (gO (bnd Q6 (bK 0 1 (run txt (k+5) "is_holder"))))) (S0 [some F,some (.str x),some (.str t),some (encK d)]) (!d9 d):=nB (tR (da (cA rfl rfl) rfl rfl i) rfl);cases d with
 | ow s =>
  have c:=pz hF k hk a e;exact gV (sq f (sv (iT g (rS (da (cA rfl (cA rfl rfl)) rfl rfl c))))) rfl
 | ho b s =>
  have c:=eM hF (k+1) (by lia) (if b=true then "sole" else "lend") t a e
  have hw:Ek (dQ (toB (op2 j5 (op2 bQ (rd 3) (kI 0)) (aW (PV.str "lent")))) (aW (PV.str "lend")) (aW (PV.str "sole"))) (S0 [some F,some (.str x),some (.str t),some (encK (.ho b s))]) (PV.str (if b=true then "sole" else "lend")):=by
   cases b with
   | false=>exact iT (bT (b2 (b2 rfl rfl rfl) rfl (show j5 [] (.str (hw false)) (.str "lent")=some (.bl true) by kernel_rfl))) rfl
   | true=>exact iF (bT (b2 (b2 rfl rfl rfl) rfl (show j5 [] (.str (hw true)) (.str "lent")=some (.bl false) by kernel_rfl))) rfl
  exact gV (sq f (sq (iF g rfl) (rS (da (cA rfl (cA hw (cA rfl (cA rfl rfl)))) rfl rfl c)))) rfl
theorem A5(w:Str){x:Str}{d:Kn}(a:(x,d)∈ks)(f:yt (bN d))(c:(x==(Str.ofString ""))=false):Gives (run txt (k+7) "give_acts" [F,.aq [.str w,.str x]] []) (fE [gvA x d]):=by
 rw[ll];have i:=hF (k+5) _ a;have j:=fj (k+5) d;have g:Ek Qo (S0 [some F,some (.aq [.str w,.str x])]) false:=by
  refine bT (b2 (b2 rfl rfl rfl) rfl ?_);rw[eU,c]
 have h:Ek (gO (bnd (ao (bnd Qz (bK 0 2 (run txt (k+6) "kind_of"))) (aW [])) (bK 0 1 (run txt (k+6) "is_holder")))) (S0 [some F,some (.aq [.str w,.str x])]) (d9 d):=tR (da (cA (da (cA rfl (cA (b2 rfl rfl rfl) rfl)) rfl rfl i) rfl) rfl rfl j) rfl;cases d with
 | ow s =>
  have e:=pz hF (k+1) (by lia) a f
  exact gV (sq (iF g rfl) (sq (iF h rfl) (rS (lS (cA (da (cA rfl (cA (b2 rfl rfl rfl) rfl)) rfl rfl e) rfl) (by simp))))) rfl
 | ho b s =>
  have e:=eM hF (k+2) (by lia) "give" "" a f
  exact gV (sq (iF g rfl) (sv (iT h (rS (lS (cA (da (cA rfl (cA rfl (cA (b2 rfl rfl rfl) (cA rfl rfl)))) rfl rfl e) rfl) (by simp)))))) rfl
end
noncomputable abbrev sI(i:Nat):Str:=Str.ofString (toString (i:Int))
def jx:Nat->List Rk->List b6
 | _,[]=>[]
 | i,r::l=>V1 r.1 r.2 (sI i)::jx (i+1) l
theorem sZ:∀(l:List Rk) (i:Nat),(jx i l).length=l.length
 | [],_=>rfl
 | r::l,i=>by simp[jx,sZ l]
def p0:Option Rk->List b6
 | none=>[]
 | some (x,.ow s)=>[tA "fill" x (.ow s) (yy s) ""]
 | some (x,.ho _ _)=>[⟨"take","",false,0,0,x⟩]
def DP:Option Rk->Str
 | none=>""
 | some r=>r.1
def V2(ks:List Rk):Prop:=∀q∈ks,yt (bN q.2)
theorem aac(h:List ak)(i:Nat)(a:i<1000):GH h [.int (i:Int)]=some (.str (sI i)):=if_pos ⟨by lia,by lia⟩
theorem cF{bd:PV->List ak->Option (Option PV×List ak)}{h:List ak}{c:Type}{e G:c->PV}:∀l:List c,(∀a∈l,bd (e a) h=some (some (G a),h))->fg bd (l.map e) h=some (l.map G,h)
 | [],_=>rfl
 | a::l,H=>by
  show(bd (e a) h).bind _=_;rw[H a aJ];show(fg bd (l.map e) h).map _=_;rw[cF l λb d=>H b (aH _ d)]
  rfl
theorem cN{link:List (Option Nat)}{fi:Gx yW}{bd:Bd}{s s1:cy}{ps a:List PV}(b:Ev fi s (.sq ps) s1)(c:ps.length<=4000000)(d:fg (bd (bY link s1.ρ)) ps s1.h=some (a,s1.h)):Ev (dB true link fi bd) s (.ref s1.h.length) ⟨s1.ρ,s1.h++[⟨.lst,a⟩]⟩:=eB b (by
 show(if ps.length<=fL then fg _ ps s1.h else none).bind _=_
 rw[if_pos (show ps.length<=fL from c),d]
 rfl)
theorem Fl{h:List ak}{n:Nat}:∀ps:List PV,ai ps=true->cb (vf h n) ps=some ps
 | [],_=>rfl
 | p::ps,hp=>by
  simp only[ai,aR]at hp;have e:vf h n p=some p:=by cases n<;>(unfold vf;rw[if_pos hp.1])
  simp only[cb,e,Fl ps hp.2,cW,gh]
theorem l8{ps:List PV}{r:List ak}(hp:ai ps=true):mO (⟨.lst,ps⟩::r) (.ref 0)=some (.lst ps):=by
 unfold mO;rw[if_neg (by simp)]
 unfold vf;rw[if_neg (by simp[noRef])]
 show((cb (vf _ 3) ps).map _)=_;rw[Fl ps hp];rfl
theorem Fm{bd:PV->List ak->Option (Option PV×List ak)}{h:List ak}:∀(l:List Rk) (i:Nat),(∀r∈l,∀j:Nat,j<1000->bd (Aa (.int (j:Int)) (.str r.1)) h=some (some (kZ (V1 r.1 r.2 (sI j))),h))->i+l.length<=1000->fg bd (eJ i (l.map λr=>PV.str r.1)) h=some ((jx i l).map kZ,h)
 | [],_,_,_=>rfl
 | r::l,i,H,a=>by
  simp only[aN]at a;show(bd (Aa (.int (i:Int)) (.str r.1)) h).bind _=_;rw[H r aJ i (by lia)]
  show(fg bd (eJ (i+1) (l.map λr=>PV.str r.1)) h).map _=_
  rw[Fm l (i+1) (λq b=>H q (aH _ b)) (by lia)]
  rfl
theorem vM:∀(l:List PV) (i:Nat),(eJ i l).length=l.length
 | [],_=>rfl
 | a::l,i=>by simp[eJ,vM l]
theorem eV{a:Gx PV}{s s1:cy}{p:PV}{ps:List PV}(h:Ev a s p s1)(hp:uk p=some ps):Ev (vd a) s (eJ 0 ps) s1:=eB h (by show((uk p).map _).map _=_;rw[hp];rfl)
section
variable {F:PV} {ks:List Rk} (hF:sX F ks) (k:Nat) (hk:3<=k) (hN:noRef F=true)
include hF hk hN
theorem A6(w:Str)(fn:PV){a:List Rk}(u:∀r∈a,r∈ks)(ho:V2 ks)(R:a.length<=10){tk:Option Rk}(ht:∀r,tk=some r->r∈ks/\(r.1==(Str.ofString ""))=false):Gives (run txt (k+7) "call_acts" [F,.aq [.str w,.str (DP tk),fn,.aq (a.map λr=>.str r.1)]] []) (fE (jx 0 a++px::p0 tk)):=by
 rw[uC];obtain⟨p,hp⟩:∃p,p=PV.aq [.str w,.str (DP tk),fn,.aq (a.map λr=>.str r.1)]:=⟨_,rfl⟩
 have E:∀h,bQ h p (.int 3)=some (.aq (a.map λr=>.str r.1)):=λh=>by rw[hp];rfl
 have c:∀h,bQ h p (.int 1)=some (.str (DP tk)):=λh=>by rw[hp];rfl
 rw[<-hp];have H:=sZ a 0;have i:Ev (dc (dB true [none,none,none,some 0] (EJ (vd (op2 bQ (rd 1) (kI 3)))) (kR Qd (bnd (ao (rd 3) (ao (rd 2) (ao (gm GH Q1) (aW [])))) (bK 0 3 (run txt (k+6) "arg_act"))))) (aU 2)) (S0 [some F,some p,none]) .nx ⟨[some F,some p,some (.ref 0)],[⟨.lst,(jx 0 a).map kZ⟩]⟩:=by
  refine aS (cN (sG (eV (b2 rfl rfl (E _)) rfl)) (by rw[vM,aj];lia) (Fm a 0 (λr v j I=>?_) (by lia))) rfl
  have h:=HC hF k hk (u r v) (ho r (u r v)) (sI j);exact e1 rfl (da (cA rfl (cA rfl (cA (bV (cA rfl rfl) (aac _ j I)) rfl))) rfl rfl h)
 obtain⟨L,f⟩:∃L,L=(jx 0 a++[px]).map kZ:=⟨_,rfl⟩
 have J:L.length<=100:=by rw[f];simp[H];lia
 have l:Ev (fV (xE "list" (iB (gY xA)) (rd 2) (ao (aW (.aq [(.str "hand"),(.str ""),(.bl false),(.int 0),(.int 0),(.str "")])) (aW [])))) ⟨[some F,some p,some (.ref 0)],[⟨.lst,(jx 0 a).map kZ⟩]⟩ .nx ⟨[some F,some p,some (.ref 0)],[⟨.lst,L⟩]⟩:=by
  rw[f,cw];exact dS (yZ rfl rfl (cA rfl rfl) (aC rfl (by rw[aj];lia)))
 have y:Ek Qo ⟨[some F,some p,some (.ref 0)],[⟨.lst,L⟩]⟩ (DP tk==(Str.ofString "")):=bT (b2 (b2 rfl rfl (c _)) rfl (eU _ _ _));have m:ai L=true:=by rw[f];exact LJ _
 have g:∀q:b6,eG [⟨.lst,L⟩] (.ref 0) (.lst [kZ q])=some (fE (jx 0 a++px::[q])):=λq=>by
  have e:eG [⟨.lst,L⟩] (.ref 0) (.lst [kZ q])=sizeOk (L.length+1) (.lst (L++[kZ q])):=rfl;rw[e];refine(if_pos (show L.length+1<=fL from by have:fL=4000000:=rfl;lia)).trans ?_
  rw[f];simp[fE]
 cases tk with
 | none =>
  rw[show(DP none==(Str.ofString ""))=true by decide +kernel]at y
  refine⟨_,_,gz (sq i (sq l (sv (iT y (rS rfl))))),?_⟩;rw[l8 m,f];rfl
 | some r =>
  obtain⟨o,B⟩:=ht r rfl;obtain⟨x,d⟩:=r;have c:∀h,bQ h p (.int 1)=some (.str x):=c
  simp only at B;have C:Ek Qo ⟨[some F,some p,some (.ref 0)],[⟨.lst,L⟩]⟩ false:=bT (b2 (b2 rfl rfl (c _)) rfl (by rw[eU,B]))
  have M:=hF (k+5) _ o;have N:=fj (k+5) d;have t:ai [F,PV.str x]=true:=by simp[ai,hN,noRef]
  have D:Ek (gO (bnd (ao (bnd Qz (bK 0 2 (run txt (k+6) "kind_of"))) (aW [])) (bK 0 1 (run txt (k+6) "is_holder")))) ⟨[some F,some p,some (.ref 0)],[⟨.lst,L⟩]⟩ (d9 d):=tR (da (cA (da (cA rfl (cA (b2 rfl rfl (c _)) rfl)) rfl (by rw[t];rfl) M) rfl) rfl (by simp[ai,qt]) N) rfl
  cases d with
  | ho b s =>
   exact gV (sq i (sq l (sq (iF C rfl) (sv (iT D (rS (b2 rfl (lS (cA (tU (cA rfl (cA rfl (cA rfl (cA rfl (cA rfl (cA (b2 rfl rfl (c _)) rfl)))))) (by simp)) rfl) (by simp)) (g ⟨"take","",false,0,0,x⟩)))))))) (DL _)
  | ow s =>
   have Q:=eM hF (k+2) (by lia) "fill" "" o (ho _ o)
   exact gV (sq i (sq l (sq (iF C rfl) (sq (iF D rfl) (rS (b2 rfl (lS (cA (da (cA rfl (cA rfl (cA (b2 rfl rfl (c _)) (cA rfl rfl)))) rfl (by simp[ai,hN,noRef]) Q) rfl) (by simp)) (g (tA "fill" x (.ow s) (yy s) "")))))))) (DL _)
end
def jy(i:Nat)(a:b6):PV:=.aq [.int i,.str a.w,.str a.n,.bl a.t,.int a.f,.int a.m,.str a.k]
def bU:List b6->List b6
 | []=>[vJ]
 | a::r=>a::r
structure LM (c:CT) (F p:PV) (as:List b6):Prop where
 ex:∃w fn rest,p=.aq (.str w::rest)/\jm.lookup w=some fn/\VV.lookup fn=some 2/\Gives (c fn [F,p] []) (fE as)
 few:as.length<=20
 nr:noRef p=true
theorem RX{as:List b6}(h:as.length<=20):(bU as).length<=20:=by
 cases as with
 | nil=>simp[bU]
 | cons a r=>exact h
theorem clF{b:List (Str×Nat)}{tab:List (Str×Str)}{c:CT}{fk:Gx PV}{d:Gx (List PV)}{s s1 s2:cy}{w fn:Str}{n:Nat}{as:List PV}{q:PV}(hk:Ev fk s (.str w) s1)(h1:tab.lookup w=some fn)(e:b.lookup fn=some n)(f:Ev d s1 as s2)(g:as.length=n)(i:(s2.h.isEmpty || ai as)=true)(hc:Gives (c fn as []) q):Ev (Ak b c (Kt (λk=>(List.lookup k tab).map .fn) fk) d) s q s2:=by
 obtain⟨p,j,e1,l⟩:=hc;refine eB (eB hk (show(j3 ((UZ (.str w)).bind λk=>(List.lookup k tab).map PV.fn)) s1=some (.ok (.fn fn),s1)from ?_)) (eB (a:=(fn,n)) ?_ (eB f ?_))
 ·show((List.lookup w tab).map PV.fn).map _=_;rw[h1];rfl
 ·show((b.lookup fn).map _).map _=_;rw[e];rfl
 ·unfold ou;rw[if_pos ⟨g,i⟩,e1];show(mO j p).map _=_;rw[l];rfl
theorem mkN(i:Nat)(a:b6)(h:List ak):eG h (.aq [.int (i:Int)]) (kZ a)=some (jy i a):=aT (by simp)
theorem HE{c:CT}{F p:PV}{as:List b6}(hN:noRef F=true)(M:LM c F p as)(i:Nat)(b:List PV)(t:b.length<=90000)(d e f:Option PV):Ev (sM c) ⟨[d,e,some F,some (.ref 0),some (.int (i:Int)),some p,f],[⟨.lst,b⟩]⟩ .nx ⟨[d,e,some F,some (.ref 0),some (.int (i:Int)),some p,some (fE as)],[⟨.lst,b++(bU as).map (jy i)⟩]⟩:=by
 obtain⟨w,fn,rest,rfl,g,j,k⟩:=M.ex;have l:=M.few;have m:=M.nr;have o:∀h,bQ h (.aq (.str w::rest)) (.int 0)=some (.str w):=λh=>(show bQ h (.aq (.str w::rest)) (.int 0)=L2.lb (PV.str w::rest) ((0:Nat):Int)from rfl).trans (atI_nat rfl)
 refine sq (aS (clF (b2 rfl rfl (o _)) g j (cA rfl (cA rfl rfl)) rfl (by simp[ai,hN,m]) k) rfl) ?_
 have ho:Ek Qc ⟨[d,e,some F,some (.ref 0),some (.int (i:Int)),some (.aq (.str w::rest)),some (fE as)],[⟨.lst,b⟩]⟩ (fE (bU as)):=by
  cases as with
  | nil=>rfl
  | cons a r=>rfl
 have q:=RX l;exact dS (yZ rfl rfl (cA (cM (sV ho rfl) (by lia) λa _=>e1 rfl (b2 (tU (cA rfl rfl) (by simp)) rfl (mkN i a _))) rfl) (xC rfl rfl (by rw[aj];lia)))
def td:Nat->List (List b6)->List PV
 | _,[]=>[]
 | i,as::r=>(bU as).map (jy i)++td (i+1) r
theorem vO{c:CT}{F:PV}(hN:noRef F=true)(f g:Option PV):∀(L:List (PV×List b6)) (i:Nat) (a:List PV) (j k d:Option PV),(∀q∈L,LM c F q.1 q.2)->a.length+20*L.length<=90000 ->
  ∃l m b,dm (iR 2 Q7) (sM c) (eJ i (L.map (·.1))) ⟨[f,g,some F,some (.ref 0),j,k,d],[⟨.lst,a⟩]⟩=some (.ok .nx,⟨[f,g,some F,some (.ref 0),l,m,b],[⟨.lst,a++td i (L.map (·.2))⟩]⟩)
 | [],i,a,j,k,d,_,_=>⟨j,k,d,by simp[td];rfl⟩
 | (p,as)::L,i,a,j,k,d,h,o=>by
  have M:=h (p,as) aJ;have r:=RX (as:=as) M.few;simp only[aN]at o;obtain⟨l,m,b,e⟩:=vO hN f g L (i+1) (a++(bU as).map (jy i)) (some (.int (i:Int))) (some p) (some (fE as)) (λq t=>h q (aH _ t)) (by rw[aV,aj];lia)
  refine⟨l,m,b,?_⟩;rw[dG]at e;exact fC rfl (HE hN M i a (by lia) f g d) e
theorem A7:∀(L:List (List b6)) (i:Nat),∀p∈td i L,∃j a,p=jy j a
 | [],i,p,h=>by simp[td]at h
 | as::L,i,p,h=>by
  rw[td,bA]at h;rcases h with h | h
  ·obtain⟨a,_,rfl⟩:=au.mp h;exact⟨i,a,rfl⟩
  ·exact A7 L (i+1) p h
theorem V3(L:List (List b6))(i:Nat):ai (td i L)=true:=by
 have:∀l:List PV,(∀p∈l,noRef p=true)->ai l=true:=λl=>by
  induction l with
  | nil=>intro _;rfl
  | cons p l ih=>intro h;simp[ai,h p aJ,ih λq b=>h q (aH _ b)]
 exact this _ λp hp=>by
  obtain⟨j,a,rfl⟩:=A7 L i p hp;rfl
theorem V4{P F:PV}{at_:Int}{a b d e:PV}{L:List (PV×List b6)}(k:Nat)(c:∀h,bQ h P (.int at_)=some F)(hF:F=.aq [a,b,d,e,.aq (L.map (·.1))])(hN:noRef F=true)(f:∀q∈L,LM (run txt k) F q.1 q.2)(j:L.length<=1000):Gives (run txt (k+1) "acts" [P,.int at_] []) (.lst (td 0 (L.map (·.2)))):=by
 rw[LB];obtain⟨l,m,g,q⟩:=vO hN (some P) (some (.int at_)) L 0 [] none none none f (by simp;lia)
 have i:∀h,bQ h F (.int 4)=some (.aq (L.map (·.1))):=λh=>by rw[hF];rfl
 refine⟨_,_,gz (sq (aS (b2 rfl rfl (c _)) rfl) (sq rfl (sq (fS (sG (eV (b2 rfl rfl (i _)) rfl)) q) (rS rfl)))),?_⟩;exact l8 (V3 _ _)
theorem DQ{h:List ak}{n:Nat}{ps:List PV}(hc:h[n]?=some ⟨.lst,ps⟩)(hp:ai ps=true):mO h (.ref n)=some (.lst ps):=by
 have b:h.isEmpty=false:=by
  cases h with
  | nil=>simp at hc
  | cons a r=>rfl
 unfold mO;rw[b,if_neg dh];unfold vf;rw[if_neg (by simp[noRef])]
 show((h[n]?).bind _)=_;rw[hc,cW];show(if live ⟨.lst,ps⟩=true then(cb (vf h 3) ps).map (PV.nd .lst)else none)=_
 rw[if_pos (show live ⟨.lst,ps⟩=true from rfl),Fl ps hp]
 rfl
theorem yz:∀t:dM,ai (t.map toldP)=true
 | []=>rfl
 | q::t=>by
  have:noRef (toldP q)=true:=by
   have h:∀l:List bh,ai (l.map oy++[.int q.2])=true:=λl=>by
    induction l with
    | nil=>rfl
    | cons k l ih=>simp only[aM,qP,ai,Lw,ih,Bool.and_self]
   simpa[toldP,noRef]using h q.1
  simp[ai,this,yz t]
theorem LN{c:CT}{b:(PV->Gx PV)->Nat->oo}{fe fb:Gx PV}{link:List (Option Nat)}{s s1:cy}{p:PV}{fk:List (List bh)}{res:dM}{d:List bh->Option (List (List bh))}(h:Ev fe s p s1)(hp:p=.lst (fk.map dD)\/∃j,p=.ref j/\s1.h[j]?=some ⟨.lst,fk.map dD⟩)
  (hc:c "tell_new"=dP AJ 5) (l:∀ω n,b ω n=dP (VT c ω n) 5) (hk:∀f∈fk,f.length<1000) (m:fk.length<4000000) (o:gA d vD 0 (dq [] (-1) fk)=some res)
  (i:∀g fs,d g=some fs->(∀f∈fs,f.length<1000)/\∀a,∃yb,fb ⟨some (dD g)::bY link s1.ρ,hS (s1.h++[mP]) a⟩=some (.ok (.lst (fs.map dD)),⟨yb,hS (s1.h++[mP]) a⟩)) :
  Ev (G7 b fe fb link) s (.ref (s1.h.length+1)) ⟨s1.ρ,hS (s1.h++[mP]) res⟩:=by
 refine eB h ?_;have hd:(s1.h++[mP]).length=s1.h.length+1:=by simp
 have r:=Pu (ω:=O0 fb (bY link s1.ρ)) (n:=s1.h.length) hc (λg fs e=>⟨(i g fs e).1,λa ρ=>by
  obtain⟨yb,q⟩:=(i g fs e).2 a;show(fb ⟨some (dD g)::bY link s1.ρ,hS (s1.h++[mP]) a⟩).bind _=_;rw[q];rfl⟩) (hp.imp id λ⟨j,t,k⟩=>⟨j,t,by rw[c5 (bj.mp k).1];exact k⟩) hk m o
 show(b (O0 fb (bY link s1.ρ)) s1.h.length [p,.ref s1.h.length] (s1.h++[mP])).map _=_;rw[l,r,hd];rfl
def kN(n:Nat):List bh:=[.inl (n:Int)]
def iN(n:Nat):PV:=.int (n:Int)
def nT(l:List Nat):PV:=.aq (l.map iN)
structure V5 (ls:List (List Nat)) (N:Nat):Prop where
 len:ls.length=N
 ok:∀l∈ls,l.length<=2/\∀m∈l,m<N
 pos:0<N
 few:N<128
def A8(a:List (List Nat)):List bh->Option (List (List bh))
 | [.inl i]=>if 0<=i then(a[i.toNat]?).map λl=>l.map kN else none
 | _=>none
theorem Fo{a:List (List Nat)}{n:Nat}{l:List Nat}(b:a[n]?=some l):A8 a (kN n)=some (l.map kN):=by
 show(if(0:Int)<=(n:Int)then(a[(n:Int).toNat]?).map _ else none)=_
 rw[if_pos (by lia),gE,b]
 rfl
theorem yA{a b:Nat}(h:kN a=kN b):a=b:=by
 unfold kN at h;injection h with h _
 injection h with h
 exact Int.ofNat.inj h
theorem Fp(k:Nat):run txt (k+1) "tell_new"=dP AJ 5:=yf k
theorem LO(k:Nat)(ω:PV->Gx PV)(n:Nat):dP (VF txt mX (run txt k) ω n) 5=dP (VT (run txt k) ω n) 5:=by
 rw[DJ];rfl
theorem LP{a:List (List Nat)}{N:Nat}(H:V5 a N)(hd:List ak)(g:List bh)(fs:List (List bh))(e:A8 a g=some fs):(∀f∈fs,f.length<1000)/\∀b,∃yb,Qj ⟨some (dD g)::[some (.lst (a.map nT))],hS hd b⟩=some (.ok (.lst (fs.map dD)),⟨yb,hS hd b⟩):=by
 unfold A8 at e;split at e
 ·rename_i i;obtain⟨c,e⟩:=bM e;obtain⟨l,h1,rfl⟩:=aZ e;refine⟨λf d=>?_,λb=>⟨some (dD [.inl i])::[some (.lst (a.map nT))],?_⟩⟩
  ·obtain⟨m,_,rfl⟩:=au.mp d;show 1<1000
   lia
  ·have k:=(H.ok l (cH h1)).1;have j:∀h,bQ h (.lst (a.map nT)) (.int i)=some (nT l):=λh=>by
    have:=atI_nat (v:=nT l) (by rw[bz,h1];rfl)
    rw[lF c]at this;exact this
   have r:=cM (link:=[none,none]) (bd:=kR (aU 1) (kO .aq Q1)) (s:=⟨some (dD [.inl i])::[some (.lst (a.map nT))],hS hd b⟩) (e:=iN) (G:=λm=>dD (kN m)) (fi:=iY Q5) (sV (p:=nT l) (b2 (x:=.lst (a.map nT)) (y:=.int i) rfl (b2 rfl rfl rfl) (j _)) rfl) (by lia) (λm _=>e1 (C4:=[none,some (iN m)]) (h1:=hS hd b) rfl (tU (cA rfl rfl) (show 1<=4000000 by decide)))
   rw[cJ];exact r
 ·cases e
theorem DR{o:List (List Nat)}{N:Nat}(H:V5 o N):∃(c:dM) (d:List Nat),(∀k,Gives (run txt (k+2) "arrivals" [.lst (o.map nT)] []) (.lst (c.map toldP)))/\c.map (·.1)=d.map kN/\d.Nodup/\(∀n∈d,n<N)/\Pr (A8 o) [kN 0] c/\Dx (A8 o) c c.length/\0∈d:=by
 have y:∀g∈(List.range N).map kN,∃fs,A8 o g=some fs/\(∀f∈fs,f∈(List.range N).map kN)/\fs.length<=2:=λg q=>by
  obtain⟨n,p,rfl⟩:=au.mp q;rw[c7]at p;obtain⟨l,v⟩:∃l,o[n]?=some l:=⟨_,bC (by rw[H.len];exact p)⟩
  obtain⟨B,C⟩:=H.ok l (cH v);refine⟨_,Fo v,λf i=>?_,by rw[aj];exact B⟩
  obtain⟨m,u,rfl⟩:=au.mp i;exact au.mpr ⟨m,c7.mpr (C m u),rfl⟩
 have w:((List.range N).map kN).length=N:=by simp
 have i:=H.few;obtain⟨c,D,x,E,I,J,L⟩:=sH (A8 o) [kN 0] ((List.range N).map kN) 2 (by rw[w];show N+2<4000000;lia) (by rw[w];show N<3000000;lia) y (λf i=>by
  rw[aD]at i;subst i;exact au.mpr ⟨0,c7.mpr H.pos,rfl⟩)
 have j:∀f∈c.map (·.1),∃n,n<N/\f=kN n:=λf i=>by
  obtain⟨t,ht,rfl⟩:=au.mp i;obtain⟨n,p,e⟩:=au.mp (E t ht);exact⟨n,c7.mp p,e.symm⟩
 obtain⟨d,e1,M⟩:∃d:List Nat,c.map (·.1)=d.map kN/\∀n∈d,n<N:=by
  revert j
  generalize c.map (·.1)=fs
  intro j;induction fs with
  | nil=>exact⟨[],rfl,λ_ z=>nomatch z⟩
  | cons f fs ih =>
   obtain⟨n,p,rfl⟩:=j f aJ;obtain⟨d,Q,R⟩:=ih λg q=>j g (aH _ q)
   exact⟨n::d,by rw[aM,Q],λm u=>(aK.mp u).elim (λz=>by rw[z];exact p) (R m)⟩
 refine⟨c,d,?_,e1,?_,M,I,J,?_⟩
 ·intro k;rw[yg];have r:=LN (fe:=kO .lst Qn) (link:=[some 0]) (s1:=S0 [some (.lst (o.map nT))]) rfl (.inl rfl) (Fp k) (LO (k+1)) (λf i=>by rw[aD]at i;subst i;decide) (by decide) D (LP H _)
  exact⟨_,_,gz (rS r),DQ (VS) (yz c)⟩
 ·rw[e1]at x;exact List.Pairwise.imp (λ{a b} h z=>h (by rw[z])) (B4.mp x)
 ·have:=L (kN 0) (aD.mpr rfl);rw[e1]at this;obtain⟨n,p,e⟩:=au.mp this;rw[<-yA e];exact p
def eN(q:Nat×b6):PV:=jy q.1 q.2
def dn:Nat->List (List b6)->List (Nat×b6)
 | _,[]=>[]
 | i,as::r=>(bU as).map (λa=>(i,a))++dn (i+1) r
theorem m8:∀(L:List (List b6)) (i:Nat),td i L=(dn i L).map eN
 | [],_=>rfl
 | as::L,i=>by
  rw[td,dn,cw,cJ,m8 L (i+1)];rfl
theorem m9:∀(L:List (List b6)) (i:Nat),∀q∈dn i L,i<=q.1/\q.1<i+L.length
 | [],_,_,h=>nomatch h
 | as::L,i,q,h=>by
  rw[dn,bA]at h;rw[aN];rcases h with h | h
  ·obtain⟨a,_,rfl⟩:=au.mp h;show i<=i/\i<i+(L.length+1)
   lia
  ·have:=m9 L (i+1) q h
   lia
theorem tf:∀(L:List (List b6)) (i j:Nat),i<=j->j<i+L.length->∃a,(j,a)∈dn i L
 | [],_,_,d,b=>by simp at b;lia
 | as::L,i,j,d,b=>by
  rw[aN]at b;by_cases e:j=i
  ·subst e;obtain⟨a,c⟩:∃a,a∈bU as:=by
    cases as with
    | nil=>exact⟨vJ,aJ⟩
    | cons a r=>exact⟨a,aJ⟩
   exact⟨a,by rw[dn];exact gf _ (au.mpr ⟨a,c,rfl⟩)⟩
  ·obtain⟨a,c⟩:=tf L (i+1) j (by lia) (by lia)
   exact⟨a,by rw[dn];exact de _ c⟩
noncomputable def bG(kvs:List (bh×PV))(k:bh):Option PV:=(kvs.find? λa=>decide (a.1=k)).map (·.2)
def V6(N:Nat)(kvs:List (bh×PV)):Prop:=∀q∈kvs,∃m:Nat,q.2=.int (m:Int)/\m<N
theorem DS(kvs:List (bh×PV))(k:bh)(p:PV):(bG (kvs++[(k,p)]) k).isSome=true:=by
 unfold bG;rw[B5,List.find?_isSome];exact⟨(k,p),by simp,by simp⟩
theorem tj(kvs a:List (bh×PV))(k:bh)(h:(bG kvs k).isSome=true):(bG (kvs++a) k).isSome=true:=by
 unfold bG at h ⊢;rw[B5,List.find?_isSome]at h ⊢;obtain⟨x,b,c⟩:=h;exact⟨x,gf _ b,c⟩
theorem LQ{N:Nat}{kvs:List (bh×PV)}(h:V6 N kvs){k:bh}(hk:(bG kvs k).isSome=true):∃m:Nat,bG kvs k=some (.int (m:Int))/\m<N:=by
 unfold bG at hk ⊢;cases e:kvs.find? λa=>decide (a.1=k)with
 | none=>rw[e]at hk;cases hk
 | some q =>
  obtain⟨m,b,c⟩:=h q (List.mem_of_find?_eq_some e);exact⟨m,by rw[gh,b],c⟩
def gS:List (Nat×b6)->Nat->List (bh×PV)->List (bh×PV)
 | [],_,a=>a
 | (j,_)::as,i,a=>match bG a (.inl (j:Int))with
  | some _=>gS as (i+1) a
  | none=>gS as (i+1) (a++[(.inl (j:Int),.int (i:Int))])
noncomputable def dC(kvs:List (bh×PV)):ak:=⟨.eR false (kvs.map λq=>[q.1]),kvs.map (·.2)⟩
theorem jb(k:bh):∀kvs:List (bh×PV),eY [k] (kvs.map λq=>[q.1]) (kvs.map (·.2))=bG kvs k
 | []=>rfl
 | q::kvs=>by
  have ih:=jb k kvs;unfold bG at ih ⊢;rw[aM,aM,eY];by_cases h:q.1=k
  ·rw[if_pos (by rw[h]),List.find?_cons_of_pos (by simpa using h)]
   rfl
  ·rw[if_neg (by simpa using h),List.find?_cons_of_neg (by simpa using h),ih]
theorem qw(k:bh):∀kvs:List (bh×PV),iz [k] (kvs.map λq=>[q.1])=(bG kvs k).isSome
 | []=>rfl
 | q::kvs=>by
  have ih:=qw k kvs;unfold bG iz at ih ⊢;rw[aM,ji];by_cases h:q.1=k
  ·rw[List.find?_cons_of_pos (by simpa using h),dW (by rw[h])]
   rfl
  ·rw[List.find?_cons_of_neg (by simpa using h),lJ (by simpa using h),wO,ih]
theorem LR{ρ:List (Option PV)}{r:List ak}{kvs:List (bh×PV)}{j:Int}{y:PV}(b:kvs.length<4000000):∃p,iB zX (.ref 0) [.int j,y] ⟨ρ,dC kvs::r⟩=some (.ok p,⟨ρ,(match bG kvs (.inl j)with | some _=>dC kvs | none=>dC (kvs++[(.inl j,y)]))::r⟩):=by
 have e:iB zX (.ref 0) [.int j,y] ⟨ρ,dC kvs::r⟩=(if(kvs.map λq=>[q.1]).length<fL then(if iz [.inl j] (kvs.map λq=>[q.1])=true then(eY [.inl j] (kvs.map λq=>[q.1]) (kvs.map (·.2))).map λp=>(dC kvs,p)else some (⟨.eR false ((kvs.map λq=>[q.1])++[[.inl j]]),kvs.map (·.2)++[y]⟩,y))else none).map λa=>(.ok a.2,⟨ρ,(dC kvs::r).set 0 a.1⟩):=rfl
 rw[e,if_pos (show(kvs.map λq=>[q.1]).length<fL by rw[aj];exact b),qw,jb]
 cases bG kvs (.inl j)with
 | some v=>exact⟨v,rfl⟩
 | none=>exact⟨y,by simp[dC]⟩
theorem Xh{w:PV->List PV->Gx PV}{b:Gx PV}{c:Gx (List PV)}{s s1 s2:cy}{n:Nat}{ks:List (List bh)}{t:Bool}{ps as:List PV}{r:Option (Rs PV×cy)}(h1:Ev b s (.ref n) s1)(hc:s1.h[n]?=some ⟨.eR t ks,ps⟩)(d:Ev c s1 as s2)(f:w (.ref n) as s2=r):xE "dict" w b c s=r:=by
 refine eB h1 (eB (a:=()) ?_ (eB d f));show((cz s1.h (.ref n)).bind _).map _=_;have e:cz s1.h (.ref n)=some (.eR t ks,ps):=by
  show(s1.h[n]?).bind _=_;rw[hc];rfl
 rw[e];rfl
theorem iq(c:CT)(P I A:PV):∀(as:List (Nat×b6)) (i:Nat) (kvs:List (bh×PV)) (d f:Option PV),V6 i kvs->kvs.length<=i->i+as.length<=90000 ->
  (∃C D,dm (iR 2 Q7) (vG c) (eJ i (as.map eN)) ⟨[some P,some I,some A,some (.ref 0),d,f,none],[dC kvs]⟩=some (.ok .nx,⟨[some P,some I,some A,some (.ref 0),C,D,none],[dC (gS as i kvs)]⟩))/\V6 (i+as.length) (gS as i kvs)/\(∃g,gS as i kvs=kvs++g)/\∀q∈as,(bG (gS as i kvs) (.inl (q.1:Int))).isSome=true
 | [],i,kvs,d,f,h,_,_=>⟨⟨d,f,rfl⟩,h,⟨[],by simp[gS]⟩,λ_ z=>nomatch z⟩
 | (j,a)::as,i,kvs,d,f,h,J,E=>by
  rw[aN]at E;have B:iR 2 Q7 (Aa (.int (i:Int)) (jy j a)) ⟨[some P,some I,some A,some (.ref 0),d,f,none],[dC kvs]⟩=some ⟨[some P,some I,some A,some (.ref 0),some (.int (i:Int)),some (jy j a),none],[dC kvs]⟩:=rfl;obtain⟨p,hp⟩:=LR (kvs:=kvs) (by lia)
  have l:Ev (vG c) ⟨[some P,some I,some A,some (.ref 0),some (.int (i:Int)),some (jy j a),none],[dC kvs]⟩ .nx ⟨[some P,some I,some A,some (.ref 0),some (.int (i:Int)),some (jy j a),none],[match bG kvs (.inl (j:Int))with | some _=>dC kvs | none=>dC (kvs++[(.inl (j:Int),.int (i:Int))])]⟩:=dS (Xh rfl rfl (cA (b2 rfl rfl rfl) (cA rfl rfl)) hp)
  cases e:bG kvs (.inl (j:Int))with
  | some v =>
   have o:gS ((j,a)::as) i kvs=gS as (i+1) kvs:=by rw[gS,e]
   rw[e]at l;obtain⟨⟨r,t,u⟩,w,⟨g,k⟩,x⟩:=iq c P I A as (i+1) kvs (some (.int (i:Int))) (some (jy j a)) (λq b=>by obtain⟨m,y,H⟩:=h q b;exact⟨m,y,by lia⟩) (by lia) (by lia)
   rw[o];refine⟨⟨r,t,fC B l u⟩,?_,⟨g,k⟩,λq b=>?_⟩
   ·rw[aN,show i+(as.length+1)=i+1+as.length by lia];exact w
   ·rcases aK.mp b with rfl | b
    ·rw[k];exact tj _ _ _ (by rw[e];rfl)
    ·exact x q b
  | none =>
   have o:gS ((j,a)::as) i kvs=gS as (i+1) (kvs++[(.inl (j:Int),.int (i:Int))]):=by rw[gS,e]
   rw[e]at l;obtain⟨⟨r,t,u⟩,w,⟨g,k⟩,x⟩:=iq c P I A as (i+1) (kvs++[(.inl (j:Int),.int (i:Int))]) (some (.int (i:Int))) (some (jy j a)) (λq b=>by
    rcases bA.mp b with b | b
    ·obtain⟨m,y,H⟩:=h q b;exact⟨m,y,by lia⟩
    ·rw[aD]at b;subst b;exact⟨i,rfl,by lia⟩) (by rw[aV];simp;lia) (by lia)
   rw[o];refine⟨⟨r,t,fC B l u⟩,?_,⟨(.inl (j:Int),.int (i:Int))::g,by rw[k];simp⟩,λq b=>?_⟩
   ·rw[aN,show i+(as.length+1)=i+1+as.length by lia];exact w
   ·rcases aK.mp b with rfl | b
    ·rw[k];exact tj _ _ _ (DS _ _ _)
    ·exact x q b
def yB(c:CT)(rows:PV)(n:Nat)(nx:Nat->List Nat):Prop:=∀j:Nat,j<n->Gives (c "row_nexts" [rows,.int (j:Int)] []) (nT (nx j))/\(nx j).length<=2/\∀m∈nx j,m<n
def ng(kvs:List (bh×PV))(m:Nat):Nat:=match bG kvs (.inl (m:Int))with
 | some (.int v)=>v.toNat
 | _=>0
theorem A9{N:Nat}{kvs:List (bh×PV)}(h:V6 N kvs){m:Nat} (hk:(bG kvs (.inl (m:Int))).isSome=true):bG kvs (.inl (m:Int))=some (.int (ng kvs m:Int))/\ng kvs m<N:=by
 obtain⟨v,a,b⟩:=LQ h hk;have e:ng kvs m=v:=by unfold ng;rw[a];rfl
 rw[e];exact⟨a,b⟩
def iG(as:List (Nat×b6))(kvs:List (bh×PV))(nx:Nat->List Nat)(i:Nat)(q:Nat×b6):List Nat:=if as[i+1]?.map (·.1)=some q.1 then [i+1]else(nx q.1).map (ng kvs)
def Ir(as:List (Nat×b6))(kvs:List (bh×PV))(nx:Nat->List Nat):Nat->List (Nat×b6)->List (List Nat)
 | _,[]=>[]
 | i,q::bs=>iG as kvs nx i q::Ir as kvs nx (i+1) bs
theorem oJ(h:List ak)(i j:Int):j5 h (.int i) (.int j)=some (.bl (i==j)):=rfl
theorem kF:∀l:List Nat,ai (l.map iN)=true
 | []=>rfl
 | n::l=>by simp[ai,iN,noRef,kF l]
section
variable {c:CT} {fs:List PV} {I:Int} {nm res rows:PV} {R1 R2:List Rk} {n:Nat} {as:List (Nat×b6)} {kvs:List (bh×PV)} {nx:Nat->List Nat}
theorem DT(w:L2.lb fs I=some (BC nm res rows R1 R2))(hN:noRef rows=true)(B:yB c rows n nx)(hk:V6 as.length kvs) (o:∀j:Nat,j<n->(bG kvs (.inl (j:Int))).isSome=true) (M:as.length<=90000)
  (i:Nat) (q:Nat×b6) (p:as[i]?=some q) (C:∀q∈as,q.1<n) (a:List PV) (ht:a.length<=90000) :
  Ev (oF c) ⟨[some (.aq fs),some (.int I),some (.lst (as.map eN)),some (.ref 0),some (.int (i:Int)),some (eN q),some (.ref 1)],[dC kvs,⟨.lst,a⟩]⟩ .nx ⟨[some (.aq fs),some (.int I),some (.lst (as.map eN)),some (.ref 0),some (.int (i:Int)),some (eN q),some (.ref 1)],[dC kvs,⟨.lst,a++[nT (iG as kvs nx i q)]⟩]⟩/\(iG as kvs nx i q).length<=2/\∀m∈iG as kvs nx i q,m<as.length:=by
 have N:i<as.length:=(bj.mp p).1;obtain⟨s,d⟩:∃s:cy,s=⟨[some (.aq fs),some (.int I),some (.lst (as.map eN)),some (.ref 0),some (.int (i:Int)),some (eN q),some (.ref 1)],[dC kvs,⟨.lst,a⟩]⟩:=⟨_,rfl⟩
 rw[<-d];have g:Ev (toB (op2 JQ Qs Q8)) s (decide (((i:Int)+1)<(as.length:Int))) s:=by
  rw[d];refine bT (b2 (y:=.int (as.length:Int)) rfl (bV (cA rfl rfl) ?_) rfl);show some (PV.int (((as.map eN).length:Nat):Int))=_;rw[aj]
 have r:∀b:Bool,Ev (dQ (toB (op2 JQ Qs Q8)) (toB (op2 j5 (op2 bQ (op2 bQ (rd 2) Qs) (kI 0)) Qh)) (aW false)) s b s->(b=true↔as[i+1]?.map (·.1)=some q.1) ->
   Ev (oF c) s .nx ⟨[some (.aq fs),some (.int I),some (.lst (as.map eN)),some (.ref 0),some (.int (i:Int)),some (eN q),some (.ref 1)],[dC kvs,⟨.lst,a++[nT (iG as kvs nx i q)]⟩]⟩/\(iG as kvs nx i q).length<=2/\∀m∈iG as kvs nx i q,m<as.length:=λb t h1=>by
  cases b with
  | true =>
   have k:=h1.mp rfl;have Q:i+1<as.length:=by
    cases z:as[i+1]? with
    | none=>rw[z]at k;cases k
    | some _=>exact(bj.mp z).1
   have l:iG as kvs nx i q=[i+1]:=if_pos k;rw[l];refine⟨iT t ?_,by simp,λm e=>by simp at e;lia⟩
   rw[d];exact dS (yZ rfl rfl (cA (tU (cA (b2 rfl rfl rfl) rfl) (by simp)) rfl) (aC rfl (by lia)))
  | false =>
   obtain⟨D,E,u⟩:=B q.1 (C q (cH p));have l:iG as kvs nx i q=(nx q.1).map (ng kvs):=if_neg λz=>nomatch h1.mpr z
   rw[l];refine⟨iF t ?_,by rw[aj];exact E,λm e=>?_⟩
   ·rw[d];have H:∀h,bQ h (.aq fs) (.int I)=some (BC nm res rows R1 R2):=λh=>w
    refine dS (yZ rfl rfl (cA (bV (cA (cM (G:=λm=>iN (ng kvs m)) (sV (da (as:=[rows,.int (q.1:Int)]) (cA (b2 (b2 rfl rfl (H _)) rfl rfl) (cA (b2 rfl rfl rfl) rfl)) rfl (by simp[ai,hN,noRef]) D) rfl) (by lia) λm e=>?_) rfl) ?_) rfl) (aC (n:=1) rfl (by lia)))
    ·refine e1 (C4:=[none,some (iN m),some (.ref 0)]) (h1:=[dC kvs,⟨.lst,a⟩]) rfl (b2 (x:=.ref 0) (y:=.int (m:Int)) rfl rfl ?_);show eY [.inl (m:Int)] (kvs.map λq=>[q.1]) (kvs.map (·.2))=_
     rw[jb];exact(A9 hk (o m (u m e))).1
    ·unfold nT;rw[cJ];rfl
   ·obtain⟨x,J,rfl⟩:=au.mp e;exact(A9 hk (o x (u x J))).2
 by_cases h:i+1<as.length
 ·obtain⟨f,v⟩:∃f,as[i+1]?=some f:=⟨_,bC h⟩
  refine r ((f.1:Int)==(q.1:Int)) ?_ (by rw[v];simp only[beq_iff_eq,gh,Option.some.injEq];lia)
  rw[dW (by lia)]at g
  refine iT g ?_;rw[d];have L:∀h,bQ h (.lst (as.map eN)) (.int ((i:Int)+1))=some (eN f):=λh=>atI_nat (xs:=as.map eN) (j:=i+1) (by rw[bz,v];rfl)
  exact bT (b2 (x:=.int (f.1:Int)) (y:=.int (q.1:Int)) (b2 (b2 rfl (b2 rfl rfl rfl) (L _)) rfl rfl) (b2 rfl rfl rfl) (oJ _ _ _))
 ·refine r false ?_ ⟨(λz=>nomatch z),λz=>by rw[jg (by lia)]at z;cases z⟩
  rw[lJ (by lia)]at g
  exact iF g rfl
theorem tq(h:L2.lb fs I=some (BC nm res rows R1 R2))(hN:noRef rows=true)(i:yB c rows n nx)(hk:V6 as.length kvs) (k:∀j:Nat,j<n->(bG kvs (.inl (j:Int))).isSome=true) (u:as.length<=40000) (o:∀q∈as,q.1<n):∀(bs a:List (Nat×b6)) (b:List PV) (d f:Option PV),as=a++bs->b.length=a.length ->
  ∃(v w:Option PV),dm (iR 2 Q7) (oF c) (eJ a.length (bs.map eN)) ⟨[some (.aq fs),some (.int I),some (.lst (as.map eN)),some (.ref 0),d,f,some (.ref 1)],[dC kvs,⟨.lst,b⟩]⟩=some (.ok .nx,⟨[some (.aq fs),some (.int I),some (.lst (as.map eN)),some (.ref 0),v,w,some (.ref 1)],[dC kvs,⟨.lst,b++(Ir as kvs nx a.length bs).map nT⟩]⟩)/\(Ir as kvs nx a.length bs).length=bs.length/\∀l∈Ir as kvs nx a.length bs,l.length<=2/\∀m∈l,m<as.length
 | [],a,b,d,f,_,_=>⟨d,f,by simp[Ir];rfl,rfl,λ_ z=>nomatch z⟩
 | q::bs,a,b,d,f,e,ht=>by
  have J:a.length<=as.length:=by rw[e,aV];lia
  have y:as[a.length]?=some q:=by rw[e];simp
  obtain⟨B,C,D⟩:=DT h hN i hk k (by lia) a.length q y o b (by lia)
  obtain⟨E,H,p,r,t⟩:=tq h hN i hk k u o bs (a++[q]) (b++[nT (iG as kvs nx a.length q)]) (some (.int (a.length:Int))) (some (eN q)) (by rw[e];simp) (by simp[ht])
  rw[show(a++[q]).length=a.length+1 by simp]at p r t
  refine⟨E,H,?_,by simp[Ir,r],λx g=>?_⟩
  ·rw[aM,eJ,Ir,aM,show b++nT (iG as kvs nx a.length q)::(Ir as kvs nx (a.length+1) bs).map nT=b++[nT (iG as kvs nx a.length q)]++(Ir as kvs nx (a.length+1) bs).map nT by simp]
   exact fC rfl B p
  ·rcases aK.mp g with rfl | g
   ·exact⟨C,D⟩
   ·exact t x g
end
def qx(L:List (List b6))(nx:Nat->List Nat):List (List Nat):=Ir (dn 0 L) (gS (dn 0 L) 0 []) nx 0 (dn 0 L)
theorem LU:∀l:List (List Nat),ai (l.map nT)=true
 | []=>rfl
 | a::l=>by simp[ai,nT,noRef,kF,LU l]
theorem PD(k:Nat){fs:List PV}{I:Int}{nm res rows:PV}{e R2:List Rk}{L:List (List b6)}{nx:Nat->List Nat}(f:L2.lb fs I=some (BC nm res rows e R2))(hN:noRef rows=true)(b:Gives (run txt k "acts" [.aq fs,.int I] []) (.lst (td 0 L)))(g:yB (run txt k) rows L.length nx)(hz:(dn 0 L).length<=40000) :
  Gives (run txt (k+1) "nexts" [.aq fs,.int I] []) (.lst ((qx L nx).map nT))/\(qx L nx).length=(dn 0 L).length/\∀l∈qx L nx,l.length<=2/\∀m∈l,m<(dn 0 L).length:=by
 rw[m8]at b;obtain⟨⟨h,i,o⟩,c,-,p⟩:=iq (run txt k) (.aq fs) (.int I) (.lst ((dn 0 L).map eN)) (dn 0 L) 0 [] none none (λ_ z=>nomatch z) (by simp) (by lia)
 rw[iy]at c;obtain⟨w,x,d,r,t⟩:=tq f hN g c (λj y=>by
  obtain⟨a,u⟩:=tf L 0 j (fJ _) (by lia)
  exact p _ u) hz (λq v=>by have:=m9 L 0 q v;lia) (dn 0 L) [] [] h i rfl rfl
 refine⟨?_,r,t⟩;rw[Hs];rw[gi]at d;refine⟨_,_,gz (sq (aS (da (cA rfl (cA rfl rfl)) rfl rfl b) rfl) (sq rfl (sq (fS (sG (eV rfl rfl)) o) (sq rfl (sq (fS (sG (eV rfl rfl)) d) (rS rfl)))))),?_⟩;exact DQ rfl (LU _)
def cell(a:List Int)(i:Nat):Int:=a.getD i 0
theorem LV(k:Nat)(a:List Int)(i:Nat):Gives (run txt (k+1) "_law_cell_at" [ya a,.int (i:Int)] []) (.int (cell a i)):=by
 rw[yk];have b:gM [] [ya a]=some (.int (a.length:Int)):=by
  show some (PV.int (((a.map PV.int).length:Nat):Int))=_;rw[aj]
 have t:Ek (toB (op2 JQ (rd 1) (gm gM (ao (rd 0) (aW []))))) (S0 [some (ya a),some (.int (i:Int))]) (decide ((i:Int)<(a.length:Int))):=bT (b2 rfl (bV (cA rfl rfl) b) rfl);by_cases h:i<a.length
 ·rw[dW (by lia)]at t
  have c:∀h,bQ h (ya a) (.int (i:Int))=some (.int (cell a i)):=λ_=>atI_nat (by rw[bz,bC h];simp[cell,h])
  exact gV (sv (iT t (rS (b2 rfl rfl (c _))))) rfl
 ·rw[lJ (by lia)]at t
  have:cell a i=0:=by simp[cell,List.getD,jg (qN h)]
  rw[this];exact gV (sq (iF t rfl) (rS rfl)) rfl
theorem di{h:List ak}{i j:Int}(a:0<j):gk h (.int i) (.int j)=some (.int (i%j)):=if_pos (dW a)
theorem yC{h:List ak}{i j:Int}(a:0<j/\j<1073741824):iU h (.int i) (.int j)=some (.int (i/j)):=if_pos (dW a)
theorem Ba{h:List ak}{i j:Int}(a:(-Eu<i/\i<Eu)\/(-Eu<j/\j<Eu)):uh h (.int i) (.int j)=some (.int (i*j)):=if_pos (dW a)
noncomputable def mxA:Nat->Int×Int
 | 0=>(48271,2147483647)
 | 1=>(69621,998244353)
 | 2=>(40692,1000000007)
 | _=>(16807,2147483629)
def HF(c:Int)(i:Nat):Int:=(c%1000000000039+(i:Int))*(mxA i).1%(mxA i).2
theorem nh(k:Nat)(c:Int){i:Nat}(b:i<4):Gives (run txt (k+1) "_law_mixed" [.int c,.int (i:Int)] []) (.int (HF c i)):=by
 rw[DA];have a:∀h,gk h (.int c) (.int 1000000000039)=some (.int (c%1000000000039)):=λ_=>di (by decide)
 match i,b with
 | 0,_=>exact gV (sq (aS rfl rfl) (rS (b2 (b2 (b2 (b2 rfl rfl (a _)) rfl rfl) rfl (Ba (.inr (by decide)))) rfl (di (by decide))))) rfl
 | 1,_=>exact gV (sq (aS rfl rfl) (rS (b2 (b2 (b2 (b2 rfl rfl (a _)) rfl rfl) rfl (Ba (.inr (by decide)))) rfl (di (by decide))))) rfl
 | 2,_=>exact gV (sq (aS rfl rfl) (rS (b2 (b2 (b2 (b2 rfl rfl (a _)) rfl rfl) rfl (Ba (.inr (by decide)))) rfl (di (by decide))))) rfl
 | 3,_=>exact gV (sq (aS rfl rfl) (rS (b2 (b2 (b2 (b2 rfl rfl (a _)) rfl rfl) rfl (Ba (.inr (by decide)))) rfl (di (by decide))))) rfl
 | n+4,h=>lia
noncomputable def cp(n:Int):Nat:=97+(n%26).toNat
def lt(n:Int):Str:=⟨#[cp n]⟩
def eP(l:List Nat):Str:=⟨l.toArray⟩
theorem vQ{a b:List Nat}(h:eP a=eP b):a=b:=by
 have:a.toArray=b.toArray:=cS Str.cps h;simpa using this
theorem DU(a b:List Nat):eP a++eP b=eP (a++b):=by
 show Str.append _ _=_;unfold Str.append eP;simp
theorem aad(n:Int):lt n=eP [cp n]:=rfl
theorem Fq:(Str.ofString "")=eP []:=by decide +kernel
theorem Fs(l:List Nat):(eP l).length=l.length:=by
 unfold eP Str.length;simp
theorem DV:∀m:Fin 26,L2.lb (Str.ofString "abcdefghijklmnopqrstuvwxyz").cps.toList ((m:Nat):Int)=some (97+(m:Nat)):=by decide +kernel
theorem HG(h:List ak)(n:Int):bQ h (.str "abcdefghijklmnopqrstuvwxyz") (.int (n%26))=some (.str (lt n)):=by
 have b:=qR n (show(26:Int)≠0 by decide)
 have d:=BY n (show(0:Int)<26 by decide)
 obtain⟨m,a⟩:=Int.eq_ofNat_of_zero_le b;have:=DV ⟨m,by lia⟩
 show(if(Str.ofString "abcdefghijklmnopqrstuvwxyz").length<=fL then(L2.lb (Str.ofString "abcdefghijklmnopqrstuvwxyz").cps.toList (n%26)).map λc=>PV.str ⟨#[c]⟩else none)=_
 rw[if_pos (by decide +kernel),a,this]
 show some (PV.str ⟨#[97+m]⟩)=some (PV.str ⟨#[cp n]⟩);unfold cp;rw[a,gE]
theorem V7{a b:Int}(h:cp a=cp b):a%26=b%26:=by
 unfold cp at h;have c:=qR a (show(26:Int)≠0 by decide)
 have d:=qR b (show(26:Int)≠0 by decide)
 lia
abbrev Xi:PV:=.str "abcdefghijklmnopqrstuvwxyz"
def M3(B:List Int)(pl q i:Nat):Nat:=cp (B.getD i 0+(q:Int)*(if i=pl then 1 else 0))
def DW(B:List Int)(pl q:Nat):Str:=eP ((List.range B.length).map (M3 B pl q))
def ni(i:Nat):PV:=.int (0+(i:Int))
theorem lu{a:Gx (List PV)}{s s1:cy}{j:Nat}(h:Ev a s [iN j] s1)(b:j<=4000000):Ev (EJ (pM xD a)) s (.sq ((List.range j).map ni)) s1:=by
 refine sG (eB h ?_);show Option.map _ (if GW 0 (j:Int)=true then some (pK 0 (j:Int).toNat)else none)=_
 rw[if_pos (by unfold GW;rw[gG];lia),gE]
 rfl
section
variable (c:CT) (x0 x1:Option PV) (B:List Int) (pl q:Nat)
def nS(x0 x1:Option PV)(B:List Int)(pl:Nat)(a b d:Option PV)(F:List PV):cy:=⟨[x0,x1,some Xi,some (iN B.length),some (iN pl),a,some (.lst (B.map .int)),some (.ref 0),b,d],[⟨.lst,F⟩]⟩
theorem Bb(F:List PV)(i:Nat)(d:i<B.length)(N:List Nat)(hN:N.length<=100)(l:q<=100):Ev (sN c) (nS x0 x1 B pl (some (ni i)) (some (ni q)) (some (.str (eP N))) F) .nx (nS x0 x1 B pl (some (ni i)) (some (ni q)) (some (.str (eP (N++[M3 B pl q i])))) F):=by
 have b:∀j:Nat,ni j=iN j:=λj=>by unfold ni iN;rw[lM]
 rw[b,b];have f:∀h,bQ h (.lst (B.map PV.int)) (.int (i:Int))=some (.int (B.getD i 0)):=λ_=>atI_nat (by rw[bz,List.getD_eq_getElem?_getD,bC d];rfl)
 have he:∀h,GG h [.bl ((i:Int)==(pl:Int))]=some (.int (if i=pl then 1 else 0)):=λh=>by
  by_cases a:i=pl
  ·rw[if_pos a,a,fH];rfl
  ·rw[if_neg a,show((i:Int)==(pl:Int))=false by rw[fu];lia];rfl
 have g:∀h,uh h (.int (q:Int)) (.int (if i=pl then 1 else 0))=some (.int ((q:Int)*(if i=pl then 1 else 0))):=λh=>Ba (.inr (by split<;>decide))
 have k:∀h,eG h (.str (eP N)) (.str (lt (B.getD i 0+(q:Int)*(if i=pl then 1 else 0))))=some (.str (eP (N++[M3 B pl q i]))):=λh=>by
  have e:eG h (.str (eP N)) (.str (lt (B.getD i 0+(q:Int)*(if i=pl then 1 else 0))))=sizeOk ((eP N).length+(lt (B.getD i 0+(q:Int)*(if i=pl then 1 else 0))).length) (.str (eP N++lt (B.getD i 0+(q:Int)*(if i=pl then 1 else 0)))):=rfl
  rw[e,aad,DU,Fs,Fs];exact if_pos (show N.length+1<=fL by have:fL=4000000:=rfl;lia)
 exact aS (b2 rfl (b2 rfl (b2 (b2 (b2 rfl rfl (f _)) (b2 rfl (bV (cA (b2 rfl rfl (oJ _ _ _)) rfl) (he _)) (g _)) rfl) rfl (di (by decide))) (HG _ _)) (k _)) rfl
theorem pA(F:List PV)(g:q<=100):∀(b a:List Nat) (d:Option PV),List.range B.length=a++b->B.length<=50->∃f,dm (aU 5) (sN c) (b.map ni) (nS x0 x1 B pl d (some (ni q)) (some (.str (eP (a.map (M3 B pl q))))) F)=some (.ok .nx,nS x0 x1 B pl f (some (ni q)) (some (.str (DW B pl q))) F)
 | [],a,d,e,_=>⟨d,by unfold DW;rw[e,dU];rfl⟩
 | i::b,a,d,e,j=>by
  have k:i<B.length:=c7.mp (by rw[e];simp)
  have hp:a.length<=B.length:=by
   have:=cS List.length e;rw[ez,aV]at this
   lia
  have l:=Bb c x0 x1 B pl q F i k (a.map (M3 B pl q)) (by rw[aj];lia) g
  obtain⟨f,h⟩:=pA F g b (a++[i]) (some (ni i)) (by rw[e];simp) j
  rw[cw]at h;exact⟨f,fC rfl l h⟩
theorem HH(F:List PV)(hF:F.length<=100)(d:q<=100)(e:B.length<=50)(a f:Option PV):∃b,Ev (sO c) (nS x0 x1 B pl a (some (ni q)) f F) .nx (nS x0 x1 B pl b (some (ni q)) (some (.str (DW B pl q))) (F++[.str (DW B pl q)])):=by
 obtain⟨b,h⟩:=pA c x0 x1 B pl q F d (List.range B.length) [] a rfl e;refine⟨b,sq (s1:=nS x0 x1 B pl a (some (ni q)) (some (.str (eP []))) F) (by rw[<-Fq];rfl) (sq (fS (lu rfl (by lia)) h) (dS (yZ rfl rfl (cA rfl rfl) (aC rfl (by lia)))))⟩
end
theorem tu(c:CT)(e f:Option PV)(B:List Int)(pl:Nat)(k:B.length<=50):∀(a:List Nat) (F:List PV) (b g d:Option PV),(∀q∈a,q<=100)->F.length+a.length<=100->∃m i j,dm (aU 8) (sO c) (a.map ni) (nS e f B pl b g d F)=some (.ok .nx,nS e f B pl m i j (F++a.map λq=>.str (DW B pl q)))
 | [],F,b,g,d,_,_=>⟨b,g,d,by simp;rfl⟩
 | q::a,F,b,g,d,l,o=>by
  rw[aN]at o;obtain⟨p,h⟩:=HH c e f B pl q F (by lia) (l q aJ) k b d
  obtain⟨t,u,v,w⟩:=tu c e f B pl k a (F++[.str (DW B pl q)]) p (some (ni q)) (some (.str (DW B pl q))) (λr x=>l r (aH _ x)) (by simp;lia)
  refine⟨t,u,v,?_⟩;rw[aM,aM,show F++PV.str (DW B pl q)::a.map (λq=>PV.str (DW B pl q))=F++[PV.str (DW B pl q)]++a.map (λq=>PV.str (DW B pl q)) by simp]
  exact fC rfl h w
theorem PF{B:List Int}{pl q a:Nat}(hp:pl<B.length)(h1:q<26)(b:a<26)(h:DW B pl q=DW B pl a):q=a:=by
 have h:=vQ h;have at_:∀q:Nat,((List.range B.length).map (M3 B pl q))[pl]?=some (cp (B.getD pl 0+(q:Int))):=λq=>by
  rw[bz,nK hp];simp[M3]
 have e:=cS (λl=>l[pl]?) h
 simp only[at_]at e;have:=V7 (bI e)
 lia
noncomputable def yD(C:Int):Nat:=(1+C%8).toNat
def Iu(C:Int):List Int:=(List.range (yD C)).map fun(i:Nat)=>(C/(64+9*(i:Int)*i)+5*(i:Int))%26
def LW(C:Int):Nat:=(C/8%(yD C:Int)).toNat
theorem nj(C:Int):(Iu C).length=yD C:=by simp[Iu]
theorem tw(C:Int):1<=yD C/\yD C<=8/\(yD C:Int)=1+C%8:=by unfold yD;lia
theorem LX(C:Int):LW C<(Iu C).length/\(LW C:Int)=C/8%(yD C:Int):=by
 have h:=tw C;have a:=qR (C/8) (show(yD C:Int)≠0 by lia)
 have b:=BY (C/8) (show(0:Int)<(yD C:Int) by lia)
 rw[nj];unfold LW
 lia
def gU(C:Int)(q:Nat):Str:=DW (Iu C) (LW C) q
theorem PH{C:Int}{q a:Nat}(h1:q<26)(b:a<26)(h:gU C q=gU C a):q=a:=PF (LX C).1 h1 b h
theorem DX(C:Int)(q:Nat):(gU C q==(Str.ofString ""))=false:=by
 rw[Fq,fu];intro h;have:=cS List.length (vQ h);rw[aj,ez,nj]at this;have:=tw C;simp at *
 lia
theorem HI(C:Int)(c d e f g j k l:Option PV):Ek (dB false [none,none,some 0] (EJ (pM xD Q6)) (kR (aU 1) (op2 gk (op2 eG (op2 iU (rd 2) (op2 eG (kI 64) (op2 uh (op2 uh (kI 9) (rd 1)) (rd 1)))) (op2 uh (kI 5) (rd 1))) (kI 26)))) (S0 [some (.int C),c,d,some (iN (yD C)),e,f,g,j,k,l]) (.lst ((Iu C).map .int)):=by
 have t:=tw C;unfold Iu;rw[cJ];refine cM (lu (cA rfl rfl) (by lia)) (by rw[ez];lia) λi b=>?_
 have b:=c7.mp b;have m:i<=7:=by lia
 have o:ni i=iN i:=by unfold ni iN;rw[lM]
 rw[o];have u:Eu=18446744073709551616\/1000<Eu:=by right;decide
 have p:∀h,uh h (.int 9) (.int (i:Int))=some (.int (9*(i:Int))):=λ_=>Ba (.inl (by decide))
 have q:0<=9*(i:Int)*i/\9*(i:Int)*i<=441:=by
  have:i=0\/i=1\/i=2\/i=3\/i=4\/i=5\/i=6\/i=7:=by lia
  rcases this with rfl | rfl | rfl | rfl | rfl | rfl | rfl | rfl<;>simp
 have a:∀h,uh h (.int (9*(i:Int))) (.int (i:Int))=some (.int (9*(i:Int)*i)):=λ_=>Ba (.inr (by
  have:i=0\/i=1\/i=2\/i=3\/i=4\/i=5\/i=6\/i=7:=by lia
  rcases this with rfl | rfl | rfl | rfl | rfl | rfl | rfl | rfl<;>decide))
 have r:∀h,uh h (.int 5) (.int (i:Int))=some (.int (5*(i:Int))):=λ_=>Ba (.inl (by decide))
 exact e1 rfl (b2 (b2 (b2 rfl (b2 rfl (b2 (b2 rfl rfl (p _)) rfl (a _)) rfl) (yC (by lia))) (b2 rfl rfl (r _)) rfl) rfl (di (by decide)))
def nmL(C:Int)(n:Nat):List PV:=(List.range n).map λq=>.str (gU C q)
theorem fU{b:Type}(f:b->Str):∀l:List b,ai (l.map λa=>PV.str (f a))=true
 | []=>rfl
 | _::l=>by rw[aM];simp[ai,noRef,fU f l]
theorem PJ(k:Nat)(C:Int)(n:Nat)(g:n<=26):Gives (run txt (k+1) "_law_names" [.int C,iN n] []) (.lst (nmL C n)):=by
 have a:=tw C;have hp:=LX C;rw[DB];obtain⟨i,j,l,h⟩:=tu (run txt k) (some (.int C)) (some (iN n)) (Iu C) (LW C) (by rw[nj];lia) (List.range n) [] none none none (λq b=>by have:=c7.mp b;lia) (by simp;lia)
 rw[gi]at h;have c:Ev (dc (op2 eG (kI 1) (op2 gk (rd 0) (kI 8))) (aU 3)) (S0 [some (.int C),some (iN n),some Xi,none,none,none,none,none,none,none]) .nx (S0 [some (.int C),some (iN n),some Xi,some (iN (yD C)),none,none,none,none,none,none]):=by
  have e:iN (yD C)=.int (1+C%8):=by unfold iN;rw[a.2.2]
  rw[e];exact aS (b2 rfl (b2 rfl rfl (di (by decide))) rfl) rfl
 have d:Ev (dc (op2 gk (op2 iU (rd 0) (kI 8)) (rd 3)) (aU 4)) (S0 [some (.int C),some (iN n),some Xi,some (iN (yD C)),none,none,none,none,none,none]) .nx (S0 [some (.int C),some (iN n),some Xi,some (iN (yD C)),some (iN (LW C)),none,none,none,none,none]):=by
  have e:iN (LW C)=.int (C/8%(yD C:Int)):=by unfold iN;rw[hp.2]
  rw[e];exact aS (b2 (b2 rfl rfl (yC (by decide))) rfl (di (by lia))) rfl
 have f:nS (some (.int C)) (some (iN n)) (Iu C) (LW C) none none none []=⟨[some (.int C),some (iN n),some Xi,some (iN (yD C)),some (iN (LW C)),none,some (.lst ((Iu C).map .int)),some (.ref 0),none,none],[⟨.lst,[]⟩]⟩:=by unfold nS;rw[nj]
 rw[f]at h;refine⟨.ref 0,[⟨.lst,nmL C n⟩],?_,l8 (fU _ _)⟩;refine gz (sq rfl (sq c (sq d (sq (aS (HI C _ _ _ _ _ _ _ _) rfl) (sq rfl (sq (fS (lu (cA rfl rfl) (by lia)) h) (rS rfl)))))))
noncomputable def iH(c:Int):Sh:=match(c%7).toNat with
 | 0=>.bt [.num,.num]
 | 1=>.own
 | 2=>.bL (1+c/7%8)
 | 3=>.num
 | 4=>.bt [.num,.own]
 | 5=>.bt [.bL (1+c/7%8),.own]
 | _=>.bt [.bt [.num,.num],.bL (1+c/7%8)]
theorem PK(k:Nat)(c:Int):Gives (run txt (k+1) "_law_shape" [.int c] []) (enc (iH c)):=by
 rw[DC];obtain⟨n,a⟩:∃n,n=1+c/7%8:=⟨_,rfl⟩
 have b:Ev (dc (kO .aq (ao (kS "strip") (ao (op2 eG (kI 1) (op2 gk (op2 iU (rd 0) (kI 7)) (kI 8))) (aW [])))) (aU 1)) (S0 [some (.int c),none,none,none]) .nx (S0 [some (.int c),some (enc (.bL n)),none,none]):=by
  rw[a];exact aS (tU (cA rfl (cA (b2 rfl (b2 (b2 rfl rfl (yC (by decide))) rfl (di (by decide))) rfl) rfl)) (by simp)) rfl
 have d:∀h,bQ h (.lst (bX [.bt [.num,.num],.own,.bL n,.num,.bt [.num,.own],.bt [.bL n,.own]]++bX [.bt [.bt [.num,.num],.bL n]])) (.int (c%7))=some (enc (iH c)):=λh=>by
  have:c%7=0\/c%7=1\/c%7=2\/c%7=3\/c%7=4\/c%7=5\/c%7=6:=by lia
  unfold iH;rcases this with h | h | h | h | h | h | h<;>rw[h,a]<;>rfl
 exact gV (sq b (sq rfl (sq rfl (rS (b2 (b2 rfl rfl (aL (by simp[bX]))) (b2 rfl rfl (di (by decide))) (d _)))))) (c8 _)
def jP(r:Rw):PV:=.aq [.aq (r.1.map .int),enc r.2.2.2]
theorem yE:∀l:List Int,ai (l.map PV.int)=true
 | []=>rfl
 | _::l=>by rw[aM];simp[ai,noRef,yE l]
theorem aae(r:Rw):noRef (jP r)=true:=by simp[jP,noRef,ai,yE,c8]
theorem RY:∀l:List Rw,ai (l.map jP)=true
 | []=>rfl
 | r::l=>by rw[aM];simp[ai,aae,RY l]
theorem Bc(i:Nat)(a:Int)(s:Sh)(r:List Sh):tabs i a (s::r)=(tab s).map (mU i a)++tabs (i+1) (a+sz s) r:=rfl
theorem tx(c:CT)(S:Option PV):∀(b:List Sh) (i:Nat) (acc:List Rw) (a:Int) (f g:Option PV),(∀s∈b,Gives (c "_law_parts" [enc s] []) (.lst ((tab s).map jP)))->acc.length+g8 b<=1000 ->
  ∃j k,dm Qr (sP c) (eJ i (bX b)) (S0 [S,some (.lst (acc.map jP)),f,g])=some (.ok .nx,S0 [S,some (.lst ((acc++tabs i a b).map jP)),j,k])
 | [],i,acc,a,f,g,_,_=>⟨f,g,by simp[bX,eJ,tabs];rfl⟩
 | s::b,i,acc,a,f,g,h,m=>by
  have o:=h s aJ;simp only[g8]at m;obtain⟨j,k,e⟩:=tx c S b (i+1) (acc++(tab s).map (mU i a)) (a+sz s) (some (.int (i:Int))) (some (enc s)) (λs p=>h s (aH _ p)) (by rw[aV,aj];lia)
  refine⟨j,k,?_⟩;rw[Bc,<-dG];have hp:∀r∈tab s,r.1.length<=1000:=λr l=>by have:=E9 s r l;have:=RT s;lia
  have d:Ev (sP c) (S0 [S,some (.lst (acc.map jP)),some (.int (i:Int)),some (enc s)]) .nx (S0 [S,some (.lst ((acc++(tab s).map (mU i a)).map jP)),some (.int (i:Int)),some (enc s)]):=by
   rw[cw,cJ];refine aS (b2 rfl (cM (sV (da rfl rfl rfl o) rfl) (by lia) λr l=>?_) (aL (by simp only[aj];lia))) rfl
   have q:=hp r l;exact e1 rfl (tU (cA (b2 rfl rfl (aT (by simp only[aN,wL,aj];lia))) (cA rfl rfl)) (by simp))
  exact fC rfl d e
theorem LY(h:List ak)(s:Sh):j5 h (.str (Xg s)) (.str "rec")=some (.bl (!iE s)):=by cases s<;>rfl
theorem pB(s:Sh)(c a b:Option PV):Ev (dc (kO .lst (ao (kO .aq (ao (kO .aq (aW [])) (ao (rd 0) (aW [])))) (aW []))) (aU 1)) (S0 [some (enc s),c,a,b]) .nx (S0 [some (enc s),some (.lst [jP ([],0,sz s,s)]),a,b]):=rfl
theorem l9(k:Nat){s:Sh}(h:iE s=true):Gives (run txt (k+1) "_law_parts" [enc s] []) (.lst ((tab s).map jP)):=by
 rw[sQ];have he:=LY [] s;rw[h]at he;rw[Lr h];exact gV (sq (pB s none none none) (sq (iF (bT (b2 (b2 rfl rfl (pw _ s)) rfl he)) rfl) (rS rfl))) (by simp[noRef,ai,aae])
theorem HJ(k:Nat){ps:List Sh} (h:∀s∈ps,Gives (run txt k "_law_parts" [enc s] []) (.lst ((tab s).map jP))) (a:g8 ps<=900):Gives (run txt (k+1) "_law_parts" [enc (.bt ps)] []) (.lst ((tab (.bt ps)).map jP)):=by
 rw[sQ];have he:=LY [] (.bt ps);obtain⟨b,c,e⟩:=tx (run txt k) (some (enc (.bt ps))) ps 0 [([],0,sz (.bt ps),.bt ps)] 0 none none h (by simp;lia)
 have ht:tab (.bt ps)=[([],0,sz (.bt ps),.bt ps)]++tabs 0 0 ps:=by simp[tab,sz,lv]
 rw[ht];exact gV (sq (pB (.bt ps) none none none) (sq (iT (bT (b2 (b2 rfl rfl (pw _ (.bt ps))) rfl he)) (fS (sG (eV (b2 rfl rfl (by simp only[enc];rfl)) rfl)) e)) (rS rfl))) (RY _)
mutual
theorem yF:∀(s:Sh) (k:Nat),dp s<=k->(tab s).length<=900->Gives (run txt (k+1) "_law_parts" [enc s] []) (.lst ((tab s).map jP))
 | .num,k,_,_=>l9 k rfl
 | .own,k,_,_=>l9 k rfl
 | .bL n,k,_,_=>l9 k rfl
 | .bt a,0,hd,_=>by simp[dp]at hd
 | .bt a,k+1,hd,d=>by
  have e:(tab (.bt a)).length=g8 a+1:=by simp only[tab,aN,fX]
  have b:oY a<=k:=by simp only[dp]at hd;lia
  exact HJ (k+1) (λs c=>Be a k b (by lia) s c) (by lia)
theorem Be:∀(ps:List Sh) (k:Nat),oY ps<=k->g8 ps<=900->∀s∈ps,Gives (run txt (k+1) "_law_parts" [enc s] []) (.lst ((tab s).map jP))
 | [],_,_,_,s,a=>by cases a
 | p::r,k,hd,b,s,a=>by
  simp only[oY]at hd;simp only[g8]at b;rcases aK.mp a with e | e
  ·rw[e];exact yF p k (by lia) (by lia)
  ·exact Be r k (by lia) (by lia) s e
end
mutual
theorem Ft:∀(s:Sh),∀r∈tab s,(tab r.2.2.2).length<=(tab s).length
 | .num,r,h=>by simp[tab]at h;subst h;simp[tab]
 | .own,r,h=>by simp[tab]at h;subst h;simp[tab]
 | .bL n,r,h=>by simp[tab]at h;subst h;simp[tab]
 | .bt a,r,h=>by
  have b:(tab (.bt a)).length=g8 a+1:=by simp only[tab,aN,fX]
  simp only[tab,aK]at h;rcases h with rfl | h
  ·exact az _
  ·have:=vR a 0 0 r h
   lia
theorem vR:∀(l:List Sh) (k:Nat) (a:Int),∀r∈tabs k a l,(tab r.2.2.2).length<=g8 l
 | [],_,_,r,h=>by simp[tabs]at h
 | s::l,k,a,r,h=>by
  simp only[tabs,bA,au]at h;simp only[g8];rcases h with⟨b,h0,rfl⟩ | h
  ·have:=Ft s b h0;simp only[mU]
   lia
  ·have:=vR l _ _ r h
   lia
end
mutual
def pos:Sh->Bool
 | .bL n=>decide (0<n)
 | .bt a=>LZ a
 | _=>true
def LZ:List Sh->Bool
 | []=>true
 | s::r=>pos s&&LZ r
end
mutual
theorem tD:∀(s:Sh),pos s=true->∀r∈tab s,pos r.2.2.2=true
 | .num,h,r,a=>by simp[tab]at a;subst a;exact h
 | .own,h,r,a=>by simp[tab]at a;subst a;exact h
 | .bL n,h,r,a=>by simp[tab]at a;subst a;exact h
 | .bt b,h,r,a=>by
  simp only[tab,aK]at a;rcases a with rfl | a
  ·exact h
  ·exact vT b (by simpa only[pos]using h) 0 0 r a
theorem vT:∀(l:List Sh),LZ l=true->∀(k:Nat) (a:Int),∀r∈tabs k a l,pos r.2.2.2=true
 | [],_,_,_,r,b=>by simp[tabs]at b
 | s::l,h,k,a,r,b=>by
  simp only[LZ,aR]at h;simp only[tabs,bA,au]at b;rcases b with⟨c,h0,rfl⟩ | b
  ·exact tD s h.1 c h0
  ·exact vT l h.2 _ _ r b
end
def Fu(s:Sh):Prop:=yt s/\pos s=true
theorem yG{s:Sh}(h:yt s){r:Rw}(a:r∈tab s):yt r.2.2.2:=by
 have b:=Ft s r a;have c:=(oH s r a).1;have d:=h.1;have e:=h.2;exact⟨by lia,by lia⟩
def cV(s:Sh):Prop:=Fu s/\(lv s).length<=3
theorem kG(c:Int):cV (iH c):=by
 have a:0<1+c/7%8/\1+c/7%8<=8:=by lia
 have:c%7=0\/c%7=1\/c%7=2\/c%7=3\/c%7=4\/c%7=5\/c%7=6:=by lia
 unfold iH;rcases this with h | h | h | h | h | h | h<;>rw[h]<;>simp[cV,Fu,yt,tab,tabs,dp,oY,pos,LZ,lv,fW,a]
theorem L0:cV .num:=by simp[cV,Fu,yt,tab,dp,pos,lv]
theorem L3{s:Sh}(h:cV s){r:Rw}(a:r∈tab s):cV r.2.2.2:=by
 obtain⟨⟨b,c⟩,d⟩:=h;exact⟨⟨yG b a,tD s c r a⟩,bP (oH s r a).2 d⟩
structure lx (ks:List Rk):Prop where
 nd:(ks.map (·.1)).Nodup
 good:∀q∈ks,Fu (bN q.2)/\(lv (bN q.2)).length<=3
 few:ks.length<=10
 ne:∀q∈ks,(q.1==(Str.ofString ""))=false
theorem lx.ok{ks:List Rk}(K:lx ks):V2 ks:=λq a=>(K.good q a).1.1
def kw:Kn->Str
 | .ow s=>Xg s
 | .ho b _=>hw b
theorem jz(h:List ak)(k:Kn):bQ h (encK k) (.int 0)=some (.str (kw k)):=by
 cases k with
 | ow s=>exact pw h s
 | ho b s=>rfl
theorem nk(h:List ak)(d:Kn):jK false h (.str (kw d)) (.aq [.str "lent",.str "sole"])=some (.bl (d9 d)):=by
 cases d with
 | ow s=>cases s<;>kernel_rfl
 | ho b s=>cases b<;>kernel_rfl
theorem L4(h:List ak)(a b:Str):Ij h (.str a) (.str b)=some (.bl (!(a==b))):=rfl
def may(d:Kn):Bool:=!(kw d==(Str.ofString "lent"))
def ly(ks:List Rk):List Sp:=ks.flatMap λq=>(tab (bN q.2)).map λr=>⟨q.1,q.2,r,.bB⟩
def k6(s:Sp):PV:=.aq [bF s,enc s.r.2.2.2,.bl (may s.d)]
theorem iI{ks:List Rk}(h:V2 ks):∀s∈ly ks,cC ks s/\s.a=.bB:=by
 intro s b;obtain⟨q,c,b⟩:=c6.mp b;obtain⟨r,d,rfl⟩:=au.mp b;exact⟨⟨c,h q c,d,.bB⟩,rfl⟩
theorem yH{ks:List Rk}(h:V2 ks):(ly ks).length<=100*ks.length:=by
 induction ks with
 | nil=>simp[ly]
 | cons q ks ih =>
  have c:=(h q aJ).1;have a:=ih λr b=>h r (aH _ b)
  simp only[ly,fw,aV,aj,aN]at a ⊢
  lia
theorem nu{ks:List Rk}{q:Rk}(a:q∈ks):(⟨q.1,q.2,([],0,sz (bN q.2),bN q.2),.bB⟩:Sp)∈ly ks:=c6.mpr ⟨q,a,au.mpr ⟨_,fY _,rfl⟩⟩
theorem L5(c:CT)(S:Option PV)(x:Str)(d:Kn)(h:Option PV)(T:List Rw):∀(acc:List PV) (a b:Option PV),acc.length+T.length<=90000 ->
  ∃f g,dm (iR 2 (dk (aU 6) (dk (aU 7) oi))) (DD c) (T.map jP) ⟨[S,some (.ref 0),some (.str x),some (encK d),some (.bl (d9 d)),h,a,b],[⟨.lst,acc⟩]⟩=some (.ok .nx,⟨[S,some (.ref 0),some (.str x),some (encK d),some (.bl (d9 d)),h,f,g],[⟨.lst,acc++T.map λr=>k6 ⟨x,d,r,.bB⟩⟩]⟩):=by
 induction T with
 | nil=>exact λacc a b _=>⟨a,b,by simp;rfl⟩
 | cons r T ih =>
  intro acc a b i;simp only[aN]at i;obtain⟨f,g,e⟩:=ih (acc++[k6 ⟨x,d,r,.bB⟩]) (some (.aq (r.1.map .int))) (some (enc r.2.2.2)) (by simp;lia)
  refine⟨f,g,?_⟩;rw[dG]at e;rw[aM,aM];exact fC rfl (dS (yZ rfl rfl (cA (tU (cA rfl (cA rfl (cA (b2 (b2 rfl rfl (jz _ d)) rfl (L4 _ _ _)) rfl))) (by simp)) rfl) (aC rfl (by lia)))) e
theorem HL(k:Nat)(hk:3<=k)(S:Option PV)(ks:List Rk):∀(acc:List PV) (f g h i a c:Option PV),V2 ks->acc.length+100*ks.length<=80000 ->
  ∃j l m o p t,dm Qr (DE (run txt (k+1))) (ks.map bu) ⟨[S,some (.ref 0),f,g,h,i,a,c],[⟨.lst,acc⟩]⟩=some (.ok .nx,⟨[S,some (.ref 0),j,l,m,o,p,t],[⟨.lst,acc++(ly ks).map k6⟩]⟩):=by
 induction ks with
 | nil=>exact λacc f g h i a c _ _=>⟨f,g,h,i,a,c,by simp[ly];rfl⟩
 | cons q ks ih =>
  intro acc f g h i a c ho u;simp only[aN]at u;obtain⟨E,H⟩:=ho q aJ;obtain⟨v,w,y⟩:=L5 (run txt (k+1)) S q.1 q.2 (some (enc (bN q.2))) (tab (bN q.2)) acc a c (by lia)
  obtain⟨j,l,m,o,p,t,e⟩:=ih (acc++(tab (bN q.2)).map λr=>k6 ⟨q.1,q.2,r,.bB⟩) (some (.str q.1)) (some (encK q.2)) (some (.bl (d9 q.2))) (some (enc (bN q.2))) v w (λr B=>ho r (aH _ B)) (by rw[aV,aj];lia)
  refine⟨j,l,m,o,p,t,?_⟩;have C:(ly (q::ks)).map k6=((tab (bN q.2)).map λr=>k6 ⟨q.1,q.2,r,.bB⟩)++(ly ks).map k6:=by
   simp[ly,fw,cw,cJ,Function.comp_def]
  rw[C,<-dG];have ht:=yF (bN q.2) k (by lia) (by lia)
  have D:Ev (dQ (gO (rd 4)) (dc (op2 bQ (rd 3) (kI 1)) (aU 5)) (aW .nx)) ⟨[S,some (.ref 0),some (.str q.1),some (encK q.2),some (.bl (d9 q.2)),some (encK q.2),a,c],[⟨.lst,acc⟩]⟩ .nx ⟨[S,some (.ref 0),some (.str q.1),some (encK q.2),some (.bl (d9 q.2)),some (enc (bN q.2)),a,c],[⟨.lst,acc⟩]⟩:=by
   obtain⟨x,d⟩:=q;cases d with
   | ow s=>rfl
   | ho b s=>rfl
  exact fC rfl (sq (aS (b2 (b2 rfl rfl (jz _ q.2)) rfl (nk _ q.2)) rfl) (sq (aS rfl rfl) (sq D (fS (sV (da rfl rfl (by simp[ai,c8]) ht) rfl) y)))) e
theorem Wc{a:PV}(b:noRef a=true)(x:Str)(c:Bool)(p:List Int):noRef (LI x c p a)=true:=by simp[LI,noRef,ai,yE,b]
theorem uG.nr{ks:List Rk}{a:PV}(h:uG ks a):noRef a=true:=by cases h<;>rfl
theorem fF{ks:List Rk}{s:Sp}(h:cC ks s):noRef (bF s)=true:=Wc h.at_.nr _ _ _
theorem Fv{ks:List Rk}:∀l:List Sp,(∀s∈l,cC ks s)->ai (l.map k6)=true
 | [],_=>rfl
 | s::l,h=>by rw[aM];simp[ai,noRef,k6,fF (h s aJ),c8,Fv l λt ht=>h t (aH _ ht)]
theorem PM(k:Nat)(hk:3<=k)(ks:List Rk)(h:V2 ks)(b:ks.length<=100):Gives (run txt (k+2) "_law_spots" [.lst (ks.map bu)] []) (.lst ((ly ks).map k6)):=by
 rw[DF];obtain⟨c,d,f,g,i,j,e⟩:=HL k hk (some (.lst (ks.map bu))) ks [] none none none none none none h (by simp;lia)
 rw[gi]at e;exact⟨.ref 0,_,gz (sq rfl (sq (fS rfl e) (rS rfl))),l8 (Fv _ λs a=>(iI h s a).1)⟩
def jQ(s:Sp):PV:=.aq [bF s,.bl (may s.d)]
noncomputable def hJ(x:Str)(dg:Int)(s:Sp):List Sp:=match s.r.2.2.2 with
 | .num=>[s]
 | .own=>[s]
 | .bL n=>[{s with a:=if dg/8%2=0 then .int (dg%n)else .str x}]
 | .bt _=>[]
def aaf:Sh->Bool
 | .num=>true
 | .own=>true
 | _=>false
def Bf:Sh->Bool
 | .bL _=>true
 | _=>false
theorem aag(h:List ak)(s:Sh):jK false h (.str (Xg s)) (.aq [.str "num",.str "own"])=some (.bl (aaf s)):=by cases s<;>kernel_rfl
theorem RZ(h:List ak)(s:Sh):j5 h (.str (Xg s)) (.str "strip")=some (.bl (Bf s)):=by cases s<;>kernel_rfl
def Wd(S:Option PV)(x:Str)(dg:Int)(acc:List PV)(s:Sp):cy:=⟨[S,some (.str x),some (.int dg),some (.ref 0),some (bF s),some (enc s.r.2.2.2),some (.bl (may s.d))],[⟨.lst,acc⟩]⟩
theorem Fw(S:Option PV)(x:Str)(dg:Int)(s:Sp)(acc:List PV)(a:acc.length<90000):Ev (fV (xE "list" (iB (gY xA)) (rd 3) (ao (kO .aq (ao (rd 4) Qv)) (aW [])))) (Wd S x dg acc s) .nx (Wd S x dg (acc++[jQ s]) s):=dS (yZ rfl rfl (cA rfl rfl) (aC rfl (by lia)))
theorem L6(c:CT)(S:Option PV)(x:Str)(dg:Int){s:Sp}(hp:pos s.r.2.2.2=true)(acc:List PV)(f:acc.length<90000):Ev (mY c) (Wd S x dg acc s) .nx (Wd S x dg (acc++(hJ x dg s).map jQ) s):=by
 have b:=λacc:List PV=>(bT (b2 (b2 rfl rfl (pw _ s.r.2.2.2)) rfl (aag _ s.r.2.2.2)):Ek (toB (op2 (jK false) Qh (kO .aq (ao (kS "num") (ao (kS "own") (aW [])))))) (Wd S x dg acc s) (aaf s.r.2.2.2))
 have e:=λacc:List PV=>(bT (b2 (b2 rfl rfl (pw _ s.r.2.2.2)) rfl (RZ _ s.r.2.2.2)):Ek (toB (op2 j5 Qh (kS "strip"))) (Wd S x dg acc s) (Bf s.r.2.2.2))
 cases he:s.r.2.2.2 with
 | num =>
  rw[he]at b e;rw[show hJ x dg s=[s] by unfold hJ;rw[he]]
  exact sq (iT (b acc) (Fw S x dg s acc f)) (iF (e _) rfl)
 | own =>
  rw[he]at b e;rw[show hJ x dg s=[s] by unfold hJ;rw[he]]
  exact sq (iT (b acc) (Fw S x dg s acc f)) (iF (e _) rfl)
 | bt k =>
  rw[he]at b e;rw[show hJ x dg s=[] by unfold hJ;rw[he],nV,dU]
  exact sq (iF (b acc) rfl) (iF (e acc) rfl)
 | bL n =>
  rw[he]at b e hp;have hp:0<n:=by simpa[pos]using hp
  rw[show hJ x dg s=[{s with a:=if dg/8%2=0 then .int (dg%n)else .str x}] by unfold hJ;rw[he]]
  refine sq (iF (b acc) rfl) (iT (e acc) ?_);have i:∀h,bQ h (enc s.r.2.2.2) (.int 1)=some (.int n):=λh=>by rw[he];rfl
  have g:Ek (op2 bQ (kO .lst (ao (op2 gk (rd 2) (op2 bQ (rd 5) (kI 1))) Q1)) (op2 gk (op2 iU (rd 2) (kI 8)) (kI 2))) (Wd S x dg acc s) (if dg/8%2=0 then .int (dg%n)else .str x):=by
   refine b2 (lS (cA (b2 rfl (b2 rfl rfl (i _)) (di hp)) rfl) (by simp)) (b2 (b2 rfl rfl (yC (by decide))) rfl (di (by decide))) ?_
   have:dg/8%2=0\/dg/8%2=1:=by lia
   rcases this with h | h
   ·rw[h];rfl
   ·rw[h];rfl
  obtain⟨a,j⟩:∃a,a=(if dg/8%2=0 then PV.int (dg%n)else .str x):=⟨_,rfl⟩
  rw[<-j]at g ⊢;exact dS (yZ rfl rfl (cA (tU (cA (b2 (x:=.aq [.str s.x,.bl (d9 s.d),.aq (s.r.1.map .int)]) (cE rfl rfl rfl rfl) (tU (cA g rfl) (by simp)) (aT (by simp))) rfl) (by simp)) rfl) (aC rfl (by lia)))
theorem Bg(c:CT)(S:Option PV)(x:Str)(dg:Int):∀(T:List Sp) (acc:List PV) (a b f:Option PV),(∀s∈T,pos s.r.2.2.2=true)->acc.length+T.length<=80000 ->
  ∃g i j,dm Ql (mY c) (T.map k6) ⟨[S,some (.str x),some (.int dg),some (.ref 0),a,b,f],[⟨.lst,acc⟩]⟩=some (.ok .nx,⟨[S,some (.str x),some (.int dg),some (.ref 0),g,i,j],[⟨.lst,acc++(T.flatMap (hJ x dg)).map jQ⟩]⟩)
 | [],acc,a,b,f,_,_=>⟨a,b,f,by simp;rfl⟩
 | s::T,acc,a,b,f,h,k=>by
  simp only[aN]at k;have l:=L6 c S x dg (h s aJ) acc (by lia)
  have m:(hJ x dg s).length<=1:=by
   unfold hJ;split<;>simp
  obtain⟨g,i,j,e⟩:=Bg c S x dg T (acc++(hJ x dg s).map jQ) (some (bF s)) (some (enc s.r.2.2.2)) (some (.bl (may s.d))) (λt ht=>h t (aH _ ht)) (by rw[aV,aj];lia)
  refine⟨g,i,j,?_⟩;rw[fw,cw,<-dG];exact fC rfl l e
abbrev R0(ks:List Rk)(x:Str)(dg:Int):List Sp:=(ly ks).flatMap (hJ x dg)
theorem PN{ks:List Rk}{x:Str}(b:(x,Kn.ow .num)∈ks){dg:Int}{s:Sp}(a:cC ks s):∀t∈hJ x dg s,cC ks t/\t.d=s.d:=λt ht=>by
 unfold hJ at ht;split at ht
 ·rw[aD]at ht;subst ht;exact⟨a,rfl⟩
 ·rw[aD]at ht;subst ht;exact⟨a,rfl⟩
 ·rw[aD]at ht;subst ht;refine⟨⟨a.mem,a.ok,a.row,?_⟩,rfl⟩;show uG ks (if dg/8%2=0 then _ else _)
  split
  ·exact .int _
  ·exact .str _ b
 ·cases ht
theorem DY{ks:List Rk}(K:lx ks){x:Str}(a:(x,Kn.ow .num)∈ks)(dg:Int):(∀t∈R0 ks x dg,cC ks t)/\(R0 ks x dg).length<=1000/\∃t∈R0 ks x dg,may t.d=true:=by
 refine⟨λt ht=>?_,?_,?_⟩
 ·obtain⟨s,b,ht⟩:=c6.mp ht;exact(PN a (iI K.ok s b).1 t ht).1
 ·have c:=yH K.ok;have e:=K.few;have:∀T:List Sp,(T.flatMap (hJ x dg)).length<=T.length:=λT=>by
   induction T with
   | nil=>simp
   | cons s T ih =>
    have f:(hJ x dg s).length<=1:=by
     unfold hJ;split<;>simp
    rw[fw,aV,aN]
    lia
  have:=this (ly ks);show(List.flatMap (hJ x dg) (ly ks)).length<=1000
  lia
 ·refine⟨⟨x,.ow .num,([],0,sz .num,.num),.bB⟩,c6.mpr ⟨_,nu a,?_⟩,?_⟩
  ·simp[hJ,bN]
  ·show(!((Str.ofString "num")==(Str.ofString "lent")))=true;decide +kernel
theorem L7{ks:List Rk}:∀l:List Sp,(∀s∈l,cC ks s)->ai (l.map jQ)=true
 | [],_=>rfl
 | s::l,h=>by rw[aM];simp[ai,noRef,jQ,fF (h s aJ),L7 l λt ht=>h t (aH _ ht)]
theorem HM(k:Nat){ks:List Rk}(K:lx ks){x:Str}(b:(x,Kn.ow .num)∈ks)(dg:Int):Gives (run txt (k+1) "_law_numbers" [.lst ((ly ks).map k6),.str x,.int dg] []) (.lst ((R0 ks x dg).map jQ)):=by
 rw[yl];have d:=yH K.ok;have f:=K.few;obtain⟨g,h,i,e⟩:=Bg (run txt k) (some (.lst ((ly ks).map k6))) x dg (ly ks) [] none none none (λs c=>by
  obtain⟨a,j⟩:=iI K.ok s c;exact tD _ (K.good _ a.mem).1.2 _ a.row) (by simp;lia)
 rw[gi]at e;exact⟨.ref 0,_,gz (sq rfl (sq (fS rfl e) (rS rfl))),l8 (L7 _ (DY K b dg).1)⟩
theorem dw{c:Type}(N:List c)(e:c->PV)(m:Int)(h:0<N.length):∃s∈N,∀H:List ak,bQ H (.lst (N.map e)) (.int (m%((N.map e).length:Int)))=some (e s):=by
 rw[aj];have b:=qR m (show(N.length:Int)≠0 by lia)
 have d:=BY m (show(0:Int)<(N.length:Int) by lia)
 obtain⟨j,f⟩:=Int.eq_ofNat_of_zero_le b;have a:j<N.length:=by lia
 refine⟨N[j],List.getElem_mem a,λH=>?_⟩
 rw[f];exact atI_nat (by rw[bz,bC a];rfl)
theorem aah(h:List ak):Oj h (.int 10) (.int 30)=some (.int (10^30)):=by kernel_rfl
theorem eW.nr{ks:List Rk}{o:Op}(h:eW ks o):noRef (gq o)=true:=by
 cases o with
 | n i=>rfl
 | s s=>exact fF h
theorem vU(k:Nat){ks:List Rk}{N:List Sp}(h:∀s∈N,cC ks s)(d:0<N.length)(C m:Int):∃o,Gives (run txt (k+1) "_law_operand" [.int C,.int m,.lst (N.map jQ)] []) (gq o)/\eW ks o:=by
 rw[ym];obtain⟨s,b,e⟩:=dw N jQ (m/20) d;have f:0<((N.map jQ).length:Int):=by rw[aj];lia
 have a:Ek (toB (op2 j5 (op2 gk (op2 iU (rd 1) (kI 5)) (kI 4)) (kI 0))) (S0 [some (.int C),some (.int m),some (.lst (N.map jQ))]) (m/5%4==0):=bT (b2 (b2 (b2 rfl rfl (yC (by decide))) rfl (di (by decide))) rfl (oJ _ _ _))
 by_cases c:m/5%4=0
 ·rw[c,fH]at a;exact⟨.n (C%10^30),gV (sv (iT a (rS (b2 rfl (b2 rfl rfl (aah _)) (di (by decide)))))) rfl,trivial⟩
 ·rw[show(m/5%4==0)=false by rw[fu];exact c]at a
  exact⟨.s s,gV (sq (iF a rfl) (rS (b2 (b2 rfl (b2 (b2 rfl rfl (yC (by decide))) (bV (cA rfl rfl) rfl) (di f)) (e _)) rfl rfl))) (fF (h s b)),h s b⟩
theorem L8(h:List ak)(s:Sh):Ij h (.str (Xg s)) (.str "rec")=some (.bl (iE s)):=by cases s<;>kernel_rfl
theorem nv{c:CT}(S:Option PV):∀(ps:List Sh) (a:List PV) (d:Option PV),(∀s∈ps,Gives (c "_law_leaves" [enc s] []) (.lst (bX (lv s))))->a.length+(fW ps).length<=4000000 ->
  ∃b,dm (aU 2) (pf c) (bX ps) (S0 [S,some (.lst a),d])=some (.ok .nx,S0 [S,some (.lst (a++bX (fW ps))),b])
 | [],a,d,_,_=>⟨d,by simp[bX,fW];rfl⟩
 | s::ps,a,d,h,f=>by
  simp only[fW,aV]at f;have g:Ev (pf c) (S0 [S,some (.lst a),some (enc s)]) .nx (S0 [S,some (.lst (a++bX (lv s))),some (enc s)]):=aS (b2 rfl (da rfl rfl rfl (h s aJ)) (aL (by rw[dX];lia))) rfl
  obtain⟨b,e⟩:=nv S ps (a++bX (lv s)) (some (enc s)) (λt ht=>h t (aH _ ht)) (by rw[aV,dX];lia)
  refine⟨b,?_⟩;have ex:a++bX (fW (s::ps))=a++bX (lv s)++bX (fW ps):=by
   simp only[fW,oZ,dG]
  rw[ex];show dm _ _ (enc s::bX ps) _=_;exact fC rfl g e
theorem jA(k:Nat){s:Sh}(h:iE s=true):Gives (run txt (k+1) "_law_leaves" [enc s] []) (.lst [enc s]):=by
 rw[ph];exact gV (sv (iT (bT (b2 (b2 rfl rfl (pw _ s)) rfl ((L8 _ s).trans (by rw[h])))) (rS rfl))) (by simp[noRef,ai,c8])
mutual
theorem jc:∀(s:Sh) (k:Nat),dp s<=k->(lv s).length<=90000->Gives (run txt (k+1) "_law_leaves" [enc s] []) (.lst (bX (lv s)))
 | .num,k,_,_=>jA k rfl
 | .own,k,_,_=>jA k rfl
 | .bL n,k,_,_=>jA k rfl
 | .bt a,0,hd,_=>by simp[dp]at hd
 | .bt a,k+1,hd,b=>by
  simp only[dp]at hd;simp only[lv]at b;rw[ph];obtain⟨c,e⟩:=nv (some (enc (.bt a))) a [] none (gT a k (by lia) b) (by simp;lia)
  rw[gi]at e;have z:lv (.bt a)=fW a:=by simp only[lv]
  rw[z];exact gV (sq (iF (bT (b2 (b2 rfl rfl (pw _ (.bt a))) rfl (L8 _ (.bt a)))) rfl) (sq rfl (sq (fS (sV (b2 rfl rfl (by simp only[enc];rfl)) rfl) e) (rS rfl)))) (qp _)
theorem gT:∀(ps:List Sh) (k:Nat),oY ps<=k->(fW ps).length<=90000->∀s∈ps,Gives (run txt (k+1) "_law_leaves" [enc s] []) (.lst (bX (lv s)))
 | [],_,_,_,s,a=>by cases a
 | p::r,k,hd,b,s,a=>by
  simp only[oY]at hd;simp only[fW,aV]at b;rcases aK.mp a with e | e
  ·rw[e];exact jc p k (by lia) (by lia)
  ·exact gT r k (by lia) (by lia) s e
end
mutual
theorem Fx:∀(s:Sh),∀r∈tab s,0<=r.2.1/\0<=r.2.2.1/\r.2.1+r.2.2.1<=((lv s).length:Int)
 | .num,r,h=>by simp only[tab,aD]at h;subst h;simp[lv]
 | .own,r,h=>by simp only[tab,aD]at h;subst h;simp[lv]
 | .bL n,r,h=>by simp only[tab,aD]at h;subst h;simp[lv]
 | .bt a,r,h=>by
  simp only[tab,aK]at h;rcases h with h | h
  ·subst h;simp[lv]
  ·have:=Bh a 0 0 r h (by lia)
   simp only[lv]
   lia
theorem Bh:∀(l:List Sh) (k:Nat) (a:Int),∀r∈tabs k a l,0<=a->0<=r.2.1/\0<=r.2.2.1/\r.2.1+r.2.2.1<=a+((fW l).length:Int)
 | [],_,_,_,h,_=>nomatch h
 | s::l,k,a,r,h,c=>by
  rw[Bc,bA]at h;simp only[fW,aV];rcases h with h | h
  ·obtain⟨q,b,rfl⟩:=au.mp h;have:=Fx s q b;simp only[mU]
   lia
  ·have:=Bh l (k+1) (a+sz s) r h (by simp only[sz];lia)
   simp only[sz]at this
   lia
end
structure uH (X:List Str) (Bd:Nat) (a:b6):Prop where
 f0:0<=a.f
 m0:0<=a.m
 few:a.f+a.m<=(Bd:Int)
 nm:a.n∈X\/a.n=""
abbrev BD(ks:List Rk):List Str:=ks.map (·.1)
structure p8 (ks:List Rk) (M:Nat) (p:PV) (as:List b6):Prop where
 made:∀F K,sX F ks->noRef F=true->12<=K->LM (run txt K) F p as
 six:as.length<=6
 ok:∀a∈as,uH (BD ks) 3 a
section
variable {ks:List Rk}
theorem Iv{F p:PV}{as:List b6}{w fn:Str}{rest:List PV}{c:CT}(hp:p=.aq (.str w::rest))(h1:jm.lookup w=some fn)(a:VV.lookup fn=some 2)(d:as.length<=6)(h:Gives (c fn [F,p] []) (fE as))(b:noRef p=true):LM c F p as:=⟨⟨w,fn,rest,hp,h1,a,h⟩,by lia,b⟩
theorem vV(K:lx ks)(w:Str){x:Str}{d:Kn}(a:(x,d)∈ks){r:Rw}(b:r∈tab (bN d))(t:Str):uH (BD ks) 3 (tA w x d r t):=by
 obtain⟨c,e,g⟩:=Fx _ r b;have f:=(K.good _ a).2;simp only at f;exact⟨c,e,by show r.2.1+r.2.2.1<=_;lia,.inl (au.mpr ⟨_,a,rfl⟩)⟩
theorem jB(K:lx ks)(w:Str){s:Sp}(a:cC ks s)(t:Str):uH (BD ks) 3 (k0 w s t):=vV K w a.mem a.row t
theorem L9{a:PV}(h:uG ks a):∀q∈Fi a,uH (BD ks) 3 q:=λq b=>by
 cases h with
 | bB=>cases b
 | int i=>cases b
 | str y c =>
  simp only[Fi,aD]at b;subst b;exact⟨Int.le_refl 0,(by show(0:Int)<=1;decide),(by show(0:Int)+1<=((3:Nat):Int);decide),.inl (au.mpr ⟨_,c,rfl⟩)⟩
theorem yI(K:lx ks){o:Op}(ho:eW ks o):∀q∈m4 o,uH (BD ks) 3 q:=λq a=>by
 cases o with
 | n i=>cases a
 | s s =>
  rcases bA.mp a with h | h
  ·exact L9 ho.at_ q h
  ·rw[aD]at h;subst h;exact jB K _ ho _
theorem Ma(K:lx ks){s:Sp}(b:cC ks s):∀q∈sY s,uH (BD ks) 3 q:=λq a=>by
 unfold sY at a;split at a
 ·rw[aD]at a;subst a;exact jB K _ b _
 ·rcases bA.mp a with h | h
  ·exact L9 b.at_ q h
  ·rw[aD]at h;subst h;exact jB K _ b _
theorem We(K:lx ks){r:Rk}(a:r∈ks)(t:Str):uH (BD ks) 3 (V1 r.1 r.2 t):=by
 obtain⟨x,d⟩:=r;cases d with
 | ow s=>exact vV K _ a (fY s) _
 | ho b s=>exact vV K _ a (fY s) _
theorem Wf(K:lx ks){r:Rk}(a:r∈ks):uH (BD ks) 3 (gvA r.1 r.2):=by
 obtain⟨x,d⟩:=r;cases d with
 | ow s=>exact vV K _ a (fY s) _
 | ho b s=>exact vV K _ a (fY s) _
theorem Mb:uH (BD ks) 3 vJ:=⟨by decide,by decide,by decide,.inr rfl⟩
theorem HN{as:List b6}(h:∀a∈as,uH (BD ks) 3 a):∀a∈bU as,uH (BD ks) 3 a:=λa c=>by
 cases as with
 | nil =>
  simp only[bU,aD]at c;subst c;exact Mb
 | cons b l=>exact h a c
theorem Fy(K:lx ks):∀(l:List Rk) (i:Nat),(∀r∈l,r∈ks)->∀q∈jx i l,uH (BD ks) 3 q
 | [],_,_,_,h=>nomatch h
 | r::l,i,a,q,h=>by
  simp only[jx,aK]at h;rcases h with h | h
  ·subst h;exact We K (a r aJ) _
  ·exact Fy K l (i+1) (λs b=>a s (aH _ b)) q h
theorem PQ(K:lx ks){tk:Option Rk}(ht:∀r,tk=some r->r∈ks):∀q∈p0 tk,uH (BD ks) 3 q:=λq a=>by
 cases tk with
 | none=>cases a
 | some r =>
  have c:=ht r rfl;obtain⟨x,d⟩:=r;cases d with
  | ow s =>
   simp only[p0,aD]at a;subst a;exact vV K _ c (fY s) _
  | ho b s =>
   simp only[p0,aD]at a;subst a;exact⟨Int.le_refl 0,Int.le_refl 0,(by show(0:Int)+0<=((3:Nat):Int);decide),.inr rfl⟩
theorem yJ{X:List Str}{Bd:Nat}{a b:List b6}(h1:∀q∈a,uH X Bd q)(c:∀q∈b,uH X Bd q):∀q∈a++b,uH X Bd q:=λq d=>(bA.mp d).elim (h1 q) (c q)
theorem K7{K:Nat}(h:12<=K):∃k,K=k+7/\3<=k:=⟨K-7,by lia,by lia⟩
variable (K:lx ks) (M:Nat)
include K
theorem PR{s:Sp}(a:cC ks s){o:Op}(ho:eW ks o){w:Str}(hw:w="put"\/w="fill"):p8 ks M (.aq [.str w,bF s,gq o]) (m4 o++sY s):=by
 have d:=l7 o;have e:=yv s;have b:(m4 o++sY s).length<=6:=by rw[aV];lia
 refine⟨λF k hF hN hk=>?_,b,yJ (yI K ho) (Ma K a)⟩
 ·obtain⟨k,rfl,c⟩:=K7 hk;have h:=DM hF k c w a ho;rcases hw with rfl | rfl
  ·exact Iv rfl (by kernel_rfl) (by kernel_rfl) b h (by simp[noRef,ai,fF a,eW.nr ho])
  ·exact Iv rfl (by kernel_rfl) (by kernel_rfl) b h (by simp[noRef,ai,fF a,eW.nr ho])
theorem PU{s:Sp}(c:cC ks s)(q:PV)(g:noRef q=true){a b:Op}(d:eW ks a)(e:eW ks b):p8 ks M (.aq [.str "set",bF s,q,gq a,gq b]) (m4 a++m4 b++sY s):=by
 have i:=l7 a;have j:=l7 b;have l:=yv s;have f:(m4 a++m4 b++sY s).length<=6:=by simp only[aV];lia
 refine⟨λF k hF hN hk=>?_,f,yJ (yJ (yI K d) (yI K e)) (Ma K c)⟩
 obtain⟨k,rfl,h⟩:=K7 hk;exact Iv rfl (by kernel_rfl) (by kernel_rfl) f (DN hF k h "set" c q d e) (by simp[noRef,ai,fF c,eW.nr d,eW.nr e,g])
theorem PX{a:Op}(b:eW ks a):p8 ks M (.aq [.str "say",gq a]) (m4 a):=by
 have e:=l7 a;have c:(m4 a).length<=6:=by lia
 refine⟨λF k hF hN hk=>?_,c,yI K b⟩
 obtain⟨k,rfl,d⟩:=K7 hk;exact Iv rfl (by kernel_rfl) (by kernel_rfl) c (DO hF k d "say" b) (by simp[noRef,ai,eW.nr b])
theorem HP:p8 ks M (.aq [.str "give",.str ""]) []:=by
 refine⟨λF k hF hN hk=>?_,by simp,λ_ h=>nomatch h⟩
 obtain⟨k,rfl,a⟩:=K7 hk;exact Iv rfl (by kernel_rfl) (by kernel_rfl) (by simp) (yw k "give") (by simp[noRef,ai])
theorem Mc{r:Rk}(a:r∈ks):p8 ks M (.aq [.str "give",.str r.1]) [gvA r.1 r.2]:=by
 refine⟨λF k hF hN hk=>?_,by simp,λq b=>?_⟩
 ·obtain⟨k,rfl,c⟩:=K7 hk;exact Iv rfl (by kernel_rfl) (by kernel_rfl) (by simp) (A5 hF k c "give" a (K.ok _ a) (K.ne _ a)) (by simp[noRef,ai])
 ·rw[aD]at b;subst b;exact Wf K a
theorem Me{s t:Sp}(a:cC ks s)(ht:cC ks t):p8 ks M (.aq [.str "copy",bF s,bF t]) [k0 "read" t "",k0 "fill" s ""]:=by
 refine⟨λF k hF hN hk=>?_,by simp,λq b=>?_⟩
 ·obtain⟨k,rfl,c⟩:=K7 hk;exact Iv rfl (by kernel_rfl) (by kernel_rfl) (by simp) (A0 hF k c "copy" a ht) (by simp[noRef,ai,fF a,fF ht])
 ·simp only[aK,fx,fK]at b;rcases b with rfl | rfl
  ·exact jB K _ ht _
  ·exact jB K _ a _
theorem Mf{s t:Sp}(a:cC ks s)(ht:cC ks t):p8 ks M (.aq [.str "move",bF s,bF t]) [k0 "empty" t "",k0 "fill" s ""]:=by
 refine⟨λF k hF hN hk=>?_,by simp,λq b=>?_⟩
 ·obtain⟨k,rfl,c⟩:=K7 hk;exact Iv rfl (by kernel_rfl) (by kernel_rfl) (by simp) (A1 hF k c "move" a ht) (by simp[noRef,ai,fF a,fF ht])
 ·simp only[aK,fx,fK]at b;rcases b with rfl | rfl
  ·exact jB K _ ht _
  ·exact jB K _ a _
theorem Mg{s:Sp}(a:cC ks s):p8 ks M (.aq [.str "drop",bF s]) [k0 "empty" s ""]:=by
 refine⟨λF k hF hN hk=>?_,by simp,λq b=>?_⟩
 ·obtain⟨k,rfl,c⟩:=K7 hk;exact Iv rfl (by kernel_rfl) (by kernel_rfl) (by simp) (A2 hF k c "drop" a) (by simp[noRef,ai,fF a])
 ·rw[aD]at b;subst b;exact jB K _ a _
theorem Mh{w:Str}(hw:w="lend"\/w="sole")(x:Str){s:Sp}(a:cC ks s):p8 ks M (.aq [.str w,.str x,bF s]) [k0 w s x]:=by
 refine⟨λF k hF hN hk=>?_,by simp,λq b=>?_⟩
 ·obtain⟨k,rfl,c⟩:=K7 hk;have h:=A3 hF k c w x a;rcases hw with rfl | rfl
  ·exact Iv rfl (by kernel_rfl) (by kernel_rfl) (by simp) h (by simp[noRef,ai,fF a])
  ·exact Iv rfl (by kernel_rfl) (by kernel_rfl) (by simp) h (by simp[noRef,ai,fF a])
 ·rw[aD]at b;subst b;exact jB K _ a _
theorem Mi(fn:PV)(f:noRef fn=true){a:List Rk}(b:∀r∈a,r∈ks)(g:a.length<=4){tk:Option Rk}(ht:∀r,tk=some r->r∈ks):p8 ks M (.aq [.str "call",.str (DP tk),fn,.aq (a.map λr=>.str r.1)]) (jx 0 a++px::p0 tk):=by
 have i:=sZ a 0;have j:(p0 tk).length<=1:=by
  cases tk with
  | none=>simp[p0]
  | some r=>obtain⟨x,d⟩:=r;cases d<;>simp[p0]
 have c:(jx 0 a++px::p0 tk).length<=6:=by rw[aV,aN,i];lia
 refine⟨λF k hF hN hk=>?_,c,yJ (Fy K a 0 b) λq l=>?_⟩
 ·obtain⟨k,rfl,m⟩:=K7 hk;have h:=A6 hF k m hN "call" fn b K.ok (by lia) (λr e=>⟨ht r e,K.ne r (ht r e)⟩)
  exact Iv rfl (by kernel_rfl) (by kernel_rfl) c h (by simp[noRef,ai,f,fU])
 ·rcases aK.mp l with rfl | h
  ·exact⟨by decide,by decide,by decide,.inr rfl⟩
  ·exact PQ K ht q h
end
theorem kq{a b:Str}{xs c:List Tr}(h:eqT (.aq (.str a::xs)) (.aq (.str b::c))=true):(a==b)=true/\mz xs c=true:=dR.mp h
mutual
theorem tF:∀s t:Sh,eqT (vL s) (vL t)=true->s=t
 | .num,.num,_=>rfl
 | .own,.own,_=>rfl
 | .bL n,.bL m,h=>by
  have c:((n==m)&&true)=true:=(kq h).2;rw[wN]at c;rw[aY c]
 | .bt a,.bt b,h=>by
  have c:(mz (m6 a) (m6 b)&&true)=true:=(kq h).2;rw[wN]at c;rw[FA a b c]
 | .num,.own,h=>absurd (kq h).1 (by decide +kernel)
 | .num,.bL _,h=>absurd (kq h).1 (by decide +kernel)
 | .num,.bt _,h=>absurd (kq h).1 (by decide +kernel)
 | .own,.num,h=>absurd (kq h).1 (by decide +kernel)
 | .own,.bL _,h=>absurd (kq h).1 (by decide +kernel)
 | .own,.bt _,h=>absurd (kq h).1 (by decide +kernel)
 | .bL _,.num,h=>absurd (kq h).1 (by decide +kernel)
 | .bL _,.own,h=>absurd (kq h).1 (by decide +kernel)
 | .bL _,.bt _,h=>absurd (kq h).1 (by decide +kernel)
 | .bt _,.num,h=>absurd (kq h).1 (by decide +kernel)
 | .bt _,.own,h=>absurd (kq h).1 (by decide +kernel)
 | .bt _,.bL _,h=>absurd (kq h).1 (by decide +kernel)
theorem FA:∀a b:List Sh,mz (m6 a) (m6 b)=true->a=b
 | [],[],_=>rfl
 | s::a,t::b,h=>by
  have h:=dR.mp (show(eqT (vL s) (vL t)&&mz (m6 a) (m6 b))=true from h)
  rw[tF s t h.1,FA a b h.2]
 | [],_::_,h=>nomatch h
 | _::_,[],h=>nomatch h
end
def Mj:Kn->Tr
 | .ow s=>vL s
 | .ho b s=>.aq [.str (hw b),vL s]
theorem Wg:∀a b:Kn,eqT (Mj a) (Mj b)=true->a=b
 | .ow s,.ow t,h=>by rw[tF s t h]
 | .ho a s,.ho b t,h=>by
  have h:=kq h;have c:(eqT (vL s) (vL t)&&true)=true:=h.2;rw[wN]at c;rw[tF s t c];have d:(hw a==hw b)=true:=h.1;cases a<;>cases b<;>first | rfl | exact absurd d (by decide +kernel)
 | .ow s,.ho b t,h=>by
  exfalso
  cases s<;>cases b<;>exact absurd (kq h).1 (by decide +kernel)
 | .ho b t,.ow s,h=>by
  exfalso
  cases s<;>cases b<;>exact absurd (kq h).1 (by decide +kernel)
structure Cs where
 d1:Kn
 d4:Kn
 d5:Kn
 r1:Option Kn
 pl:Int
noncomputable def pk(C:Cs):Nat->List Kn
 | 0=>[]
 | 1=>if C.pl%2=1 then [C.d1,C.d4]else [C.d4,C.d1]
 | _=>[C.d4,C.d5].take (C.pl/2).toNat++C.d1::[C.d4,C.d5].drop (C.pl/2).toNat
def rk(C:Cs):Nat->Option Kn
 | 0=>none
 | 1=>C.r1
 | _=>some C.d4
inductive Ro where
 | put (fl:Bool) (s:Sp) (o:Op)
 | set (s:Sp) (g:Str) (a b:Op)
 | qa (t s:Sp)
 | kr (t s:Sp)
 | drop (s:Sp)
 | k7 (x:Str) (b:Bool) (s:Sp)
 | call (tk:Option Rk) (j:Nat) (ar:List Rk)
 | M6 (a:Op)
 | iJ (z:Option Rk)
noncomputable def lw(b:Bool):Str:=if b then "sole" else "lend"
abbrev gW(r:Rk):PV:=.str r.1
abbrev Iw(r:Option Rk):PV:=.str (DP r)
def bW(fn:Nat->PV):Ro->PV
 | .put c s o=>.aq [.str (if c then "fill" else "put"),bF s,gq o]
 | .set s g a b=>.aq [.str "set",bF s,.str g,gq a,gq b]
 | .qa t s=>.aq [.str "copy",bF t,bF s]
 | .kr t s=>.aq [.str "move",bF t,bF s]
 | .drop s=>.aq [.str "drop",bF s]
 | .k7 x b s=>.aq [.str (lw b),.str x,bF s]
 | .call d j e=>.aq [.str "call",Iw d,fn j,.aq (e.map gW)]
 | .M6 a=>.aq [.str "say",gq a]
 | .iJ z=>.aq [.str "give",Iw z]
def nsp(s:Sp):Prop:=s.a=.bB\/Bf s.r.2.2.2=true
def oK(C:Cs)(ks:List Rk)(M:Nat):Ro->Prop
 | .put f s o=>cC ks s/\eW ks o/\may s.d=true/\(f=true->s.a=.bB)/\nsp s
 | .set s g a b=>cC ks s/\eW ks a/\eW ks b/\may s.d=true/\nsp s
 | .qa t s=>cC ks t/\cC ks s/\t.a=.bB/\s.a=.bB/\t.r.2.2.2=s.r.2.2.2/\may t.d=true
 | .kr t s=>cC ks t/\cC ks s/\t.a=.bB/\s.a=.bB/\t.r.2.2.2=s.r.2.2.2/\may t.d=true/\d9 s.d=false
 | .drop s=>cC ks s/\s.a=.bB/\d9 s.d=false
 | .k7 x b s=>cC ks s/\s.a=.bB/\(x,Kn.ho b s.r.2.2.2)∈ks/\(b=true->may s.d=true)
 | .call e j c=>j<3/\e.map (·.2)=rk C j/\c.map (·.2)=pk C j/\(∀r∈c,r∈ks)/\c.length<=4/\∀r,e=some r->r∈ks
 | .M6 a=>eW ks a
 | .iJ z=>∀r,z=some r->r∈ks
def k8:Ro->List b6
 | .put _ s o=>m4 o++sY s
 | .set s _ a b=>m4 a++m4 b++sY s
 | .qa t s=>[k0 "read" s "",k0 "fill" t ""]
 | .kr t s=>[k0 "empty" s "",k0 "fill" t ""]
 | .drop s=>[k0 "empty" s ""]
 | .k7 x b s=>[k0 (lw b) s x]
 | .call c _ d=>jx 0 d++px::p0 c
 | .M6 a=>m4 a
 | .iJ none=>[]
 | .iJ (some r)=>[gvA r.1 r.2]
theorem Wh{ks:List Rk}(K:lx ks)(M:Nat){fn:Nat->PV}(c:∀j,noRef (fn j)=true){C:Cs}:∀r:Ro,oK C ks M r->p8 ks M (bW fn r) (k8 r)
 | .put d s o,h=>PR K M h.1 h.2.1 (by cases d<;>first | exact .inl rfl | exact .inr rfl)
 | .set s g a b,h=>PU K M h.1 (.str g) rfl h.2.1 h.2.2.1
 | .qa t s,h=>Me K M h.1 h.2.1
 | .kr t s,h=>Mf K M h.1 h.2.1
 | .drop s,h=>Mg K M h.1
 | .k7 x b s,h=>Mh K M (by cases b<;>first | exact .inl rfl | exact .inr rfl) x h.1
 | .call e j f,h=>Mi K M (fn j) (c j) h.2.2.2.1 h.2.2.2.2.1 h.2.2.2.2.2
 | .M6 a,h=>PX K M h
 | .iJ none,_=>HP K M
 | .iJ (some r),h=>Mc K M (h r rfl)
theorem Ml{ks:List Rk}{M:Nat}{fn:Nat->PV}(c:∀j,noRef (fn j)=true){C:Cs}:∀r:Ro,oK C ks M r->noRef (bW fn r)=true
 | .put d s o,h=>by simp[bW,noRef,ai,fF h.1,eW.nr h.2.1]
 | .set s g a b,h=>by simp[bW,noRef,ai,fF h.1,eW.nr h.2.1,eW.nr h.2.2.1]
 | .qa t s,h=>by simp[bW,noRef,ai,fF h.1,fF h.2.1]
 | .kr t s,h=>by simp[bW,noRef,ai,fF h.1,fF h.2.1]
 | .drop s,h=>by simp[bW,noRef,ai,fF h.1]
 | .k7 x b s,h=>by simp[bW,noRef,ai,fF h.1]
 | .call e j f,h=>by simp[bW,noRef,ai,c j,fU]
 | .M6 a,h=>by simp[bW,noRef,ai,eW.nr h]
 | .iJ z,_=>rfl
def Xj:Ro->Bool
 | .iJ _=>true
 | _=>false
def Bi(fn:Nat->PV)(C:Cs)(ks:List Rk)(M:Nat)(p:PV):Prop:=∃r,p=bW fn r/\Xj r=false/\oK C ks M r
def Rt(P:PV->Prop)(x:Option (Rs dE×cy)):Prop:=∃p s,x=some (.ok (.rt p),s)/\noRef p=true/\P p
theorem Rt.run{f:Gx dE}{n:Nat}{as:List PV}{P:PV->Prop}(h:Rt P (f ⟨gn n as,[]⟩)):∃p,Gives (dP f n as []) p/\P p:=by
 obtain⟨p,⟨d,e⟩,a,b,c⟩:=h;exact⟨p,gV a b,c⟩
theorem xS{f g:Gx dE}{s s1:cy}{P:PV->Prop}(h:Ev f s .nx s1)(k:Rt P (g s1)):Rt P (d0 f g s):=by
 obtain⟨p,c,a,b⟩:=k;exact⟨p,c,sq h a,b⟩
theorem xI{e:Gx Bool}{f h:Gx dE}{s s1:cy}{b:Bool}{P:PV->Prop}(hc:Ev e s b s1)(ht:b=true->Rt P (f s1))(g:b=false->Rt P (h s1)):Rt P (d0 (dQ e f (aW .nx)) h s):=by
 cases b with
 | true =>
  obtain⟨p,d,a,c⟩:=ht rfl;exact⟨p,d,sv (iT hc a),c⟩
 | false =>
  obtain⟨p,d,a,c⟩:=g rfl;exact⟨p,d,sq (iF hc rfl) a,c⟩
theorem xR{a:Gx PV}{s s1:cy}{p:PV}{P:PV->Prop}(h:Ev a s p s1)(b:noRef p=true)(k:P p):Rt P (retS a s):=⟨p,s1,rS h,b,k⟩
theorem oB{f g:Gx Bool}{s:cy}{a b:Bool}(h1:Ev f s a s)(c:Ev g s b s):Ev (dQ f (aW true) g) s (a || b) s:=by
 cases a with
 | true=>exact iT h1 rfl
 | false=>exact iF h1 c
theorem nD{f g:Gx Bool}{s:cy}{a b:Bool}(h1:Ev f s a s)(c:Ev g s b s):Ev (dQ f g (aW false)) s (a&&b) s:=by
 cases a with
 | true=>exact iT h1 c
 | false=>exact iF h1 rfl
theorem R6(h:List ak){s t:Sh}(a:yt s)(ht:yt t):j5 h (enc s) (enc t)=some (.bl (eqT (vL s) (vL t))):=by
 have e1:=toT_enc h s eH (by have:=a.2;show _<1000;lia)
 have b:=toT_enc h t eH (by have:=ht.2;show _<1000;lia)
 show((toT h eH (enc s)).bind λx=>(toT h eH (enc t)).map λy=>eqT x y).map PV.bl=_
 rw[e1,b];rfl
theorem yK{b:Type}{l:List b}(h:l.isEmpty=false):0<l.length:=by
 cases l with
 | nil=>cases h
 | cons a l=>simp
theorem jC{b:Type}{l:List b}{x:b}(h:x∈l):0<l.length:=by
 cases l with
 | nil=>cases h
 | cons a l=>simp
section
variable {ks:List Rk} (K:lx ks) (M:Nat)
abbrev SL(ks:List Rk):PV:=.lst ((ly ks).map k6)
theorem ny(K:lx ks):∀s∈ly ks,cC ks s:=λs a=>(iI K.ok s a).1
theorem tH(K:lx ks):(ly ks).length<=1000:=by
 have a:=yH K.ok;have b:=K.few
 lia
theorem FC{l:List Sp}{f:Sp->Bool}(h:∀s∈l,cC ks s):∀s∈l.filter f,cC ks s:=λs a=>h s (cR.mp a).1
theorem Wi{c:Type}{link:List (Option Nat)}{fi:Gx yW}{bd:Bd}{s s1:cy}{l:List c}{e G:c->PV}{f:c->Bool}(g:Ev fi s (.sq (l.map e)) s1)(i:l.length<=4000000)(d:∀a∈l,bd (bY link s1.ρ) (e a) s1.h=some (if f a=true then some (G a)else none,s1.h)):Ev (dB false link fi bd) s (.lst ((l.filter f).map G)) s1:=by
 have z:∀l:List c,(∀a∈l,bd (bY link s1.ρ) (e a) s1.h=some (if f a=true then some (G a)else none,s1.h))->(l.map e).filterMap (λp=>match bd (bY link s1.ρ) p s1.h with | some (o,_)=>o | none=>none)=(l.filter f).map G:=by
  intro l;induction l with
  | nil=>exact λ_=>rfl
  | cons a l ih =>
   intro h;have j:=h a aJ;have k:=ih λb d=>h b (aH _ d)
   rw[aM,nL,j,k];cases hf:f a<;>simp[List.filter_cons,hf]
 rw[<-z l d];refine cQ g (by rw[aj];exact i) λp hp=>?_
 obtain⟨a,m,rfl⟩:=au.mp hp;rw[d a m]
theorem PY(s:Sh):jK false [] oP (.lst (bX (lv s)))=some (.bl ((lv s).any jM)):=by
 have hd:=m7 (qo s);have e:=toT_encs [] (lv s) eH (by rw[hd];decide)
 have a:Ik [] oP (bX (lv s))=some ((lv s).any jM):=by
  unfold Ik;rw[e,show toT [] eH oP=some (.aq [.str "own"])from rfl,<-yx]
  rfl
 have e1:jK false [] oP (.lst (bX (lv s)))=(Ik [] oP (bX (lv s))).map λb=>.bl (if false=true then !b else b):=rfl
 rw[e1,a];rfl
def FD(s t:Sp):Bool:=eqT (vL t.r.2.2.2) (vL s.r.2.2.2)&&may t.d
theorem HQ(K:lx ks){s:Sp}(b:yt s.r.2.2.2)(c e f h i j k:Option PV):Ek (dB false [none,none,none,none,some 5] Qx (mM Qg Qm (rd 1))) (S0 [c,e,f,some (SL ks),h,some (enc s.r.2.2.2),i,j,k]) (.lst (((ly ks).filter (FD s)).map bF)):=by
 have l:=tH K;refine Wi (sV rfl rfl) (by lia) λt ht=>?_
 have ok:=ny K t ht;have g:Ek Qm (S0 [none,some (bF t),some (enc t.r.2.2.2),some (.bl (may t.d)),some (enc s.r.2.2.2)]) (FD s t):=nD (bT (b2 rfl rfl (R6 _ (yG ok.ok ok.row) b))) (tR rfl rfl);cases a:FD s t with
 | true=>rw[a]at g;exact VP rfl g rfl
 | false=>rw[a]at g;exact VQ rfl g
end
theorem FE{ks:List Rk}{N:List Sp}(h:∀s∈N,cC ks s):j5 [] (.lst (N.map bF)) (.lst [])=some (.bl N.isEmpty):=by
 have e:∀l:List Sp,(∀s∈l,cC ks s)->∃b,cb (toT [] 999) (l.map bF)=some b/\b.length=l.length:=by
  intro l;induction l with
  | nil=>exact λ_=>⟨[],rfl,rfl⟩
  | cons s l ih =>
   intro h;obtain⟨b,f,c⟩:=ih λt ht=>h t (aH _ ht)
   obtain⟨g,j⟩:∃g,toT [] 999 (bF s)=some g:=by
    have hp:∀p:List Int,cb (toT [] 997) (p.map PV.int)=some (p.map Tr.int):=λp=>by
     induction p with
     | nil=>rfl
     | cons i p ih=>show((cb (toT [] 997) (p.map PV.int)).map _)=_;rw[ih];rfl
    have q:toT [] 998 (.aq (s.r.1.map PV.int))=some (.aq (s.r.1.map Tr.int)):=by
     show((cb (toT [] 997) (s.r.1.map PV.int)).bind (JS .aq))=_;rw[hp];rfl
    obtain⟨k,m⟩:∃k,toT [] 998 s.a=some k:=by
     have o:=(h s aJ).at_
     revert o
     generalize s.a=a
     intro o;cases o<;>exact⟨_,rfl⟩
    refine⟨.aq [.str s.x,.bl (d9 s.d),.aq (s.r.1.map Tr.int),k],?_⟩;show((cb (toT [] 998) [.str s.x,.bl (d9 s.d),.aq (s.r.1.map PV.int),s.a]).bind (JS .aq))=_;simp only[cb,q,m];rfl
   refine⟨g::b,?_,by simp[c]⟩
   rw[aM];simp only[cb,j,f];rfl
 obtain⟨b,f,c⟩:=e N h;have e1:toT [] eH (.lst (N.map bF))=some (.lst b):=by
  show((cb (toT [] 999) (N.map bF)).bind (JS .lst))=_;rw[f];rfl
 show((toT [] eH (.lst (N.map bF))).bind λx=>(toT [] eH (.lst [])).map λy=>eqT x y).map PV.bl=_
 rw[e1];cases N with
 | nil=>cases b with
  | nil=>rfl
  | cons _ _=>simp at c
 | cons _ _=>cases b with
  | nil=>simp at c
  | cons _ _=>rfl
section
variable {ks:List Rk} (K:lx ks) (M:Nat) (fn:Nat->PV) (C:Cs)
include K in
theorem HR(k:Nat)(hk:3<=k)(w:Str)(a b:Int)(J:0<(ly ks).length):∃p,Gives (run txt (k+2) "_law_carried" [.str w,.int a,.int b,SL ks] []) p/\Bi fn C ks M p:=by
 rw[yn];refine Rt.run ?_;obtain⟨s,m,L⟩:=dw (ly ks) k6 a J;have ok:=ny K s m;have N:0<(((ly ks).map k6).length:Int):=by rw[aj];lia
 have i:=(yG ok.ok ok.row);have j:=jc s.r.2.2.2 k (by have:=i.2;lia) (by have:=i.1;have:=vy s.r.2.2.2;lia)
 obtain⟨G,e⟩:∃G,G=(ly ks).filter (FD s):=⟨_,rfl⟩
 have q:=HQ K i (some (.str w)) (some (.int a)) (some (.int b)) (some (bF s)) (some (.bl (may s.d))) none none;rw[<-e]at q;have c:∀t∈G,cC ks t:=by rw[e];exact FC (ny K)
 have u:s.a=.bB:=(iI K.ok s m).2;have v:∀t∈G,t.a=.bB:=by rw[e];exact λt ht=>(iI K.ok t (cR.mp ht).1).2
 have x:∀t∈G,t.r.2.2.2=s.r.2.2.2:=by rw[e];exact λt ht=>tF _ _ (dR.mp (cR.mp ht).2).1
 have f:∀t∈G,may t.d=true:=by rw[e];exact λt ht=>(dR.mp (cR.mp ht).2).2
 obtain⟨o,ho⟩:∃o,o=(lv s.r.2.2.2).any jM:=⟨_,rfl⟩
 have y:=PY s.r.2.2.2;rw[<-ho]at y;have Q:Ev (dc (op2 bQ (rd 3) (op2 gk (rd 1) (gm gM Q6))) Ql) (S0 [some (.str w),some (.int a),some (.int b),some (SL ks),none,none,none,none,none]) .nx (S0 [some (.str w),some (.int a),some (.int b),some (SL ks),some (bF s),some (enc s.r.2.2.2),some (.bl (may s.d)),none,none]):=aS (b2 rfl (b2 rfl (bV (cA rfl rfl) rfl) (di N)) (L _)) rfl;refine xS Q (xS (aS q rfl) (xS (aS (b2 rfl (da rfl rfl rfl j) y) rfl) ?_));refine xI (oB (bT (b2 rfl rfl (FE c))) (nD (tR rfl rfl) (tR rfl rfl))) (λ_=>?_) λhc=>?_
 ·exact xR rfl rfl ⟨.M6 (.n a),rfl,rfl,trivial⟩
 ·have g:G.isEmpty=false:=(Bool.or_eq_false_iff.mp hc).1;obtain⟨t,ht,l⟩:=dw G bF b (yK g);have R:0<((G.map bF).length:Int):=by have:=yK g;rw[aj];lia
  have B:Ek (op2 bQ (rd 7) (op2 gk (rd 2) Qy)) (S0 [some (.str w),some (.int a),some (.int b),some (SL ks),some (bF s),some (enc s.r.2.2.2),some (.bl (may s.d)),some (.lst (G.map bF)),some (.bl o)]) (bF t):=b2 rfl (b2 rfl (bV (cA rfl rfl) rfl) (di R)) (l _);have D:=fF (c t ht);have E:=fF ok;refine xI (oB (tR rfl rfl) (nD (bT (b2 rfl rfl (eU _ _ _))) (nB (tR rfl rfl)))) (λH=>?_) λ_=>?_
  ·refine xR (tU (cA rfl (cA B (cA rfl rfl))) (by simp)) (by simp[noRef,ai,D,E]) ⟨.kr t s,rfl,rfl,c t ht,ok,v t ht,u,x t ht,f t ht,?_⟩
   have I:=(Bool.or_eq_false_iff.mp hc).2;cases o with
   | true=>rw[wN]at I;exact I
   | false =>
    rw[wO]at H;have:=(dR.mp H).2;cases h:d9 s.d
    ·rfl
    ·rw[h]at this;cases this
  ·exact xR (tU (cA rfl (cA B (cA rfl rfl))) (by simp)) (by simp[noRef,ai,D,E]) ⟨.qa t s,rfl,rfl,c t ht,ok,v t ht,u,x t ht,f t ht⟩
end
section
variable {ks:List Rk} (K:lx ks) (M:Nat) (fn:Nat->PV) (C:Cs)
abbrev KL(ks:List Rk):PV:=.lst (ks.map bu)
def PZ(s:Sh)(w:Str)(t:Sp):Bool:=eqT (vL t.r.2.2.2) (vL s)&&(may t.d || w==(Str.ofString "lend"))
theorem Mm(K:lx ks)(b:Bool)(s:Sh)(c:yt s)(w:Str)(e f h i j k:Option PV):Ek (dB false [none,none,none,none,some 6,some 7] Qx (mM Qg Q9 (rd 1))) (S0 [e,f,h,some (SL ks),i,j,some (encK (.ho b s)),some (.str w),k]) (.lst (((ly ks).filter (PZ s w)).map bF)):=by
 have l:=tH K;refine Wi (sV rfl rfl) (by lia) λt ht=>?_
 have ok:=ny K t ht;have g:Ek Q9 (S0 [none,some (bF t),some (enc t.r.2.2.2),some (.bl (may t.d)),some (encK (.ho b s)),some (.str w)]) (PZ s w t):=nD (bT (b2 rfl (b2 rfl rfl rfl) (R6 _ (yG ok.ok ok.row) c))) (oB (tR rfl rfl) (bT (b2 rfl rfl (eU _ _ _))));cases a:PZ s w t with
 | true=>rw[a]at g;exact VP rfl g rfl
 | false=>rw[a]at g;exact VQ rfl g
theorem HS(K:lx ks)(b c d e f h i j:Option PV):Ek (dB false [none,none] (iY (rd 2)) (mM (aU 1) Qt (rd 1))) (S0 [b,c,some (KL ks),d,e,f,h,i,j]) (.lst ((ks.filter λq=>d9 q.2).map bu)):=by
 have k:=K.few;refine Wi (sV rfl rfl) (by lia) λq l=>?_
 have g:Ek Qt (S0 [none,some (bu q)]) (d9 q.2):=bT (b2 (b2 (b2 rfl rfl rfl) rfl (jz _ q.2)) rfl (nk _ q.2));cases a:d9 q.2 with
 | true=>rw[a]at g;exact VP rfl g rfl
 | false=>rw[a]at g;exact VQ rfl g
include K in
theorem HU(k:Nat)(a b:Int)(I:∃q∈ks,d9 q.2=true):∃p,Gives (run txt (k+1) "_law_lending" [.int a,.int b,KL ks,SL ks] []) p/\Bi fn C ks M p:=by
 rw[yo];refine Rt.run ?_;obtain⟨Y,g,h⟩:=I;have J:0<(ks.filter λq=>d9 q.2).length:=jC (cR.mpr ⟨g,h⟩)
 obtain⟨q,L,v⟩:=dw (ks.filter λq=>d9 q.2) bu a J
 obtain⟨e,i⟩:=cR.mp L;have B:0<(((ks.filter λq=>d9 q.2).map bu).length:Int):=by rw[aj];lia
 obtain⟨G,N⟩:∃G,G=(ks.filter λq=>d9 q.2).map bu:=⟨_,rfl⟩
 have D:=HS K (some (.int a)) (some (.int b)) (some (SL ks)) none none none none none;rw[<-N]at D v B;obtain⟨x,d⟩:=q;cases d with
 | ow s=>cases i
 | ho c s =>
  obtain⟨w,hw,j,e1⟩:∃w:Str,w=lw c/\(may (.ho c s) || w==(Str.ofString "lend"))=true/\Ek (op2 bQ (kO .lst (ao (kS "lend") (ao (kS "sole") (aW [])))) (gm GG (ao (op2 j5 (op2 bQ (rd 6) (kI 0)) (kS "sole")) (aW [])))) (S0 [some (.int a),some (.int b),some (KL ks),some (SL ks),some (.lst G),some (.str x),some (encK (.ho c s)),none,none]) (.str w):=by
   cases c with
   | true=>exact⟨"sole",rfl,by show(!((Str.ofString "sole")==(Str.ofString "lent")) || _)=true;decide +kernel,b2 (y:=.int 1) rfl (bV (cA (b2 (b2 rfl rfl (jz _ _)) rfl (eU _ _ _)) rfl) (by kernel_rfl)) rfl⟩
   | false=>exact⟨"lend",rfl,by show(!((Str.ofString "lent")==(Str.ofString "lent")) || _)=true;decide +kernel,b2 (y:=.int 0) rfl (bV (cA (b2 (b2 rfl rfl (jz _ _)) rfl (eU _ _ _)) rfl) (by kernel_rfl)) rfl⟩
  have E:=Mm K c s (K.ok _ e) w (some (.int a)) (some (.int b)) (some (KL ks)) (some (.lst G)) (some (.str x)) none;obtain⟨T,f⟩:∃T,T=(ly ks).filter (PZ s w):=⟨_,rfl⟩
  have l:0<T.length:=by
   rw[f];refine jC (cR.mpr ⟨nu e,?_⟩);show(eqT (vL s) (vL s)&&(may (.ho c s) || _))=true;rw[iV,j];rfl
  have H:∀t∈T,cC ks t:=by rw[f];exact FC (ny K)
  have Q:∀t∈T,t.a=.bB:=by rw[f];exact λt ht=>(iI K.ok t (cR.mp ht).1).2
  have m:∀t∈T,s=t.r.2.2.2:=by rw[f];exact λt ht=>(tF _ _ (dR.mp (cR.mp ht).2).1).symm
  have o:∀t∈T,c=true->may t.d=true:=by
   rw[f];intro t ht R;have:=(dR.mp (cR.mp ht).2).2;rw[hw,R]at this;rw[show(lw true==Str.ofString "lend")=false by decide +kernel,Bool.or_false]at this
   exact this
  rw[<-f]at E;obtain⟨t,ht,u⟩:=dw T bF b l;have X:0<((T.map bF).length:Int):=by rw[aj];lia
  refine xS (aS D rfl) (xS (aS (b2 rfl (b2 rfl (bV (cA rfl rfl) rfl) (di B)) (v _)) rfl) (xS (aS e1 rfl) (xS (aS E rfl) (xR (tU (cA rfl (cA rfl (cA (b2 rfl (b2 rfl (bV (cA rfl rfl) rfl) (di X)) (u _)) rfl))) (by simp)) (by simp[noRef,ai,fF (H t ht)]) ⟨.k7 x c t,by rw[hw];rfl,rfl,H t ht,Q t ht,m t ht▸e,o t ht⟩))))
end
theorem P0{ks:List Rk}{N:List Sp}(h:∀s∈N,cC ks s):Ij [] (.lst (N.map bF)) (.lst [])=some (.bl (!N.isEmpty)):=by
 have e:=FE h;have e1:∀o:Option Bool,o.map PV.bl=some (.bl N.isEmpty)->(o.map λb=>PV.bl !b)=some (.bl (!N.isEmpty)):=λo ho=>by
  cases o with
  | none=>cases ho
  | some b =>
   have:b=N.isEmpty:=by injection ho with z;injection z
   rw[this];rfl
 exact e1 _ e
section
variable {ks:List Rk} (K:lx ks) (M:Nat) (fn:Nat->PV) (C:Cs)
include K in
theorem P1(k:Nat)(w:Str)(a:Int){o:Op}(ho:eW ks o)(hw:∃q∈ks,d9 q.2=false):∃p,Gives (run txt (k+1) "_law_small_row" [.str w,.int a,gq o,SL ks] []) p/\Bi fn C ks M p:=by
 rw[sR];refine Rt.run ?_;have D:=tH K;refine xI (bT (b2 rfl rfl (eU _ _ _))) (λ_=>?_) λ_=>?_
 ·have f:Ek (dB false [none,none,none,none] Qx (mM Qg (CS (gO Q2)) (rd 1))) (S0 [some (.str w),some (.int a),some (gq o),some (SL ks),none,none]) (.lst (((ly ks).filter λt=>!d9 t.d).map bF)):=by
   refine Wi (sV rfl rfl) (by lia) λt ht=>?_
   have g:Ek (CS (gO Q2)) (S0 [none,some (bF t),some (enc t.r.2.2.2),some (.bl (may t.d))]) (!d9 t.d):=nB (tR rfl rfl);cases i:(!d9 t.d)with
   | true=>rw[i]at g;exact VP rfl g rfl
   | false=>rw[i]at g;exact VQ rfl g
  obtain⟨q,B,m⟩:=hw;obtain⟨T,b⟩:∃T,T=(ly ks).filter λt=>!d9 t.d:=⟨_,rfl⟩
  have u:0<T.length:=by
   rw[b];exact jC (cR.mpr ⟨nu B,by show(!d9 q.2)=true;rw[m];rfl⟩)
  have e:∀t∈T,cC ks t:=by rw[b];exact FC (ny K)
  have l:∀t∈T,t.a=.bB:=by rw[b];exact λt ht=>(iI K.ok t (cR.mp ht).1).2
  have v:∀t∈T,d9 t.d=false:=by
   rw[b];intro t ht;have:=(cR.mp ht).2;cases h:d9 t.d
   ·rfl
   ·rw[h]at this;cases this
  rw[<-b]at f;obtain⟨t,ht,c⟩:=dw T bF a u;have x:0<((T.map bF).length:Int):=by rw[aj];lia
  exact xS (aS f rfl) (xR (tU (cA rfl (cA (b2 rfl (b2 rfl (bV (cA rfl rfl) rfl) (di x)) (c _)) rfl)) (by simp)) (by simp[noRef,ai,fF (e t ht)]) ⟨.drop t,rfl,rfl,e t ht,l t ht,v t ht⟩)
 ·have f:Ek (dB false [none,none,none,none] Qx (mM Qg Qe (rd 1))) (S0 [some (.str w),some (.int a),some (gq o),some (SL ks),none,none]) (.lst (((ly ks).filter λt=>Bf t.r.2.2.2&&may t.d).map bF)):=by
   refine Wi (sV rfl rfl) (by lia) λt ht=>?_
   have g:Ek Qe (S0 [none,some (bF t),some (enc t.r.2.2.2),some (.bl (may t.d))]) (Bf t.r.2.2.2&&may t.d):=nD (bT (b2 (b2 rfl rfl (pw _ _)) rfl (RZ _ _))) (tR rfl rfl);cases i:(Bf t.r.2.2.2&&may t.d)with
   | true=>rw[i]at g;exact VP rfl g rfl
   | false=>rw[i]at g;exact VQ rfl g
  obtain⟨T,b⟩:∃T,T=(ly ks).filter λt=>Bf t.r.2.2.2&&may t.d:=⟨_,rfl⟩
  have e:∀t∈T,cC ks t:=by rw[b];exact FC (ny K)
  have l:∀t∈T,t.a=.bB:=by rw[b];exact λt ht=>(iI K.ok t (cR.mp ht).1).2
  have y:∀t∈T,may t.d=true:=by rw[b];exact λt ht=>(dR.mp (cR.mp ht).2).2
  rw[<-b]at f;refine xS (aS f rfl) (xI (nD (bT (b2 rfl rfl (eU _ _ _))) (bT (b2 rfl rfl (P0 e)))) (λhc=>?_) λ_=>?_)
  ·have j:T.isEmpty=false:=by
    have:=(dR.mp hc).2;cases h:T.isEmpty
    ·rfl
    ·rw[h]at this;cases this
   obtain⟨t,ht,c⟩:=dw T bF a (yK j);have x:0<((T.map bF).length:Int):=by have:=yK j;rw[aj];lia
   exact xR (tU (cA rfl (cA (b2 rfl (b2 rfl (bV (cA rfl rfl) rfl) (di x)) (c _)) (cA rfl rfl))) (by simp)) (by simp[noRef,ai,fF (e t ht),eW.nr ho]) ⟨.put true t o,rfl,rfl,e t ht,ho,y t ht,λ_=>l t ht,.inl (l t ht)⟩
  ·exact xR (tU (cA rfl (cA rfl rfl)) (by simp)) (by simp[noRef,ai,eW.nr ho]) ⟨.M6 o,rfl,rfl,ho⟩
end
theorem lC{a:Gx (List PV)}{s s1:cy}{ps:List PV}(h:Ev a s ps s1)(b:ps.length<=4000000):Ev (ug a) s (.ref s1.h.length) ⟨s1.ρ,s1.h++[⟨.lst,ps⟩]⟩:=eB h (eB (by show(small ps PV.bB).map _=_;rw[show small ps PV.bB=some .bB from if_pos b];rfl) rfl)
structure Wk (C:Cs) (ks:List Rk) (LK OT OW:List Rk) (BK:List (Option Rk)):Prop where
 lk:(∀r∈LK,r∈ks/\r.2=C.d4)/\0<LK.length
 ot:(∀r∈OT,r∈ks/\r.2=C.d5)/\0<OT.length
 ow:(∀r∈OW,r∈ks/\r.2=C.d1)/\0<OW.length
 bk:(∀o∈BK,(∀r,o=some r->r∈ks)/\o.map (·.2)=C.r1)/\0<BK.length
section
variable {ks:List Rk} (K:lx ks) (M:Nat) (fn:Nat->PV) (C:Cs)
def P4(a b:Int)(c d e f:PV)(L T O B:List PV)(pl:Int)(x:Option PV)(h:List ak):cy:=⟨[some (.int a),some (.int b),some c,some (.lst [d,e,f]),some (.lst L),some (.lst T),some (.lst O),some (.lst B),some (.int pl),x],h⟩
include K in
theorem Wl(k:Nat)(a b:Int)(Ef:∀j,noRef (fn j)=true){q y t:List Rk}{D:List (Option Rk)}(Q:Wk C ks q y t D)(hp:0<=C.pl/\C.pl<6):∃p,Gives (run txt (k+1) "_law_call" [.int a,.int b,.aq [.lst [fn 0,fn 1,fn 2],.lst (q.map gW),.lst (y.map gW),.lst (t.map gW),.lst (D.map Iw),.int C.pl]] []) p/\Bi fn C ks M p:=by
 rw[Hy];refine Rt.run ?_;obtain⟨i,c,N⟩:=dw q gW b Q.lk.2;obtain⟨E,Vf,R⟩:=dw t gW (b/8) Q.ow.2;obtain⟨H,X,R7⟩:=dw y gW (b/8) Q.ot.2;obtain⟨o2,Y,Z⟩:=dw t gW (b/64) Q.ow.2;obtain⟨l2,hl2,al2⟩:=dw q gW (a/4) Q.lk.2;obtain⟨k1,hk1,ak1⟩:=dw D Iw (a/4) Q.bk.2;have zl:0<((q.map gW).length:Int):=by have:=Q.lk.2;rw[aj];lia
 have zo:0<((t.map gW).length:Int):=by have:=Q.ow.2;rw[aj];lia
 have zt:0<((y.map gW).length:Int):=by have:=Q.ot.2;rw[aj];lia
 have zk:0<((D.map Iw).length:Int):=by have:=Q.bk.2;rw[aj];lia
 have m:∀r∈q,r∈ks/\r.2=C.d4:=Q.lk.1
 have I:∀r∈t,r∈ks/\r.2=C.d1:=Q.ow.1
 have hT:∀r∈y,r∈ks/\r.2=C.d5:=Q.ot.1
 have hB:∀o∈D,(∀r,o=some r->r∈ks)/\o.map (·.2)=C.r1:=Q.bk.1
 obtain⟨d,e0⟩:∃d,d=fn 0:=⟨_,rfl⟩
 obtain⟨e,e1⟩:∃e,e=fn 1:=⟨_,rfl⟩
 obtain⟨f,e2⟩:∃f,f=fn 2:=⟨_,rfl⟩
 have n0:noRef d=true:=by rw[e0];exact Ef 0
 have n1:noRef e=true:=by rw[e1];exact Ef 1
 have n2:noRef f=true:=by rw[e2];exact Ef 2
 rw[<-e0,<-e1,<-e2];obtain⟨pl,l⟩:∃pl,pl=C.pl:=⟨_,rfl⟩
 rw[<-l]at hp ⊢;obtain⟨L,eL⟩:∃L,L=q.map gW:=⟨_,rfl⟩
 obtain⟨O,eO⟩:∃O,O=t.map gW:=⟨_,rfl⟩
 obtain⟨T,eT⟩:∃T,T=y.map gW:=⟨_,rfl⟩
 obtain⟨B,eB⟩:∃B,B=D.map Iw:=⟨_,rfl⟩
 rw[<-eL]at N al2 zl;rw[<-eO]at R Z zo;rw[<-eT]at R7 zt;rw[<-eB]at ak1 zk;rw[<-eL,<-eO,<-eT,<-eB];obtain⟨g,hCA⟩:∃g,g=PV.aq [.lst [d,e,f],.lst L,.lst T,.lst O,.lst B,.int pl]:=⟨_,rfl⟩
 have ev1:Ev Qa (S0 [some (.int a),some (.int b),some g,none,none,none,none,none,none,none]) .nx (P4 a b g d e f L T O B pl none []):=by rw[hCA];rfl
 rw[<-hCA];have d4:∀(v:Int) (x:Option PV) (h:List ak),Ek (toB (op2 j5 (op2 gk (rd 0) (kI 4)) (aW (.int v)))) (P4 a b g d e f L T O B pl x h) (a%4==v):=λv x h=>bT (b2 (b2 rfl rfl (di (by decide))) rfl (oJ _ _ _))
 refine xS ev1 (xI (d4 0 none []) (λ_=>?_) λ_=>?_)
 ·exact xR rfl (by simp[noRef,ai,n0]) ⟨.call none 0 [],by rw[e0];rfl,rfl,by decide,rfl,rfl,(λ_ h=>nomatch h),by simp,λ_ h=>nomatch h⟩
 have pkL:∀(x:Option PV) (h:List ak),Ek (op2 bQ (rd 4) (op2 gk (rd 1) (gm gM Qu))) (P4 a b g d e f L T O B pl x h) (gW i):=λx h=>b2 rfl (b2 rfl (bV (cA rfl rfl) rfl) (di zl)) (N _)
 have yX:∀(x:Option PV) (h:List ak),Ek (op2 bQ (rd 6) (op2 gk (op2 iU (rd 1) (kI 8)) (gm gM Qv))) (P4 a b g d e f L T O B pl x h) (gW E):=λx h=>b2 rfl (b2 (b2 rfl rfl (yC (by decide))) (bV (cA rfl rfl) rfl) (di zo)) (R _)
 have pkT:∀(x:Option PV) (h:List ak),Ek (op2 bQ (rd 5) (op2 gk (op2 iU (rd 1) (kI 8)) (gm gM (ao (rd 5) (aW []))))) (P4 a b g d e f L T O B pl x h) (gW H):=λx h=>b2 rfl (b2 (b2 rfl rfl (yC (by decide))) (bV (cA rfl rfl) rfl) (di zt)) (R7 _)
 refine xS (aS (lC (cA (pkL none []) (cA (yX none []) rfl)) (by simp)) rfl) ?_
 refine xI (d4 1 _ _) (λ_=>?_) λ_=>?_
 ·have d2:Ek (toB (op2 j5 (op2 gk (rd 8) (kI 2)) (kI 1))) (P4 a b g d e f L T O B pl (some (.ref 0)) [⟨.lst,[gW i,gW E]⟩]) (pl%2==1):=bT (b2 (b2 rfl rfl (di (by decide))) rfl (oJ _ _ _))
  have la:∀(r1 r2:Rk),r1∈ks->r2∈ks->[r1.2,r2.2]=pk C 1->Rt (Bi fn C ks M) (retS (kO .aq (ao (kS "call") (ao (op2 bQ (rd 7) (op2 gk (op2 iU (rd 0) (kI 4)) Qy)) (ao (op2 bQ (rd 3) (kI 1)) (ao (gm GF (ao (rd 9) (aW []))) (aW [])))))) (P4 a b g d e f L T O B pl (some (.ref 0)) [⟨.lst,[gW r1,gW r2]⟩])):=by
   intro r1 r2 h1 h2 h3;refine xR (tU (cA rfl (cA (b2 rfl (b2 (b2 rfl rfl (yC (by decide))) (bV (cA rfl rfl) rfl) (di zk)) (ak1 _)) (cA (b2 rfl rfl rfl) (cA (bV rfl rfl) rfl)))) (by simp)) (by simp[noRef,ai,n1]) ⟨.call k1 1 [r1,r2],by rw[e1];rfl,rfl,by decide,(hB k1 hk1).2,h3,(λr u=>?_),by simp,(hB k1 hk1).1⟩
   simp only[aK,fx,fK]at u;rcases u with rfl | rfl
   ·exact h1
   ·exact h2
  cases hb:(pl%2==1)with
  | true =>
   rw[hb]at d2;exact xS (iT d2 rfl) (la E i (I _ Vf).1 (m _ c).1 (by rw[(I _ Vf).2,(m _ c).2];show _=(if C.pl%2=1 then _ else _);rw[<-l,if_pos (aY hb)]))
  | false =>
   rw[hb]at d2;exact xS (iF d2 rfl) (la i E (m _ c).1 (I _ Vf).1 (by rw[(I _ Vf).2,(m _ c).2];show _=(if C.pl%2=1 then _ else _);rw[<-l,if_neg (λz=>by rw[z]at hb;cases hb)]))
 ·refine xS (aS (lC (cA (pkL _ _) (cA (pkT _ _) rfl)) (by simp)) rfl) ?_
  obtain⟨j,hj,hj2⟩:∃j:Nat,pl/2=(j:Int)/\j<=2:=⟨(pl/2).toNat,by lia,by lia⟩
  have aec:Ev (fV (xE "list" (iB (gY J0)) (rd 9) (ao (op2 iU (rd 8) (kI 2)) (ao (op2 bQ (rd 6) (op2 gk (op2 iU (rd 1) (kI 64)) (gm gM Qv))) (aW []))))) (P4 a b g d e f L T O B pl (some (.ref 1)) [⟨.lst,[gW i,gW E]⟩,⟨.lst,[gW i,gW H]⟩]) .nx (P4 a b g d e f L T O B pl (some (.ref 1)) [⟨.lst,[gW i,gW E]⟩,⟨.lst,([i,H].take j++o2::[i,H].drop j).map gW⟩]):=by
   refine dS (p:=.bB) (yZ (as:=[.int (j:Int),gW o2]) rfl rfl (cA (b2 rfl rfl (by rw[<-hj];exact yC (by decide))) (cA (b2 rfl (b2 (b2 rfl rfl (yC (by decide))) (bV (cA rfl rfl) rfl) (di zo)) (Z _)) rfl)) ?_)
   have:j=0\/j=1\/j=2:=by lia
   rcases this with rfl | rfl | rfl<;>rfl
  refine xS aec ?_;obtain⟨J,Vg⟩:∃J,J=[i,H].take j++o2::[i,H].drop j:=⟨_,rfl⟩
  rw[<-Vg];have w:(∀r∈J,r∈ks)/\J.length<=4/\J.map (·.2)=pk C 2:=by
   have:j=0\/j=1\/j=2:=by lia
   rcases this with rfl | rfl | rfl
   all_goals
    rw[Vg];refine⟨λr u=>?_,by simp,?_⟩
    rotate_left
    ·show _=[C.d4,C.d5].take (C.pl/2).toNat++C.d1::[C.d4,C.d5].drop (C.pl/2).toNat;rw[<-l,hj];simp[(I _ Y).2,(m _ c).2,(hT _ X).2]
    simp at u;rcases u with rfl | rfl | rfl
    all_goals first | exact(m _ c).1 | exact(hT _ X).1 | exact(I _ Y).1
  exact xR (tU (cA rfl (cA (b2 rfl (b2 (b2 rfl rfl (yC (by decide))) (bV (cA rfl rfl) rfl) (di zl)) (al2 _)) (cA (b2 rfl rfl rfl) (cA (bV rfl rfl) rfl)))) (by simp)) (by simp[noRef,ai,n2,fU]) ⟨.call (some l2) 2 J,by rw[e2];rfl,rfl,by decide,by show some l2.2=some C.d4;rw[(m _ hl2).2],w.2.2,w.1,w.2.1,λr u=>by cases u;exact(m _ hl2).1⟩
end
theorem P5(m:Int):∃y:Str,∀h,bQ h (.str "+-*") (.int (m%3))=some (.str y):=by
 have:m%3=0\/m%3=1\/m%3=2:=by lia
 rcases this with h | h | h<;>rw[h]
 ·exact⟨"+",λ_=>by kernel_rfl⟩
 ·exact⟨"-",λ_=>by kernel_rfl⟩
 ·exact⟨"*",λ_=>by kernel_rfl⟩
theorem aee(h:List ak)(w a b:Str):jK false h (.str w) (.aq [.str a,.str b])=some (.bl (a==w || (b==w || false))):=rfl
theorem Mn{N:List Sp}(r:N.length<=1000)(e f h i j k l m o b c p q:Option PV):Ek (dB false [none,none,none] (iY (rd 6)) (mM Qd (gO (rd 2)) (rd 1))) (S0 [e,f,h,i,j,k,some (.lst (N.map jQ)),l,m,o,b,c,p,q]) (.lst ((N.filter λt=>may t.d).map bF)):=by
 refine Wi (sV rfl rfl) (by lia) λs u=>?_
 have g:Ek (gO (rd 2)) (S0 [none,some (bF s),some (.bl (may s.d))]) (may s.d):=tR rfl rfl;cases a:may s.d with
 | true=>rw[a]at g;exact VP (by rw[<-a];rfl) g rfl
 | false=>rw[a]at g;exact VQ (by rw[<-a];rfl) g
abbrev mdT(W:List Str)(ks:List Rk)(x:Str)(dg:Int)(a b:PV):PV:=.aq [.lst (W.map .str),KL ks,SL ks,.lst ((R0 ks x dg).map jQ),a,b]
abbrev caT(fn:Nat->PV)(a b c:List Rk)(d:List (Option Rk))(pl:Int):PV:=.aq [.lst [fn 0,fn 1,fn 2],.lst (a.map gW),.lst (b.map gW),.lst (c.map gW),.lst (d.map Iw),.int pl]
theorem Wm{ks:List Rk}{x:Str}{dg:Int}(h:V2 ks):∀t∈R0 ks x dg,nsp t:=λt ht=>by
 obtain⟨s,b,ht⟩:=c6.mp ht;have a:=(iI h s b).2;unfold hJ at ht;split at ht
 ·rw[aD]at ht;subst ht;exact .inl a
 ·rw[aD]at ht;subst ht;exact .inl a
 ·rename_i e;rw[aD]at ht;subst ht;exact .inr (by show Bf s.r.2.2.2=true;rw[e];rfl)
 ·cases ht
theorem aal(k:Nat)(hk:3<=k){ks:List Rk}(K:lx ks){M:Nat}(hM:0<M){W:List Str}(hW:0<W.length)(J:∀w∈W,(w==Str.ofString "give")=false/\(w==Str.ofString "go")=false/\(w==Str.ofString "if")=false){x:Str}(L:(x,Kn.ow .num)∈ks)(hh:∃q∈ks,d9 q.2=true)(dg:Int){fn:Nat->PV}(Ef:∀j,noRef (fn j)=true){C:Cs}{R X Y:List Rk}{Z:List (Option Rk)}(Q:Wk C ks R X Y Z)(hp:0<=C.pl/\C.pl<6){f:PV}(hln:noRef f=true)(c:Int) :
  ∃p,Gives (run txt (k+3) "_law_row" [.int c,.int (M:Int),mdT W ks x dg (caT fn R X Y Z C.pl) f] []) p/\Bi fn C ks M p:=by
 obtain⟨D,n2,n3⟩:=DY K L dg;have n4:=Wm (x:=x) (dg:=dg) K.ok;obtain⟨tm,g,hmy⟩:=n3;obtain⟨N,hN⟩:∃N,N=R0 ks x dg:=⟨_,rfl⟩
 rw[<-hN]at D n2 n4 g;have o:=jC g;have h0:0<(ly ks).length:=jC (nu L);have hz:0<((W.map PV.str).length:Int):=by rw[aj];lia
 obtain⟨w,hwm,hwa⟩:=dw W PV.str (HF c 0) hW;obtain⟨a,ha⟩:∃a,a=HF c 1:=⟨_,rfl⟩
 obtain⟨b,hb⟩:∃b,b=HF c 2:=⟨_,rfl⟩
 have ma:=nh (k+1) c (i:=1) (by decide)
 have mb:=nh (k+1) c (i:=2) (by decide)
 have m0:=nh (k+1) c (i:=0) (by decide)
 rw[<-ha]at ma;rw[<-hb]at mb;obtain⟨one,e1,E⟩:=vU (k+1) D o c b;obtain⟨two,e2,o2⟩:=vU (k+1) D o (c/7) a;obtain⟨pc,c1,c2⟩:=HR K M fn C k hk w a b h0;obtain⟨pl',l1,l2⟩:=HU K M fn C (k+1) a b hh;obtain⟨pq,q1,q2⟩:=Wl K M fn C (k+1) a b Ef Q hp;obtain⟨ps,s1,s2⟩:=P1 K M fn C (k+1) w a E ⟨_,L,rfl⟩;obtain⟨T,hT⟩:∃T,T=N.filter λt=>may t.d:=⟨_,rfl⟩
 have hT0:0<T.length:=by rw[hT];exact jC (cR.mpr ⟨g,hmy⟩)
 have Gu:∀t∈T,cC ks t/\may t.d=true/\nsp t:=by
  rw[hT];exact λt ht=>⟨D t (cR.mp ht).1,(cR.mp ht).2,n4 t (cR.mp ht).1⟩
 obtain⟨t,ht,hta⟩:=dw T bF a hT0;obtain⟨t1,t2,t3⟩:=Gu t ht;have hTz:0<((T.map bF).length:Int):=by rw[aj];lia
 obtain⟨pm,hpm⟩:=P5 b;unfold mdT;rw[<-hN];obtain⟨e,u⟩:∃e,e=caT fn R X Y Z C.pl:=⟨_,rfl⟩
 rw[<-u];have q1:Gives (run txt (k+2) "_law_call" [.int a,.int b,e] []) pq:=by rw[u];exact q1
 obtain⟨md,Xn⟩:∃md,md=PV.aq [.lst (W.map .str),KL ks,SL ks,.lst (N.map jQ),e,f]:=⟨_,rfl⟩
 rw[LC];refine Rt.run ?_;have a0:Ev Qa (S0 [some (.int c),some (.int (M:Int)),some md,none,none,none,none,none,none,none,none,none,none,none]) .nx (S0 [some (.int c),some (.int (M:Int)),some md,some (.lst (W.map .str)),some (KL ks),some (SL ks),some (.lst (N.map jQ)),some e,some f,none,none,none,none,none]):=by rw[Xn];exact aS rfl rfl
 rw[<-Xn];have oc:=Mn n2 (some (.int c)) (some (.int (M:Int))) (some md) (some (.lst (W.map .str))) (some (KL ks)) (some (SL ks)) (some e) (some f) (some (.int a)) (some (.int b)) (some (.str w)) none none;rw[<-hT]at oc;have nc:∀s:cy,s.h=[]->∀as:List PV,(s.h.isEmpty || ai as)=true:=λs h as=>by rw[h];rfl
 obtain⟨S,hS⟩:∃S:cy,S=S0 [some (.int c),some (.int (M:Int)),some md,some (.lst (W.map .str)),some (KL ks),some (SL ks),some (.lst (N.map jQ)),some e,some f,some (.int a),some (.int b),some (.str w),some (.lst (T.map bF)),some (gq one)]:=⟨_,rfl⟩
 refine xS a0 (xS (aS (da (cA rfl (cA rfl rfl)) rfl rfl ma) rfl) (xS (aS (da (cA rfl (cA rfl rfl)) rfl rfl mb) rfl) (xS (aS (b2 (x:=.lst (W.map .str)) rfl (b2 (da (cA rfl (cA rfl rfl)) rfl rfl m0) (bV (as:=[.lst (W.map .str)]) (cA rfl rfl) rfl) (di hz)) (hwa _)) rfl) (xS (aS oc rfl) (xS (s1:=S) (aS (da (cA rfl (cA rfl (cA rfl rfl))) rfl rfl e1) (by rw[hS];rfl)) ?_)))))
 have l:∀v:Str,Ev (toB (op2 j5 (rd 11) (aW (.str v)))) S (w==v) S:=λv=>by rw[hS];exact bT (b2 rfl rfl (eU _ _ _))
 have ot:Ev (op2 bQ (rd 12) (op2 gk (rd 9) (gm gM (ao (rd 12) (aW []))))) S (bF t) S:=by rw[hS];exact b2 (x:=.lst (T.map bF)) rfl (b2 (x:=.int a) rfl (bV (as:=[.lst (T.map bF)]) (cA rfl rfl) rfl) (di hTz)) (hta _)
 have B:Ev (rd 9) S (.int a) S:=by rw[hS];rfl
 have H:Ev (rd 10) S (.int b) S:=by rw[hS];rfl
 have s1':Ev (rd 1) S (.int (M:Int)) S:=by rw[hS];rfl
 have so:Ev (rd 13) S (gq one) S:=by rw[hS];rfl
 have sh:(S.h.isEmpty)=true:=by rw[hS];rfl
 have cl:∀as:List PV,(S.h.isEmpty || ai as)=true:=λas=>by rw[sh];rfl
 have m:Ev (rd 11) S (.str w) S:=by rw[hS];rfl
 have r4:Ev (rd 4) S (KL ks) S:=by rw[hS];rfl
 have r5:Ev (rd 5) S (SL ks) S:=by rw[hS];rfl
 have r6:Ev (rd 6) S (.lst (N.map jQ)) S:=by rw[hS];rfl
 have r7:Ev (rd 7) S e S:=by rw[hS];rfl
 have r8:Ev (rd 8) S f S:=by rw[hS];rfl
 have r0:Ev (rd 0) S (.int c) S:=by rw[hS];rfl
 have nS:noRef (bF t)=true:=fF t1;have nO:noRef (gq one)=true:=eW.nr E;have nO2:noRef (gq two)=true:=eW.nr o2;have I:∀p,Bi fn C ks M p->noRef p=true:=λp ⟨r,h1,_,h2⟩=>by rw[h1];exact Ml Ef r h2
 refine xI (l "put") (λ_=>?_) λ_=>?_
 ·exact xR (tU (ps:=[.str "put",bF t,gq one]) (cA rfl (cA ot (cA so rfl))) (by simp)) (by simp[noRef,ai,nS,nO]) ⟨.put false t one,rfl,rfl,t1,E,t2,(λz=>nomatch z),t3⟩
 refine xI (l "set") (λ_=>?_) λ_=>?_
 ·exact xR (tU (ps:=[.str "set",bF t,.str pm,gq one,gq two]) (cA rfl (cA ot (cA (b2 (x:=.str "+-*") rfl (b2 H rfl (di (by decide))) (hpm _)) (cA so (cA (da (cA (b2 r0 rfl (yC (by decide))) (cA B (cA r6 rfl))) rfl (cl _) e2) rfl))))) (by simp)) (by simp[noRef,ai,nS,nO,nO2]) ⟨.set t pm one two,rfl,rfl,t1,E,o2,t2,t3⟩
 refine xI (bT (b2 (x:=.str w) (y:=.aq [.str "copy",.str "move"]) m rfl (aee _ _ _ _))) (λ_=>?_) λ_=>?_
 ·exact xR (da (cA m (cA B (cA H (cA r5 rfl)))) rfl (cl _) c1) (I _ c2) c2
 refine xI (l "lend") (λ_=>?_) λ_=>?_
 ·exact xR (da (cA B (cA H (cA r4 (cA r5 rfl)))) rfl (cl _) l1) (I _ l2) l2
 refine xI (l "call") (λ_=>?_) λ_=>?_
 ·exact xR (da (cA B (cA H (cA r7 rfl))) rfl (cl _) q1) (I _ q2) q2
 obtain⟨w1,w2,w3⟩:=J w hwm;refine xI (l "give") (λz=>absurd (w1.symm.trans z) dh) λ_=>?_
 refine xI (l "go") (λz=>absurd (w2.symm.trans z) dh) λ_=>?_
 refine xI (l "if") (λz=>absurd (w3.symm.trans z) dh) λ_=>?_
 exact xR (da (cA m (cA B (cA so (cA r5 rfl)))) rfl (cl _) s1) (I _ s2) s2
def mC(a:List Int)(i:Nat):Int:=HF (cell a (1+i)) (i%4)
abbrev NM(C:Int):PV:=.lst (nmL C 13)
abbrev CE(a:List Int):PV:=.lst ((List.range 7).map λi=>.int (mC a i))
def HV(a:List Int):List Sh:=[.num,iH (mC a 0),iH (mC a 1),iH (mC a 2)]
abbrev OE(a:List Int):PV:=.lst ((HV a).map enc)
theorem Mo(C:Int){q:Nat}(h:q<13)(H:List ak):bQ H (NM C) (.int (q:Int))=some (.str (gU C q)):=atI_nat (by unfold nmL;rw[bz,nK h];rfl)
theorem R8(a:List Int){q:Nat}(h:q<7)(H:List ak):bQ H (CE a) (.int (q:Int))=some (.int (mC a q)):=atI_nat (by rw[bz,nK h];rfl)
theorem Wn(b:List Int):∀s∈HV b,cV s:=λs a=>by
 simp only[HV,aK,fx,fK]at a;rcases a with rfl | rfl | rfl | rfl
 ·exact L0
 ·exact kG _
 ·exact kG _
 ·exact kG _
noncomputable def Wo(S:Option PV)(a:PV)(i:Nat)(CC b:PV)(acc:List PV)(c d:Option PV):cy:=⟨[S,some a,some (.int (i:Int)),some CC,some b,some (.ref 0),c,d],[⟨.lst,acc⟩]⟩
theorem nz(k:Nat)(hk:3<=k)(C:Int)(a:List Int)(S:Option PV){i:Nat}(R:i<4)(acc:List PV)(X:acc.length<=100)(x y:Option PV):∃(d:Kn) (B D:Option PV),Ev (Hw (run txt (k+1))) (Wo S (NM C) i (CE a) (OE a) acc x y) .nx (Wo S (NM C) i (CE a) (OE a) (acc++[bu (gU C (4+i),d)]) B D)/\d9 d=true/\cV (bN d):=by
 obtain⟨m,E⟩:∃m,m=mC a (3+i):=⟨_,rfl⟩
 have hc:=R8 a (q:=3+i) (by lia)
 rw[<-E]at hc;obtain⟨CC,c⟩:∃CC,CC=CE a:=⟨_,rfl⟩
 rw[<-c]at hc;rw[<-c];have o:=Mo C (q:=4+i) (by lia)
 obtain⟨g,p⟩:∃g,g=NM C:=⟨_,rfl⟩
 rw[<-p]at o;rw[<-p];have H:∀h,eG h (.int 3) (.int (i:Int))=some (.int ((3+i:Nat):Int)):=λ_=>cS (λz=>some (PV.int z)) (by lia)
 have I:∀h,eG h (.int 4) (.int (i:Int))=some (.int ((4+i:Nat):Int)):=λ_=>cS (λz=>some (PV.int z)) (by lia)
 obtain⟨s,J,t⟩:∃s∈HV a,∀h,bQ h (OE a) (.int (1+m%3))=some (enc s):=by
  have:m%3=0\/m%3=1\/m%3=2:=by lia
  rcases this with h | h | h
  ·rw[h];exact⟨iH (mC a 0),by simp[HV],λ_=>(atI_nat rfl:L2.lb ((HV a).map enc) ((1:Nat):Int)=_)⟩
  ·rw[h];exact⟨iH (mC a 1),by simp[HV],λ_=>(atI_nat rfl:L2.lb ((HV a).map enc) ((2:Nat):Int)=_)⟩
  ·rw[h];exact⟨iH (mC a 2),by simp[HV],λ_=>(atI_nat rfl:L2.lb ((HV a).map enc) ((3:Nat):Int)=_)⟩
 have fs:=Wn a s J;obtain⟨j,e⟩:∃j,j=OE a:=⟨_,rfl⟩
 rw[<-e]at t;rw[<-e];have hp:=yF s k (by have:=fs.1.1.2;lia) (by have:=fs.1.1.1;lia)
 obtain⟨r,L,f⟩:=dw (tab s) jP (m/9) (ip s);have u:0<(((tab s).map jP).length:Int):=by have:=ip s;rw[aj];lia
 obtain⟨T,M⟩:∃T,T=(tab s).map jP:=⟨_,rfl⟩
 rw[<-M]at hp f u;obtain⟨b,N⟩:∃b:Bool,∀h,bQ h (.lst [.str "lent",.str "sole",.str "sole"]) (.int (m/3%3))=some (.str (hw b)):=by
  have:m/3%3=0\/m/3%3=1\/m/3%3=2:=by lia
  rcases this with h | h | h
  ·rw[h];exact⟨false,λ_=>rfl⟩
  ·rw[h];exact⟨true,λ_=>rfl⟩
  ·rw[h];exact⟨true,λ_=>rfl⟩
 refine⟨.ho b r.2.2.2,some (.lst T),some (.str (hw b)),?_,rfl,L3 fs L⟩;have l:∀(v w:Option PV),Ek (op2 bQ (rd 3) (op2 eG (kI 3) (rd 2))) (Wo S g i CC j acc v w) (.int m):=λv w=>b2 rfl (b2 rfl rfl (H _)) (hc _)
 refine sq (aS (da (cA (b2 rfl (b2 rfl (b2 (l _ _) rfl (di (by decide))) rfl) (t _)) rfl) rfl (by simp[ai,c8]) hp) rfl) (sq (aS (b2 rfl (b2 (b2 (l _ _) rfl (yC (by decide))) rfl (di (by decide))) (N _)) rfl) ?_)
 have Q:∀h,gM h [.lst T]=some (.int (T.length:Int)):=λ_=>rfl
 exact dS (yZ rfl rfl (cA (tU (cA (b2 rfl (b2 rfl rfl (I _)) (o _)) (cA (tU (cA rfl (cA (b2 (b2 rfl (b2 (b2 (l _ _) rfl (yC (by decide))) (bV (cA rfl rfl) (Q _)) (di u)) (f _)) rfl rfl) rfl)) (by simp)) rfl)) (by simp)) rfl) (aC rfl (by lia)))
abbrev ltL(C:Int)(a:List Int)(d4 d5 b c:Kn):List Rk:=[(gU C 0,.ow .num),(gU C 1,.ow (iH (mC a 0))),(gU C 2,.ow (iH (mC a 1))),(gU C 3,.ow (iH (mC a 2))),(gU C 4,d4),(gU C 5,d5),(gU C 6,b),(gU C 7,c)]
theorem tJ:∀l:List Rk,ai (l.map bu)=true
 | []=>rfl
 | r::l=>by rw[aM];simp[ai,noRef,bu,qt,tJ l]
theorem Wq(k:Nat)(hk:3<=k)(C:Int)(a:List Int):∃d4 d5 c d:Kn,Gives (run txt (k+2) "_law_lets" [ya a,NM C] []) (.lst ((ltL C a d4 d5 c d).map bu))/\(d9 d4=true/\cV (bN d4))/\(d9 d5=true/\cV (bN d5))/\(d9 c=true/\cV (bN c))/\(d9 d=true/\cV (bN d)):=by
 obtain⟨S,hS⟩:∃S,S=ya a:=⟨_,rfl⟩
 have I:∀i:Nat,Gives (run txt (k+1) "_law_cell_at" [S,.int (i:Int)] []) (.int (cell a i)):=λi=>by rw[hS];exact LV k a i
 obtain⟨b,p⟩:∃b,b=(([(gU C 0,.ow .num),(gU C 1,.ow (iH (mC a 0))),(gU C 2,.ow (iH (mC a 1))),(gU C 3,.ow (iH (mC a 2)))]:List Rk).map bu):=⟨_,rfl⟩
 have J:b.length=4:=by rw[p];rfl
 obtain⟨d4,r,t,L,M⟩:=nz k hk C a (some S) (i:=0) (by decide) b (by lia) none none
 obtain⟨d5,u,v,N,Q⟩:=nz k hk C a (some S) (i:=1) (by decide) (b++[bu (gU C 4,d4)]) (by simp;lia) r t
 obtain⟨c,w,B,R,T⟩:=nz k hk C a (some S) (i:=2) (by decide) (b++[bu (gU C 4,d4)]++[bu (gU C 5,d5)]) (by simp;lia) u v
 obtain⟨d,v6,v7,D,X⟩:=nz k hk C a (some S) (i:=3) (by decide) (b++[bu (gU C 4,d4)]++[bu (gU C 5,d5)]++[bu (gU C 6,c)]) (by simp;lia) w B
 refine⟨d4,d5,c,d,?_,M,Q,T,X⟩;rw[Hx,<-hS];have Y:Ek (dB false [none,none,some 0] (EJ (pM xD (ao (kI 7) (aW [])))) (kR (aU 1) (bnd (ao (bnd (ao (rd 2) (ao (op2 eG (kI 1) (rd 1)) (aW []))) (bK 0 2 (run txt (k+1) "_law_cell_at"))) (ao (op2 gk (rd 1) (kI 4)) (aW []))) (bK 0 2 (run txt (k+1) "_law_mixed"))))) (S0 [some S,some (NM C),none,none,none,none,none,none]) (CE a):=by
  refine cM (lu (cA rfl rfl) (by lia)) (by simp) λi e=>?_
  have f:ni i=iN i:=by unfold ni iN;rw[lM]
  rw[f];have h1:∀h,eG h (.int 1) (.int (i:Int))=some (.int ((1+i:Nat):Int)):=λ_=>cS (λz=>some (PV.int z)) (by lia)
  have Z:∀h,gk h (.int (i:Int)) (.int 4)=some (.int ((i%4:Nat):Int)):=λh=>by
   rw[di (by decide)]
   exact cS (λz=>some (PV.int z)) (by lia)
  exact e1 rfl (da (cA (da (cA rfl (cA (b2 rfl rfl (h1 _)) rfl)) rfl rfl (I (1+i))) (cA (b2 rfl rfl (Z _)) rfl)) rfl rfl (nh k (cell a (1+i)) (by lia)))
 have c2:Ek (op2 eG (kO .lst (ao (kO .aq (ao (kS "num") (aW []))) (aW []))) (dB false [none,none,some 3] (EJ (pM xD (ao (kI 3) (aW [])))) (kR (aU 1) (bnd (ao (op2 bQ (rd 2) (rd 1)) (aW [])) (bK 0 1 (run txt (k+1) "_law_shape")))))) (S0 [some S,some (NM C),none,some (CE a),none,none,none,none]) (OE a):=by
  refine b2 (x:=.lst [enc .num]) (y:=.lst ((List.range 3).map λi=>enc (iH (mC a i)))) rfl (cM (lu (j:=3) (cA rfl rfl) (by lia)) (by simp) λi e=>?_) (aL (by simp))
  have e:=c7.mp e;have f:ni i=iN i:=by unfold ni iN;rw[lM]
  rw[f];have hc:=R8 a (q:=i) (by lia)
  obtain⟨CC,g⟩:∃CC,CC=CE a:=⟨_,rfl⟩
  rw[<-g]at hc;rw[<-g];exact e1 (C4:=[none,some (iN i),some CC]) (h1:=[]) rfl (da (cA (b2 (x:=CC) (y:=.int (i:Int)) rfl rfl (hc _)) rfl) rfl rfl (PK k (mC a i)))
 have c3:Ev (dc (dB true [none,none,some 1,some 4] (EJ (pM xD (ao (kI 4) (aW [])))) (kR (aU 1) (kO .aq (ao (op2 bQ (rd 2) (rd 1)) (ao (op2 bQ (rd 3) (rd 1)) (aW [])))))) (aU 5)) (S0 [some S,some (NM C),none,some (CE a),some (OE a),none,none,none]) .nx ⟨[some S,some (NM C),none,some (CE a),some (OE a),some (.ref 0),none,none],[⟨.lst,b⟩]⟩:=by
  have ea:b=(List.range 4).map λi=>PV.aq [.str (gU C i),enc ((HV a).getD i .num)]:=by rw[p];rfl
  rw[ea];refine aS (cN (lu (j:=4) (cA rfl rfl) (by lia)) (by simp) (cF _ λi e=>?_)) rfl
  have e:=c7.mp e;have f:ni i=iN i:=by unfold ni iN;rw[lM]
  rw[f];have E:=Mo C (q:=i) (by lia)
  have ho:∀h,bQ h (OE a) (.int (i:Int))=some (enc ((HV a).getD i .num)):=λ_=>(atI_nat (by
   have:i=0\/i=1\/i=2\/i=3:=by lia
   rcases this with rfl | rfl | rfl | rfl<;>rfl):L2.lb ((HV a).map enc) (i:Int)=_)
  obtain⟨m,H⟩:∃m,m=NM C:=⟨_,rfl⟩
  rw[<-H]at E;rw[<-H];obtain⟨o,l⟩:∃o,o=OE a:=⟨_,rfl⟩
  rw[<-l]at ho;rw[<-l];exact e1 (C4:=[none,some (iN i),some m,some o]) (h1:=[]) rfl (tU (cA (b2 (x:=m) (y:=.int (i:Int)) rfl rfl (E _)) (cA (b2 (x:=o) (y:=.int (i:Int)) rfl rfl (ho _)) rfl)) (by simp))
 have hl:b++[bu (gU C 4,d4)]++[bu (gU C 5,d5)]++[bu (gU C 6,c)]++[bu (gU C 7,d)]=(ltL C a d4 d5 c d).map bu:=by rw[p];rfl
 rw[hl]at D;refine⟨.ref 0,_,gz (sq (aS Y rfl) (sq (aS c2 rfl) (sq c3 (sq (fS (lu (j:=4) (cA rfl rfl) (by lia)) (fC (s1:=Wo (some S) (NM C) 0 (CE a) (OE a) b none none) rfl L (fC (s1:=Wo (some S) (NM C) 1 (CE a) (OE a) (b++[bu (gU C 4,d4)]) r t) rfl N (fC (s1:=Wo (some S) (NM C) 2 (CE a) (OE a) (b++[bu (gU C 4,d4)]++[bu (gU C 5,d5)]) u v) rfl R (fC (s1:=Wo (some S) (NM C) 3 (CE a) (OE a) (b++[bu (gU C 4,d4)]++[bu (gU C 5,d5)]++[bu (gU C 6,c)]) w B) rfl D rfl))))) (rS rfl))))),l8 (tJ _)⟩
theorem aao(h:List ak):Oj h (.int 10) (.int 12)=some (.int (10^12)):=by kernel_rfl
theorem qy(m:Int):m%4=0\/m%4=1\/m%4=2\/m%4=3:=by lia
structure Md where
 C:Int
 s1:Sh
 s2:Sh
 s3:Sh
 b4:Bool
 t4:Sh
 b5:Bool
 t5:Sh
 d6:Kn
 d7:Kn
 pl:Int
 bk:Int
 L:List Ro
namespace Md
variable (m:Md)
abbrev d4:Kn:=.ho m.b4 m.t4
abbrev d5:Kn:=.ho m.b5 m.t5
def nm(i:Nat):Str:=gU m.C i
def P:List Rk:=if m.pl%2=1 then [(m.nm 9,.ow m.s1),(m.nm 8,m.d4)]else [(m.nm 8,m.d4),(m.nm 9,.ow m.s1)]
def LT:List Rk:=[(m.nm 0,.ow .num),(m.nm 1,.ow m.s1),(m.nm 2,.ow m.s2),(m.nm 3,.ow m.s3),(m.nm 4,m.d4),(m.nm 5,m.d5),(m.nm 6,m.d6),(m.nm 7,m.d7)]
def ks:List Rk:=m.P++m.LT
noncomputable def so1:List Nat:=if m.bk%4=2 then [8]else []
noncomputable def so2:List Nat:=if m.bk/4%4=0 then []else if m.bk/4%4=1 then [0]else if m.bk/4%4=2 then [1]else [0,1]
def sT(l:List Nat):PV:=.aq (l.map λi=>.str (m.nm i))
def res:PV:=if m.bk%4=0 then .bB else if m.bk%4=3 then enc m.s2 else .aq [.str (hw m.b5),enc m.t5,m.sT m.so1]
def z:Option Rk:=if m.bk%4=0 then none else if m.bk%4=3 then some (m.nm 2,.ow m.s2)else some (m.nm 5,m.d5)
def hd:List Rk:=[(m.nm 0,m.d4),(m.nm 1,m.d5)].take (m.pl/2).toNat++(m.nm 2,.ow m.s1)::[(m.nm 0,m.d4),(m.nm 1,m.d5)].drop (m.pl/2).toNat
def fn(j:Nat):PV:=.str (m.nm (10+j))
def cs:Cs:=⟨.ow m.s1,m.d4,m.d5,m.z.map (·.2),m.pl⟩
def rows:List PV:=m.L.map (bW m.fn)
def F1:PV:=BC (m.fn 1) m.res (.aq m.rows) m.P m.LT
def F0:PV:=.aq [m.fn 0,.aq [],.bB,.aq [],.aq [.aq [.str "give",.str ""]]]
def F2:PV:=.aq [m.fn 2,.aq (m.hd.map bu),.aq [.str (hw m.b4),enc m.t4,m.sT m.so2],.aq [],.aq [.aq [.str "give",.str (m.nm 0)]]]
def prog:PV:=.aq [m.F0,m.F1,m.F2]
end Md
structure cD (m:Md) (most:Nat):Prop where
 f1:cV m.s1
 f2:cV m.s2
 f3:cV m.s3
 f4:cV m.t4
 f5:cV m.t5
 f6:d9 m.d6=true/\cV (bN m.d6)
 f7:d9 m.d7=true/\cV (bN m.d7)
 pl:0<=m.pl/\m.pl<6
 rows:∃L,m.L=L++[.iJ m.z]/\L.length<=most/\∀r∈L,Xj r=false
 ok:∀r∈m.L,oK m.cs m.ks m.L.length r
theorem DZ(C:Int):∀l:List (Fin 26),l.Nodup->(l.map λi=>gU C i.1).Nodup
 | [],_=>jX
 | i::l,h=>by
  rw[gg]at h;rw[aM,gg];refine⟨λa=>?_,DZ C l h.2⟩
  obtain⟨j,b,e⟩:=au.mp a;have:=PH j.2 i.2 e;exact h.1 (by rw[<-Fin.ext this];exact b)
section
variable {m:Md}
theorem me:m.ks.length=10:=by
 unfold Md.ks Md.P;split<;>rfl
theorem R9{q:Rk}(h:q∈m.P):q=(m.nm 9,.ow m.s1)\/q=(m.nm 8,m.d4):=by
 unfold Md.P at h;split at h
 all_goals simp only[aK,fx,fK]at h
 ·exact h
 ·exact h.symm
theorem Sb{q:Rk}(h:q∈m.LT):q=(m.nm 0,.ow .num)\/q=(m.nm 1,.ow m.s1)\/q=(m.nm 2,.ow m.s2)\/q=(m.nm 3,.ow m.s3)\/q=(m.nm 4,m.d4)\/q=(m.nm 5,m.d5)\/q=(m.nm 6,m.d6)\/q=(m.nm 7,m.d7):=by
 unfold Md.LT at h;simpa only[aK,fx,fK]using h
theorem vW:(m.ks.map (·.1)).Nodup:=by
 unfold Md.ks Md.P;split
 ·exact DZ m.C [9,8,0,1,2,3,4,5,6,7] (by decide)
 ·exact DZ m.C [8,9,0,1,2,3,4,5,6,7] (by decide)
theorem Sd{q:Rk}(h:q∈m.ks):∃i,i<10/\q.1=m.nm i:=by
 rcases bA.mp h with h | h
 ·rcases R9 h with rfl | rfl
  ·exact⟨9,by decide,rfl⟩
  ·exact⟨8,by decide,rfl⟩
 ·rcases Sb h with rfl | rfl | rfl | rfl | rfl | rfl | rfl | rfl
  ·exact⟨0,by decide,rfl⟩
  ·exact⟨1,by decide,rfl⟩
  ·exact⟨2,by decide,rfl⟩
  ·exact⟨3,by decide,rfl⟩
  ·exact⟨4,by decide,rfl⟩
  ·exact⟨5,by decide,rfl⟩
  ·exact⟨6,by decide,rfl⟩
  ·exact⟨7,by decide,rfl⟩
theorem Sf(a:cV m.s1)(c:cV m.s2)(d:cV m.s3)(b:cV m.t4)(f:cV m.t5)(g:cV (bN m.d6))(j:cV (bN m.d7)):lx m.ks:=by
 refine⟨vW,λq h=>?_,by rw[me];decide,λq h=>?_⟩
 ·rcases bA.mp h with h | h
  ·rcases R9 h with rfl | rfl
   ·exact a
   ·exact b
  ·rcases Sb h with rfl | rfl | rfl | rfl | rfl | rfl | rfl | rfl
   ·exact L0
   ·exact a
   ·exact c
   ·exact d
   ·exact b
   ·exact f
   ·exact g
   ·exact j
 ·obtain⟨i,_,e⟩:=Sd h;rw[e];exact DX m.C i
theorem cD.ks{a:Nat}(h:cD m a):lx m.ks:=Sf h.f1 h.f2 h.f3 h.f4 h.f5 h.f6.2 h.f7.2
theorem pC(j:Nat):noRef (m.fn j)=true:=rfl
theorem aaq:∀r,m.z=some r->r∈m.ks:=λr h=>by
 unfold Md.z at h;have a:((m.nm 2,.ow m.s2):Rk)∈m.ks:=de _ (by simp[Md.LT])
 have b:((m.nm 5,m.d5):Rk)∈m.ks:=de _ (by simp[Md.LT])
 split at h
 ·cases h
 ·split at h
  ·cases h;exact a
  ·cases h;exact b
end
def fk(ks:List Rk)(d:Kn):List Rk:=ks.filter λq=>eqT (Mj q.2) (Mj d)
theorem FF{ks:List Rk}{r:Rk}(h:r∈ks):(∀q∈fk ks r.2,q∈ks/\q.2=r.2)/\0<(fk ks r.2).length:=⟨λq a=>⟨(cR.mp a).1,Wg _ _ (cR.mp a).2⟩,jC (cR.mpr ⟨h,iV _⟩)⟩
theorem toT_K(h:List ak){d:Kn}(a:yt (bN d)):toT h eH (encK d)=some (Mj d):=by
 cases d with
 | ow s=>exact toT_enc h s eH (by have:=a.2;simp only[bN]at this;show _<1000;lia)
 | ho b s =>
  have e1:=toT_enc h s 999 (by have:=a.2;simp only[bN]at this;show _<999;lia)
  show((cb (toT h 999) [.str (hw b),enc s]).bind (JS .aq))=_;simp only[cb,e1];rfl
theorem aar(h:List ak){d e:Kn}(hd:yt (bN d))(he:yt (bN e)):j5 h (encK d) (encK e)=some (.bl (eqT (Mj d) (Mj e))):=by
 show((toT h eH (encK d)).bind λx=>(toT h eH (encK e)).map λy=>eqT x y).map PV.bl=_
 rw[toT_K h hd,toT_K h he];rfl
theorem qz{ks:List Rk}(K:lx ks){s:cy}{LL:PV}(c:Ev (rd 8) s (KL ks) s)(d:bY [none,none,none,some 4] s.ρ=[none,none,none,some LL]){j:Int}{a:Rk}(e:a∈ks)(f:∀h,bQ h LL (.int j)=some (bu a)):Ev (dB false [none,none,none,some 4] (iY (rd 8)) (mM Qd (toB (op2 j5 (rd 2) (op2 bQ (op2 bQ (rd 3) (aW (.int j))) (kI 1)))) (rd 1))) s (.lst ((fk ks a.2).map gW)) s:=by
 have k:=K.few;refine Wi (sV c rfl) (by lia) λq i=>?_
 rw[d];have g:Ek (toB (op2 j5 (rd 2) (op2 bQ (op2 bQ (rd 3) (aW (.int j))) (kI 1)))) ⟨[none,some (.str q.1),some (encK q.2),some LL],s.h⟩ (eqT (Mj q.2) (Mj a.2)):=bT (b2 rfl (b2 (b2 rfl rfl (f _)) rfl rfl) (aar _ (K.ok q i) (K.ok a e)));cases b:eqT (Mj q.2) (Mj a.2)with
 | true=>rw[b]at g;exact VP rfl g rfl
 | false=>rw[b]at g;exact VQ rfl g
theorem HW(a:List Int)(n:Nat):∃cs:List Int,j6 (a.map PV.int) (some 8) (some (8+(n:Int)))=cs.map .int/\cs.length<=n:=by
 have e1:=HT.xf (a.map PV.int).length 0 8;have b:=HT.xf (a.map PV.int).length (a.map PV.int).length (8+n);unfold j6;rw[show(some 8:Option Int)=some ((8:Nat):Int)from rfl,show(some (8+(n:Int)):Option Int)=some ((8+n:Nat):Int) by rw[Int.natCast_add];rfl,e1,b,<-List.map_drop,<-List.map_take]
 exact⟨_,rfl,by rw[jV];lia⟩
theorem FG{fn:Nat->PV}{R:Ro->Prop}{bd:PV->List ak->Option (Option PV×List ak)}{h:List ak}:∀cs:List Int,(∀c∈cs,∃r,bd (.int c) h=some (some (bW fn r),h)/\R r)->∃L:List Ro,fg bd (cs.map PV.int) h=some (L.map (bW fn),h)/\(∀r∈L,R r)/\L.length=cs.length
 | [],_=>⟨[],rfl,(λ_ z=>nomatch z),rfl⟩
 | c::cs,H=>by
  obtain⟨r,b,d⟩:=H c aJ;obtain⟨L,e,f,g⟩:=FG cs λc hc=>H c (aH _ hc)
  refine⟨r::L,?_,λq a=>?_,by simp[g]⟩
  ·show(bd (.int c) h).bind _=_;rw[b];show(fg bd (cs.map PV.int) h).map _=_;rw[e];rfl
  ·rcases aK.mp a with rfl | a
   ·exact d
   ·exact f q a
theorem cN'{link:List (Option Nat)}{fi:Gx yW}{bd:Bd}{s s1:cy}{ps a:List PV}(b:Ev fi s (.sq ps) s1)(c:ps.length<=4000000)(d:fg (bd (bY link s1.ρ)) ps s1.h=some (a,s1.h)):Ev (dB false link fi bd) s (.lst a) s1:=eB b (by
 show(if ps.length<=fL then fg _ ps s1.h else none).bind _=_
 rw[if_pos (show ps.length<=fL from c),d]
 rfl)
theorem FH:∀l:List Str,ai (l.map PV.str)=true
 | []=>rfl
 | _::l=>by rw[aM];simp[ai,noRef,FH l]
theorem yL:∀l:List PV,(∀p∈l,noRef p=true)->ai l=true
 | [],_=>rfl
 | p::l,h=>by simp[ai,h p aJ,yL l λq a=>h q (aH _ a)]
def pS(l:List (Option PV))(h:List ak):cy:=⟨(l.reverse++List.replicate 24 none).take 24,h⟩
theorem aQ{b:Gx PV}{g:Gx dE}{P:PV->Prop}{l:List (Option PV)}{h h':List ak}{p q:PV}{s1:cy}{i:Nat}(a:Ev b (pS l h) p s1)(c:p=q)(d:s1=pS l h')(ht:aU i q (pS l h')=some (pS (some q::l) h')) (k:Rt P (g (pS (some q::l) h'))):Rt P (d0 (dc b (aU i)) g (pS l h)):=by
 subst c d;exact xS (aS a ht) k
theorem aP{b:Gx PV}{g:Gx dE}{P:PV->Prop}{l:List (Option PV)}{h:List ak}{p:PV}{i:Nat}(a:Ek b (pS l h) p)(ht:aU i p (pS l h)=some (pS (some p::l) h)) (k:Rt P (g (pS (some p::l) h))):Rt P (d0 (dc b (aU i)) g (pS l h)):=xS (aS a ht) k
theorem xH{f g:Gx dE}{P:PV->Prop}{l:List (Option PV)}{h h':List ak}(a:Ev f (pS l h) .nx (pS l h'))(k:Rt P (g (pS l h'))):Rt P (d0 f g (pS l h)):=xS a k
theorem HX(k:Nat)(hk:3<=k)(g:List Int)(f:Nat)(afI:f<=31){W:List Str}(hW:0<W.length)(hWs:∀w∈W,(w==Str.ofString "give")=false/\(w==Str.ofString "go")=false/\(w==Str.ofString "if")=false):∃m,Gives (run txt (k+4) "_law_program" [ya g,.int (f:Int),.lst (W.map .str)] []) (Md.prog m)/\cD m f:=by
 obtain⟨S,hS⟩:∃S,S=ya g:=⟨_,rfl⟩
 have j0:Gives (run txt (k+3) "_law_cell_at" [S,.int 0] []) (.int (cell g 0)):=by rw[hS];exact LV (k+2) g 0
 obtain⟨C,hC⟩:∃C,C=cell g 0%10^12:=⟨_,rfl⟩
 have hn:=PJ (k+2) C 13 (by decide)
 obtain⟨d4,d5,d6,d7,zU,i4,i5,i6,i7⟩:=Wq (k+1) (by lia) C g
 obtain⟨back,aas⟩:∃back,back=HF (cell g 0) 3:=⟨_,rfl⟩
 have hb:=nh (k+2) (cell g 0) (i:=3) (by decide)
 rw[<-aas]at hb;obtain⟨b4,t4,e4⟩:∃b4 t4,d4=.ho b4 t4:=by
  cases d4 with
  | ow s=>cases i4.1
  | ho b s=>exact⟨b,s,rfl⟩
 obtain⟨b5,t5,e5⟩:∃b5 t5,d5=.ho b5 t5:=by
  cases d5 with
  | ow s=>cases i5.1
  | ho b s=>exact⟨b,s,rfl⟩
 subst e4 e5;obtain⟨s1,q1⟩:∃s,s=iH (mC g 0):=⟨_,rfl⟩
 obtain⟨s2,q2⟩:∃s,s=iH (mC g 1):=⟨_,rfl⟩
 obtain⟨s3,q3⟩:∃s,s=iH (mC g 2):=⟨_,rfl⟩
 have f1:=kG (mC g 0);have f2:=kG (mC g 1);have f3:=kG (mC g 2);rw[<-q1]at f1;rw[<-q2]at f2;rw[<-q3]at f3;unfold ltL at zU;rw[<-q1,<-q2,<-q3]at zU;obtain⟨d,H⟩:∃m:Md,m=⟨C,s1,s2,s3,b4,t4,b5,t5,d6,d7,back/1024%6,back,[]⟩:=⟨_,rfl⟩
 have hp6:0<=d.pl/\d.pl<6:=by rw[H];show 0<=back/1024%6/\back/1024%6<6;lia
 have K:lx d.ks:=by rw[H];exact Sf f1 f2 f3 i4.2 i5.2 i6.2 i7.2
 have fm:cV d.s1/\cV d.s2/\cV d.s3/\cV d.t4/\cV d.t5/\(d9 d.d6=true/\cV (bN d.d6))/\(d9 d.d7=true/\cV (bN d.d7)):=by rw[H];exact⟨f1,f2,f3,i4.2,i5.2,i6,i7⟩
 have zU:Gives (run txt (k+1+2) "_law_lets" [ya g,NM C] []) (.lst (d.LT.map bu)):=by rw[H];exact zU
 have B:d.bk=back:=by rw[H]
 have nH:d.pl=back/1024%6:=by rw[H]
 have hCm:d.C=C:=by rw[H]
 clear H;have t:∀q∈d.LT,q∈d.ks:=λq hq=>de _ hq
 have M0:((d.nm 0,Kn.ow .num):Rk)∈d.ks:=t _ (by simp[Md.LT])
 have M1:((d.nm 1,Kn.ow d.s1):Rk)∈d.ks:=t _ (by simp[Md.LT])
 have M2:((d.nm 2,Kn.ow d.s2):Rk)∈d.ks:=t _ (by simp[Md.LT])
 have M4:((d.nm 4,d.d4):Rk)∈d.ks:=t _ (by simp[Md.LT])
 have M5:((d.nm 5,d.d5):Rk)∈d.ks:=t _ (by simp[Md.LT])
 obtain⟨LL,I⟩:∃LL,LL=PV.lst (d.LT.map bu):=⟨_,rfl⟩
 have l1:∀h,bQ h LL (.int 1)=some (bu (d.nm 1,.ow d.s1)):=λ_=>by rw[I];rfl
 have l2:∀h,bQ h LL (.int 2)=some (bu (d.nm 2,.ow d.s2)):=λ_=>by rw[I];rfl
 have l4:∀h,bQ h LL (.int 4)=some (bu (d.nm 4,d.d4)):=λ_=>by rw[I];rfl
 have l5:∀h,bQ h LL (.int 5)=some (bu (d.nm 5,d.d5)):=λ_=>by rw[I];rfl
 obtain⟨e,M7⟩:∃e,e=NM C:=⟨_,rfl⟩
 have D:∀q:Nat,q<13->∀h,bQ h e (.int (q:Int))=some (.str (d.nm q)):=λq hq h=>by
  rw[M7];show _=some (PV.str (gU d.C q));rw[hCm];exact Mo C hq h
 have n0:∀h,bQ h e (.int 0)=some (.str (d.nm 0)):=D 0 (by decide)
 have n1:∀h,bQ h e (.int 1)=some (.str (d.nm 1)):=D 1 (by decide)
 have n2:∀h,bQ h e (.int 2)=some (.str (d.nm 2)):=D 2 (by decide)
 have n5:∀h,bQ h e (.int 5)=some (.str (d.nm 5)):=D 5 (by decide)
 have n8:∀h,bQ h e (.int 8)=some (.str (d.nm 8)):=D 8 (by decide)
 have n9:∀h,bQ h e (.int 9)=some (.str (d.nm 9)):=D 9 (by decide)
 have n10:∀h,bQ h e (.int 10)=some (d.fn 0):=D 10 (by decide)
 have n11:∀h,bQ h e (.int 11)=some (d.fn 1):=D 11 (by decide)
 have n12:∀h,bQ h e (.int 12)=some (d.fn 2):=D 12 (by decide)
 have aej:∀h,Il h (some 10) none e=some (.lst [d.fn 0,d.fn 1,d.fn 2]):=λh=>by
  rw[M7];show some (PV.lst (j6 _ (some 10) none))=some (.lst [.str (gU d.C 10),.str (gU d.C 11),.str (gU d.C 12)]);rw[hCm];rfl
 obtain⟨cs,W6,hcl⟩:=HW g f;have aek:∀h,Il h (some 8) (some (8+(f:Int))) S=some (.lst (cs.map .int)):=λh=>by
  rw[hS];show some (PV.lst (j6 (g.map .int) (some 8) (some (8+(f:Int)))))=_;rw[W6]
 have rs:∀h,bQ h (.lst [.bB,.aq [.str (hw d.b5),enc d.t5,.aq []],.aq [.str (hw d.b5),enc d.t5,.aq [.str (d.nm 8)]],enc d.s2]) (.int (back%4))=some d.res:=λ_=>by
  unfold Md.res Md.so1;rw[B];rcases qy back with h | h | h | h<;>rw[h]<;>rfl
 have rz:∀h,bQ h (.lst [.str "",.str (d.nm 5),.str (d.nm 5),.str (d.nm 2)]) (.int (back%4))=some (Iw d.z):=λ_=>by
  unfold Md.z;rw[B];rcases qy back with h | h | h | h<;>rw[h]<;>rfl
 obtain⟨J,hBK,hB1,hB2⟩:∃J:List (Option Rk),(∀h,bQ h (.lst [.lst [.str ""],.lst ((fk d.ks d.d5).map gW),.lst ((fk d.ks d.d5).map gW),.lst ((fk d.ks (.ow d.s2)).map gW)]) (.int (back%4))=some (.lst (J.map Iw)))/\(∀o∈J,(∀r,o=some r->r∈d.ks)/\o.map (·.2)=d.z.map (·.2))/\0<J.length:=by
  have sm:∀{r:Rk},r∈d.ks->d.z.map (·.2)=some r.2->(∀o∈(fk d.ks r.2).map some,(∀q,o=some q->q∈d.ks)/\o.map (·.2)=d.z.map (·.2))/\0<((fk d.ks r.2).map some).length:=λ{r} N hz=>by
   obtain⟨g1,g2⟩:=FF N;refine⟨λo ho=>?_,by rw[aj];exact g2⟩
   obtain⟨q',ud,rfl⟩:=au.mp ho;exact⟨λq hq=>by cases hq;exact(g1 _ ud).1,by rw[hz];show some q'.2=_;rw[(g1 _ ud).2]⟩
  have mm:∀l:List Rk,(l.map some).map Iw=l.map gW:=λl=>by rw[cJ];rfl
  unfold Md.z at sm ⊢;rw[B]at sm ⊢;rcases qy back with h | h | h | h<;>rw[h]at sm ⊢
  ·refine⟨[none],λ_=>rfl,λo ho=>?_,by simp⟩
   rw[aD]at ho;subst ho;exact⟨(λ_ z=>nomatch z),rfl⟩
  ·exact⟨(fk d.ks d.d5).map some,λ_=>by rw[mm];rfl,sm M5 rfl⟩
  ·exact⟨(fk d.ks d.d5).map some,λ_=>by rw[mm];rfl,sm M5 rfl⟩
  ·exact⟨(fk d.ks (.ow d.s2)).map some,λ_=>by rw[mm];rfl,sm M2 rfl⟩
 have CO:Wk d.cs d.ks (fk d.ks d.d4) (fk d.ks d.d5) (fk d.ks (.ow d.s1)) J:=⟨FF M4,FF M5,FF M1,hB1,hB2⟩;have v20:∀h,bQ h (.lst [.aq [],.aq [.str (d.nm 0)],.aq [.str (d.nm 1)],.aq [.str (d.nm 0),.str (d.nm 1)]]) (.int (back/4%4))=some (d.sT d.so2):=λ_=>by
  unfold Md.so2;rw[B];rcases qy (back/4)with h | h | h | h<;>rw[h]<;>rfl
 have ael:=PM (k+1) (by lia) d.ks K.ok (by rw[me];decide)
 have aem:=HM (k+2) K M0 (back/16%64);obtain⟨E,Mp⟩:∃E,E=PV.aq [.str "give",Iw d.z]:=⟨_,rfl⟩
 have Q:noRef E=true:=by rw[Mp];rfl
 have Ws:=λc:Int=>aal k hk K (M:=cs.length+1) (by lia) hW hWs M0 ⟨_,M4,rfl⟩ (back/16%64) (fn:=d.fn) pC CO hp6 Q c
 obtain⟨md,Xn⟩:∃md,md=mdT W d.ks (d.nm 0) (back/16%64) (caT d.fn (fk d.ks d.d4) (fk d.ks d.d5) (fk d.ks (.ow d.s1)) J d.pl) E:=⟨_,rfl⟩
 have Ws:∀c:Int,∃p,Gives (run txt (k+3) "_law_row" [.int c,.int ((cs.length+1:Nat):Int),md] []) p/\Bi d.fn d.cs d.ks (cs.length+1) p:=by rw[Xn];exact Ws
 have nrm:noRef md=true:=by rw[Xn];simp[noRef,ai,FH,tJ,Fv _ (ny K),L7 _ (DY K M0 (back/16%64)).1,Q,pC,fU]
 have aau:∀hp:List ak,∃L:List Ro,fg (kR (aU 1) (bnd (ao (rd 1) (ao (op2 eG Q8 (kI 1)) Q6)) (bK 0 3 (run txt (k+3) "_law_row"))) [none,none,some (.lst (cs.map .int)),some md]) (cs.map PV.int) hp=some (L.map (bW d.fn),hp)/\(∀r∈L,Xj r=false/\oK d.cs d.ks (cs.length+1) r)/\L.length=cs.length:=λhp=>by
  refine FG cs λc hc=>?_
  obtain⟨p,h1,r,h2,h3⟩:=Ws c;refine⟨r,?_,h3⟩;have hl1:Ek (op2 eG Q8 (kI 1)) ⟨[none,some (.int c),some (.lst (cs.map .int)),some md],hp⟩ (.int ((cs.length+1:Nat):Int)):=by
   refine b2 (x:=.int (cs.length:Int)) (bV (cA rfl rfl) ?_) rfl rfl;show some (PV.int (((cs.map PV.int).length:Nat):Int))=_;rw[aj]
  rw[h2]at h1;exact e1 rfl (da (cA rfl (cA hl1 (cA rfl rfl))) rfl (by simp[ai,noRef,nrm]) h1)
 obtain⟨L,hL1,R,hL3⟩:=aau [⟨.lst,d.P.map bu⟩];have hLn:L.length<=f:=by lia
 obtain⟨m,hm⟩:∃m:Md,m={d with L:=L++[Ro.iJ d.z]}:=⟨_,rfl⟩
 refine⟨m,?_,?_⟩
 rotate_left
 ·rw[hm];obtain⟨g1,g2,g3,g4,g5,g6,g7⟩:=fm;refine⟨g1,g2,g3,g4,g5,g6,g7,hp6,⟨L,rfl,hLn,λr N=>(R r N).1⟩,λr N=>?_⟩
  show oK d.cs d.ks (L++[Ro.iJ d.z]).length r;rw[aV,hL3];rcases bA.mp N with h | h
  ·exact(R r h).2
  ·rw[aD]at h;subst h;exact aaq
 have hR:m.rows=L.map (bW d.fn)++[E]:=by
  rw[hm,Mp];show(L++[Ro.iJ d.z]).map (bW d.fn)=_;rw[cw];rfl
 have hF1:m.F1=BC (d.fn 1) d.res (.aq (L.map (bW d.fn)++[E])) d.P d.LT:=by
  rw[<-hR,hm];rfl
 have hF0:m.F0=d.F0:=by rw[hm];rfl
 have hF2:m.F2=d.F2:=by rw[hm];rfl
 unfold Md.prog;rw[hF0,hF1,hF2,yp,<-hS];obtain⟨WW,hWW⟩:∃WW,WW=PV.lst (W.map .str):=⟨_,rfl⟩
 rw[<-hWW];obtain⟨x1,hx1⟩:∃x,x=PV.int (f:Int):=⟨_,rfl⟩
 rw[<-hx1];obtain⟨KS,T⟩:∃KS,KS=KL d.ks:=⟨_,rfl⟩
 obtain⟨X,Xo⟩:∃X,X=d.P.map bu:=⟨_,rfl⟩
 obtain⟨u,Y⟩:∃u,u=L.map (bW d.fn)++[E]:=⟨_,rfl⟩
 rw[<-Y];obtain⟨v4,hv4⟩:∃v,v=PV.lst ((fk d.ks d.d4).map gW):=⟨_,rfl⟩
 obtain⟨v5,Z⟩:∃v,v=PV.lst ((fk d.ks d.d5).map gW):=⟨_,rfl⟩
 obtain⟨v1,hv1⟩:∃v,v=PV.lst ((fk d.ks (.ow d.s1)).map gW):=⟨_,rfl⟩
 obtain⟨vB,hvB⟩:∃v,v=PV.lst (J.map Iw):=⟨_,rfl⟩
 obtain⟨vS,hvS⟩:∃v,v=SL d.ks:=⟨_,rfl⟩
 obtain⟨vN,hvN⟩:∃v,v=PV.lst ((R0 d.ks (d.nm 0) (back/16%64)).map jQ):=⟨_,rfl⟩
 obtain⟨vC,hvC⟩:∃v,v=PV.lst (cs.map .int):=⟨_,rfl⟩
 obtain⟨p9,h9⟩:∃v,v=d.res:=⟨_,rfl⟩
 obtain⟨w20,h20⟩:∃v,v=d.sT d.so2:=⟨_,rfl⟩
 rw[<-h9]at rs;rw[<-h20]at v20;rw[<-Xo]at hL1;have QX:Gives (run txt (k+3) "_law_names" [.int (cell g 0%10^12),.int 13] []) e:=by rw[<-hC,M7];exact hn
 rw[<-hS,<-M7,<-I]at zU;have fd:∀h,gk h (.int (back/1024)) (.int 6)=some (.int d.pl):=λh=>by rw[nH];exact di (by decide)
 have P2:X.length=2:=by rw[Xo,aj];unfold Md.P;split<;>rfl
 have hLT:d.LT.length=8:=rfl;have nrR:ai u=true:=by
  rw[Y];refine yL _ λp hp=>?_
  rcases bA.mp hp with h | h
  ·obtain⟨r,N,rfl⟩:=au.mp h;exact Ml pC r (R r N).2
  ·rw[aD]at h;rw[h];exact Q
 have nr9:noRef d.res=true:=by
  unfold Md.res;split
  ·rfl
  ·split
   ·exact c8 _
   ·simp[noRef,ai,c8,Md.sT,fU]
 have nrP:noRef (.aq [d.F0,BC (d.fn 1) d.res (.aq u) d.P d.LT,d.F2])=true:=by simp[noRef,ai,Md.F0,Md.F2,BC,c8,tJ,nrR,nr9,Md.sT,fU,pC]
 suffices h:Rt (λp=>p=.aq [d.F0,BC (d.fn 1) d.res (.aq u) d.P d.LT,d.F2]) (sS (run txt (k+3)) ⟨gn 24 [S,x1,WW],[]⟩)from by
  obtain⟨p,a,b⟩:=Rt.run h;rw[<-b];exact a
 refine xS (aS (da (cA (b2 (da (cA rfl (cA rfl rfl)) rfl rfl j0) (b2 rfl rfl (aao _)) (di (by decide))) (cA rfl rfl)) rfl rfl QX) rfl) ?_
 refine xS (aS (da (cA rfl (cA rfl rfl)) rfl rfl zU) rfl) ?_;refine xS (aS (da (cA (da (cA rfl (cA rfl rfl)) rfl rfl j0) (cA rfl rfl)) rfl rfl hb) rfl) ?_;refine xS (aS (b2 (b2 rfl rfl (yC (by decide))) rfl (fd _)) rfl) ?_
 refine xS (aS (lC (cA (tU (cA (b2 (x:=e) rfl rfl (n8 _)) (cA (b2 (b2 (x:=LL) rfl rfl (l4 _)) rfl rfl) rfl)) (by simp)) (cA (tU (cA (b2 (x:=e) rfl rfl (n9 _)) (cA (b2 (b2 (x:=LL) rfl rfl (l1 _)) rfl rfl) rfl)) (by simp)) rfl)) (by simp)) rfl) ?_
 refine xS (s1:=pS [some (.ref 0),some (.int d.pl),some (.int back),some LL,some e,some WW,some x1,some S] [⟨.lst,X⟩]) ?_ ?_
 ·have d2:Ek (toB (op2 j5 (op2 gk (rd 6) (kI 2)) (kI 1))) (pS [some (.ref 0),some (.int d.pl),some (.int back),some LL,some e,some WW,some x1,some S] [⟨.lst,[bu (d.nm 8,d.d4),bu (d.nm 9,.ow d.s1)]⟩]) (d.pl%2==1):=bT (b2 (b2 (x:=.int d.pl) rfl rfl (di (by decide))) rfl (oJ _ _ _))
  rw[Xo];unfold Md.P;by_cases h:d.pl%2=1
  ·rw[show(d.pl%2==1)=true by rw[h];rfl]at d2
   rw[if_pos h];exact iT d2 rfl
  ·rw[show(d.pl%2==1)=false by rw[fu];exact h]at d2
   rw[if_neg h];exact iF d2 rfl
 refine aP (p:=KS) ?_ rfl ?_
 ·rw[T,I,Xo];show Ev _ _ (PV.lst (d.ks.map bu)) _;unfold Md.ks;rw[cw];refine b2 (x:=.ref 0) (y:=.lst (d.LT.map bu)) rfl rfl ?_;show sizeOk ((d.P.map bu).length+(d.LT.map bu).length) _=_;exact if_pos (show _<=4000000 by rw[<-Xo,P2,aj,hLT];decide)
 refine aP (p:=p9) (b2 (x:=.lst [.bB,.aq [.str (hw d.b5),enc d.t5,.aq []],.aq [.str (hw d.b5),enc d.t5,.aq [.str (d.nm 8)]],enc d.s2]) (lS (cA rfl (cA (b2 (y:=.aq [.aq []]) (b2 (x:=bu (d.nm 5,d.d5)) (z:=.aq [.str (hw d.b5),enc d.t5]) (b2 (x:=LL) rfl rfl (l5 _)) rfl rfl) rfl (aT (by simp))) (cA (b2 (y:=.aq [.aq [.str (d.nm 8)]]) (b2 (x:=bu (d.nm 5,d.d5)) (z:=.aq [.str (hw d.b5),enc d.t5]) (b2 (x:=LL) rfl rfl (l5 _)) rfl rfl) (tU (cA (tU (cA (b2 (x:=e) rfl rfl (n8 _)) rfl) (by simp)) rfl) (by simp)) (aT (by simp))) (cA (b2 (b2 (x:=LL) rfl rfl (l2 _)) rfl rfl) rfl)))) (by simp)) (b2 (x:=.int back) rfl rfl (di (by decide))) (rs _)) rfl ?_
 refine aP (p:=E) ?_ rfl ?_
 ·rw[Mp];exact tU (cA rfl (cA (b2 (x:=.lst [.str "",.str (d.nm 5),.str (d.nm 5),.str (d.nm 2)]) (lS (cA rfl (cA (b2 (x:=e) rfl rfl (n5 _)) (cA (b2 (x:=e) rfl rfl (n5 _)) (cA (b2 (x:=e) rfl rfl (n2 _)) rfl)))) (by simp)) (b2 (x:=.int back) rfl rfl (di (by decide))) (rz _)) rfl)) (by simp)
 refine aP (p:=v4) ?_ rfl ?_
 ·rw[hv4,T];exact qz K (LL:=LL) rfl rfl M4 l4
 refine aP (p:=v5) ?_ rfl ?_
 ·rw[Z,T];exact qz K (LL:=LL) rfl rfl M5 l5
 refine aP (p:=v1) ?_ rfl ?_
 ·rw[hv1,T];exact qz K (LL:=LL) rfl rfl M1 l1
 refine aP (p:=vB) ?_ rfl ?_
 ·rw[hvB,Z,T];exact b2 (x:=.lst [.lst [.str ""],.lst ((fk d.ks d.d5).map gW),.lst ((fk d.ks d.d5).map gW),.lst ((fk d.ks (.ow d.s2)).map gW)]) (lS (cA rfl (cA rfl (cA rfl (cA (qz K (LL:=LL) rfl rfl M2 l2) rfl)))) (by simp)) (b2 (x:=.int back) rfl rfl (di (by decide))) (hBK _)
 refine aP (p:=vS) ?_ rfl ?_
 ·rw[hvS,T];exact da (as:=[KL d.ks]) (cA rfl rfl) rfl (by simp[ai,noRef,tJ]) ael
 refine aP (p:=vN) ?_ rfl ?_
 ·rw[hvN,hvS];exact da (as:=[SL d.ks,.str (d.nm 0),.int (back/16%64)]) (cA rfl (cA (b2 (x:=e) rfl rfl (n0 _)) (cA (b2 (b2 (x:=.int back) rfl rfl (yC (by decide))) rfl (di (by decide))) rfl))) rfl (by simp[ai,noRef,Fv _ (ny K)]) aem
 refine aP (p:=md) ?_ rfl ?_
 ·rw[Xn];unfold mdT caT;rw[<-hWW,<-T,<-hvS,<-hvN,<-hv4,<-Z,<-hv1,<-hvB];exact tU (cA rfl (cA rfl (cA rfl (cA rfl (cA (tU (cA (x:=.lst [d.fn 0,d.fn 1,d.fn 2]) (cE (p:=e) rfl rfl rfl (aej _)) (cA rfl (cA rfl (cA rfl (cA rfl (cA rfl rfl)))))) (by simp)) (cA rfl rfl)))))) (by simp)
 refine aP (p:=vC) ?_ rfl ?_
 ·rw[hvC,hx1];exact cE (p:=S) (h:=some (8+(f:Int))) rfl rfl (eB (b2 (x:=.int 8) (y:=.int (f:Int)) rfl rfl rfl) rfl) (aek _)
 refine aP (p:=(.lst u)) ?_ rfl ?_
 ·rw[Y,hvC];exact b2 (x:=.lst (L.map (bW d.fn))) (y:=.lst [E]) (cN' (sV rfl rfl) (by rw[aj];lia) hL1) (lS (cA rfl rfl) (by simp)) (aL (by simp only[aj,aN,wL];lia))
 refine aP (p:=w20) (b2 (x:=.lst [.aq [],.aq [.str (d.nm 0)],.aq [.str (d.nm 1)],.aq [.str (d.nm 0),.str (d.nm 1)]]) (lS (cA rfl (cA (tU (cA (b2 (x:=e) rfl rfl (n0 _)) rfl) (by simp)) (cA (tU (cA (b2 (x:=e) rfl rfl (n1 _)) rfl) (by simp)) (cA (tU (cA (b2 (x:=e) rfl rfl (n0 _)) (cA (b2 (x:=e) rfl rfl (n1 _)) rfl)) (by simp)) rfl)))) (by simp)) (b2 (b2 (x:=.int back) rfl rfl (yC (by decide))) rfl (di (by decide))) (v20 _)) rfl ?_
 refine aQ (q:=.ref 1) (h':=[⟨.lst,X⟩,⟨.lst,[bu (d.nm 0,d.d4),bu (d.nm 1,d.d5)]⟩]) (lC (ps:=[bu (d.nm 0,d.d4),bu (d.nm 1,d.d5)]) (cA (tU (cA (b2 (x:=e) rfl rfl (n0 _)) (cA (b2 (b2 (x:=LL) rfl rfl (l4 _)) rfl rfl) rfl)) (by simp)) (cA (tU (cA (b2 (x:=e) rfl rfl (n1 _)) (cA (b2 (b2 (x:=LL) rfl rfl (l5 _)) rfl rfl) rfl)) (by simp)) rfl)) (by simp)) rfl rfl rfl ?_
 refine xH (h':=[⟨.lst,X⟩,⟨.lst,d.hd.map bu⟩]) ?_ ?_
 ·obtain⟨j,hj,hj2⟩:∃j:Nat,d.pl/2=(j:Int)/\j<=2:=⟨(d.pl/2).toNat,by lia,by lia⟩
  unfold Md.hd;rw[hj];refine dS (p:=.bB) (yZ (n:=1) (as:=[.int (j:Int),bu (d.nm 2,.ow d.s1)]) rfl rfl (cA (b2 (x:=.int d.pl) rfl rfl (by rw[<-hj];exact yC (by decide))) (cA (tU (cA (b2 (x:=e) rfl rfl (n2 _)) (cA (b2 (b2 (x:=LL) rfl rfl (l1 _)) rfl rfl) rfl)) (by simp)) rfl)) ?_)
  have:j=0\/j=1\/j=2:=by lia
  rcases this with rfl | rfl | rfl<;>rfl
 refine aP (p:=d.F2) (tU (cA (b2 (x:=e) rfl rfl (n12 _)) (cA (x:=.aq (d.hd.map bu)) (bV (as:=[.ref 1]) (cA rfl rfl) rfl) (cA (x:=.aq [.str (hw d.b4),enc d.t4,d.sT d.so2]) (b2 (x:=.aq [.str (hw d.b4),enc d.t4]) (y:=.aq [w20]) (b2 (x:=bu (d.nm 4,d.d4)) (b2 (x:=LL) rfl rfl (l4 _)) rfl rfl) (tU (cA rfl rfl) (by simp)) (by rw[h20];exact aT (by simp))) (cA rfl (cA (tU (cA (tU (cA rfl (cA (b2 (x:=e) rfl rfl (n0 _)) rfl)) (by simp)) rfl) (by simp)) rfl))))) (by simp)) rfl ?_
 refine aP (p:=(BC (d.fn 1) d.res (.aq u) d.P d.LT)) ?_ rfl ?_
 ·unfold BC;rw[<-Xo,<-h9];exact tU (cA (b2 (x:=e) rfl rfl (n11 _)) (cA (x:=.aq X) (bV (as:=[.ref 0]) (cA rfl rfl) rfl) (cA rfl (cA (x:=.aq (d.LT.map bu)) (bV (as:=[LL]) (cA rfl rfl) (by rw[I];rfl)) (cA (x:=.aq u) (bV (as:=[.lst u]) (cA rfl rfl) rfl) rfl))))) (by simp)
 exact xR (tU (ps:=[d.F0,BC (d.fn 1) d.res (.aq u) d.P d.LT,d.F2]) (cA (tU (cA (b2 (x:=e) rfl rfl (n10 _)) (cA rfl (cA rfl (cA rfl (cA rfl rfl))))) (by simp)) (cA rfl (cA rfl rfl))) (by simp)) nrP rfl
def Md.A(m:Md):List (List b6):=m.L.map k8
def Md.as(m:Md):List (Nat×b6):=dn 0 m.A
noncomputable def D0(j:Nat):Ro->List Nat
 | .iJ _=>[]
 | _=>[j+1]
def Md.nx(m:Md)(j:Nat):List Nat:=match m.L[j]? with
 | some r=>D0 j r
 | none=>[]
def Md.vX(m:Md):List (List Nat):=qx m.A m.nx
section
variable {m:Md} {most:Nat} (h:cD m most)
theorem D1(H:List ak):bQ H m.prog (.int 1)=some m.F1:=rfl
theorem FI(h:cD m most):ai m.rows=true:=yL _ λp hp=>by
 obtain⟨r,a,rfl⟩:=au.mp hp;exact Ml pC r (h.ok r a)
theorem Wu:noRef m.res=true:=by
 unfold Md.res;split
 ·rfl
 ·split
  ·exact c8 _
  ·simp[noRef,ai,c8,Md.sT,fU]
theorem FJ(h:cD m most):noRef m.F1=true:=by simp[Md.F1,BC,noRef,ai,pC,Wu,tJ,FI h]
theorem aav:noRef m.F0=true:=rfl
theorem aaw:noRef m.F2=true:=by simp[Md.F2,noRef,ai,pC,c8,tJ,Md.sT,fU]
theorem FK(h:cD m most):noRef m.prog=true:=by simp[Md.prog,noRef,ai,aav,FJ h,aaw]
theorem aax(h:cD m most):sX m.F1 m.ks:=Jz _ _ _ m.P m.LT (by have:=@me m;unfold Md.ks at this;rw[aV]at this;lia) (vW)
theorem Wv(h:cD m most){r:Ro}(a:r∈m.L):p8 m.ks m.L.length (bW m.fn r) (k8 r):=Wh h.ks _ pC r (h.ok r a)
theorem vY(h:cD m most):m.L.length<=most+1/\0<m.L.length:=by
 obtain⟨L,e,a,_⟩:=h.rows;rw[e];simp
 lia
theorem yM(h:cD m most)(d:most<=31)(k:Nat)(hk:12<=k):Gives (run txt (k+1) "acts" [m.prog,.int 1] []) (.lst (m.as.map eN)):=by
 have e:m.rows=(m.L.map λr=>(bW m.fn r,k8 r)).map (·.1):=by rw[cJ];rfl
 have a:(m.L.map λr=>(bW m.fn r,k8 r)).map (·.2)=m.A:=by rw[cJ];rfl
 have f:=(vY h).1;have:=V4 k D1 (by rw[<-e];rfl) (FJ h) (λq b=>by
  obtain⟨r,c,rfl⟩:=au.mp b;exact(Wv h c).made m.F1 k (aax h) (FJ h) hk) (by rw[aj];lia)
 rw[a,m8]at this;exact this
theorem aay(h:cD m most):∀as∈m.A,as.length<=6:=λas a=>by
 obtain⟨r,b,rfl⟩:=au.mp a;exact(Wv h b).six
theorem Bj:∀(L:List (List b6)) (i:Nat),(∀as∈L,as.length<=6)->(dn i L).length<=6*L.length
 | [],_,_=>by simp[dn]
 | as::L,i,h=>by
  have b:=h as aJ;have d:=Bj L (i+1) λa c=>h a (aH _ c)
  have:(bU as).length<=6:=by
   cases as with
   | nil=>simp[bU]
   | cons a r=>exact b
  rw[dn,aV,aj,aN]
  lia
theorem yN(h:cD m most):m.as.length<=6*(most+1):=by
 have a:=Bj m.A 0 (aay h);have b:=(vY h).1;have c:m.A.length=m.L.length:=by unfold Md.A;rw[aj]
 unfold Md.as
 lia
def wdR:Ro->Str
 | .put a _ _=>if a then "fill" else "put"
 | .set _ _ _ _=>"set"
 | .qa _ _=>"copy"
 | .kr _ _=>"move"
 | .drop _=>"drop"
 | .k7 _ b _=>lw b
 | .call _ _ _=>"call"
 | .M6 _=>"say"
 | .iJ _=>"give"
theorem aaA(fn:Nat->PV)(H:List ak)(r:Ro):bQ H (bW fn r) (.int 0)=some (.str (wdR r)):=by cases r<;>rfl
def P6:Ro->Nat
 | .iJ _=>0
 | _=>3
theorem P7(r:Ro):(wdR r==Str.ofString "give")=(P6 r==0):=by
 cases r with
 | put a _ _=>cases a<;>kernel_rfl
 | k7 _ b _=>cases b<;>kernel_rfl
 | _=>kernel_rfl
theorem aaB(r:Ro):(wdR r==Str.ofString "go")=(P6 r==1):=by
 cases r with
 | put a _ _=>cases a<;>kernel_rfl
 | k7 _ b _=>cases b<;>kernel_rfl
 | _=>kernel_rfl
theorem aaC(r:Ro):(wdR r==Str.ofString "if")=(P6 r==2):=by
 cases r with
 | put a _ _=>cases a<;>kernel_rfl
 | k7 _ b _=>cases b<;>kernel_rfl
 | _=>kernel_rfl
theorem Ww{j:Nat}{r:Ro}(a:m.L[j]?=some r)(H:List ak):bQ H (.aq m.rows) (.int (j:Int))=some (bW m.fn r):=atI_nat (by unfold Md.rows;rw[bz,a];rfl)
theorem Mq(h:cD m most){j:Nat}{r:Ro}(a:m.L[j]?=some r)(d:P6 r≠0):j+1<m.L.length:=by
 obtain⟨L,e,f,_⟩:=h.rows;have c:=(bj.mp a).1;by_cases b:j=L.length
 ·subst b;rw[e]at a;simp at a;subst a;exact absurd rfl d
 ·rw[e,aV]at c ⊢;simp at c ⊢
  lia
theorem Mr(h:cD m most){j:Nat}{r:Ro}(a:m.L[j]?=some r):(D0 j r).length<=2/\∀n∈D0 j r,n<m.L.length:=by
 have ok:=h.ok r (cH a);have one:P6 r≠0->([j+1]:List Nat).length<=2/\∀n∈[j+1],n<m.L.length:=λb=>⟨by simp,λn c=>by rw[aD]at c;have:=Mq h a b;lia⟩
 cases r with
 | iJ z=>exact⟨by simp[D0],λ_ z=>nomatch z⟩
 | _=>exact one (by simp[P6])
theorem Wx(h:cD m most)(u:most<=31)(k:Nat){j:Nat}{r:Ro}(b:m.L[j]?=some r):Gives (run txt (k+1) "row_nexts" [.aq m.rows,.int (j:Int)] []) (nT (D0 j r)):=by
 have x:=(bj.mp b).1;have y:=(vY h).1;obtain⟨p,hp⟩:∃p,p=bW m.fn r:=⟨_,rfl⟩
 obtain⟨R,e⟩:∃R,R=PV.aq m.rows:=⟨_,rfl⟩
 rw[ux,<-e];have g:∀H,bQ H R (.int (j:Int))=some p:=λH=>by rw[e,hp];exact Ww b H
 have f:Ev (dc Qi (aU 2)) (S0 [some R,some (.int (j:Int)),none]) .nx (S0 [some R,some (.int (j:Int)),some p]):=aS (b2 rfl rfl (g _)) rfl;have w:∀v:Str,Ek (toB (op2 j5 (op2 bQ (rd 2) (kI 0)) (aW (.str v)))) (S0 [some R,some (.int (j:Int)),some p]) (wdR r==v):=λv=>bT (b2 (b2 rfl rfl (by rw[hp];exact aaA _ _ r)) rfl (eU _ _ _))
 have a:=w "give";have c:=w "go";have d:=w "if"
 rw[P7]at a;rw[aaB]at c;rw[aaC]at d;have i:Ek (op2 eG (rd 1) (kI 1)) (S0 [some R,some (.int (j:Int)),some p]) (iN (j+1)):=b2 rfl rfl rfl;have nr:∀l,noRef (nT l)=true:=λl=>by simp[nT,noRef,kF]
 have one:(P6 r==0)=false->(P6 r==1)=false->(P6 r==2)=false->Gives (dP (pd (run txt k)) 3 [R,.int (j:Int)] []) (nT [j+1]):=λo q t=>by
  rw[o]at a;rw[q]at c;rw[t]at d;exact gV (sq f (sq (iF a rfl) (sq (iF c rfl) (sq (iF d rfl) (rS (tU (cA i rfl) (by simp))))))) (nr _)
 have ok:=h.ok r (cH b);cases r with
 | iJ z=>exact gV (sq f (sv (iT a (rS rfl)))) rfl
 | _=>exact one rfl rfl rfl
theorem P8(h:cD m most)(c:most<=31)(k:Nat):yB (run txt (k+1)) (.aq m.rows) m.A.length m.nx:=λj b=>by
 have d:m.A.length=m.L.length:=by unfold Md.A;rw[aj]
 rw[d]at b ⊢;obtain⟨r,a⟩:∃r,m.L[j]?=some r:=⟨_,bC b⟩
 have e:m.nx j=D0 j r:=by unfold Md.nx;rw[a]
 rw[e];exact⟨Wx h c k a,(Mr h a).1,(Mr h a).2⟩
theorem ku(h:cD m most)(i:most<=20)(k:Nat)(hk:12<=k):Gives (run txt (k+2) "nexts" [m.prog,.int 1] []) (.lst (m.vX.map nT))/\V5 m.vX m.as.length:=by
 have b:=yM h (by lia) k hk
 unfold Md.as at b;rw[<-m8]at b;have d:=yN h;obtain⟨e,f,g⟩:=PD (k+1) rfl (by simp[noRef,FI h]) b (P8 h (by lia) k) (by unfold Md.as at d;lia)
 refine⟨e,f,g,?_,by lia⟩
 obtain⟨a,c⟩:=tf m.A 0 0 (az _) (by unfold Md.A;rw[aj];have:=(vY h).2;lia)
 exact List.length_pos_of_mem c
structure jd (m:Md) (cs:List Nat):Prop where
 nd:cs.Nodup
 lt:∀n∈cs,n<m.as.length
 zero:0∈cs
 nx:∀n∈cs,∀l,m.vX[n]?=some l->∀q∈l,q∈cs
end
section
variable {fa fb:Gx PV} {s s1 s2:cy} {x y:PV} {r:Option (Rs PV×cy)}
theorem anT(h:Ev fa s x s1)(ht:pG s1.h x=some true)(b:fb s1=r):GD fa fb s=r:=eB h (eB (a:=true) (by show(pG s1.h x).map _=_;rw[ht];rfl) b)
theorem anF(h:Ev fa s x s1)(ht:pG s1.h x=some false):Ev (GD fa fb) s x s1:=eB h (eB (by show(pG s1.h x).map _=_;rw[ht];rfl) rfl)
theorem anB{a b:Bool}(h:Ev fa s (.bl a) s)(c:Ev fb s (.bl b) s):Ev (GD fa fb) s (.bl (a&&b)) s:=by
 cases a with
 | true=>exact anT h rfl c
 | false=>exact anF h rfl
theorem chB{g c:G2}{d:Gx PV}{x y z:PV}{a b:Bool}(e:Ev fa s x s)(f:Ev fb s y s)(h1:g s.h x y=some (.bl a))(hc:Ev d s z s)(i:c s.h y z=some (.bl b)):Ev (chain g c fa fb d) s (.bl (a&&b)) s:=by
 have e1:Ev (hp λh=>(g h x y).bind u0) s a s:=by show((g s.h x y).bind u0).map _=_;rw[h1];rfl
 cases a with
 | true =>
  refine eB e (eB f (eB e1 (eB hc ?_)));show(c s.h y z).map _=_;rw[i];rfl
 | false=>exact eB e (eB f (eB e1 rfl))
theorem nG{b:Bool}(h:Ev fa s (.bl b) s1):Ev (Oc fa) s (.bl (!b)) s1:=eB (bT h) rfl
theorem orX{c gd:Gx Bool}{a b:Bool}(h:Ev c s a s)(d:Ev gd s b s):Ev (dQ c (aW true) gd) s (a || b) s:=by
 cases a with
 | true=>exact iT h rfl
 | false=>exact iF h d
theorem tB{b:Bool}(h:Ev fa s (.bl b) s1):Ev (gO fa) s b s1:=tR h rfl
end
section
variable {m:Md} {most:Nat}
theorem Bk:∀(L:List (List b6)) (i:Nat) (q:Nat×b6),q∈dn i L->∃j as,q.1=i+j/\L[j]?=some as/\q.2∈bU as
 | [],_,_,h=>nomatch h
 | as::L,i,q,h=>by
  rw[dn,bA]at h;rcases h with h | h
  ·obtain⟨a,b,rfl⟩:=au.mp h;exact⟨0,as,rfl,rfl,b⟩
  ·obtain⟨j,bs,e,c,d⟩:=Bk L (i+1) q h;exact⟨j+1,bs,by lia,by simpa using c,d⟩
theorem Ms(h:cD m most){q:Nat×b6}(b:q∈m.as):uH (BD m.ks) 3 q.2:=by
 obtain⟨j,as,e,a,c⟩:=Bk m.A 0 q b;unfold Md.A at a;rw[bz]at a;obtain⟨r,d,rfl⟩:=aZ a;exact HN (Wv h (cH d)).ok q.2 c
theorem Si{n:Nat}{q:Nat×b6}(a:m.as[n]?=some q)(H:List ak):bQ H (.lst (m.as.map eN)) (.int (n:Int))=some (eN q):=atI_nat (by rw[bz,a];rfl)
theorem Sj{n:Nat}{l:List Nat}(a:m.vX[n]?=some l)(H:List ak):bQ H (.lst (m.vX.map nT)) (.int (n:Int))=some (nT l):=atI_nat (by rw[bz,a];rfl)
theorem yO(h:cD m most)(a:most<=20):m.vX.length=m.as.length:=(ku h a 12 (az _)).2.len
theorem yP(h:cD m most)(a:most<=20){n:Nat}{l:List Nat}(b:m.vX[n]?=some l):l.length<=2/\∀q∈l,q<m.as.length:=(ku h a 12 (az _)).2.ok l (cH b)
noncomputable def Mt(a:b6):List Int:=(List.range a.m.toNat).map λi=>a.f+(i:Nat)*1
theorem HY(k:Nat){X:List Str}{Bd:Nat}(b:Bd<=500){q:Nat×b6}(ok:uH X Bd q.2):Gives (run txt (k+1) "touched" [eN q] []) (.lst ((Mt q.2).map .int)):=by
 rw[AQ];have a:=ok.f0;have c:=ok.m0;have d:=ok.few;refine gV (rS (eB (cA (b2 rfl rfl rfl) (cA (b2 (b2 rfl rfl rfl) (b2 rfl rfl rfl) rfl) rfl)) (eB (s1:=S0 [some (eN q)]) ?_ rfl))) (yE _);show Option.map _ (if 0<=q.2.f/\q.2.f<=q.2.f+q.2.m/\q.2.f+q.2.m<=1000 then some (PyProof.Rows.rangeInts q.2.f 1 (q.2.f+q.2.m-q.2.f).toNat)else none)=_
 rw[if_pos ⟨a,by lia,by lia⟩,show q.2.f+q.2.m-q.2.f=q.2.m by lia]
 rfl
theorem P9{a:b6}{i:Int}(h:0<=a.m):i∈Mt a↔a.f<=i/\i<a.f+a.m:=by
 unfold Mt;rw[au];constructor
 ·rintro⟨n,b,rfl⟩
  have:=c7.mp b
  lia
 ·rintro⟨c,d⟩
  exact⟨(i-a.f).toNat,c7.mpr (by lia),by lia⟩
def tch(a:b6)(x:Str)(l:Int):Bool:=(a.n==x)&&(decide (a.f<=l)&&decide (l<a.f+a.m))
theorem HZ(k:Nat)(q:Nat×b6)(x:Str)(l:Int):Gives (run txt (k+1) "touches" [eN q,.str x,.int l] []) (.bl (tch q.2 x l)):=by
 rw[AR];exact gV (rS (anB (b2 (b2 rfl rfl rfl) rfl (eU _ _ _)) (chB (b2 rfl rfl rfl) rfl (le_int _ _ _) (b2 (b2 rfl rfl rfl) (b2 rfl rfl rfl) rfl) (lt_int _ _ _)))) rfl
def Wy(a:b6)(x:Str)(l:Int):Bool:=(a.w==Str.ofString "fill")&&((!a.t)&&tch a x l)
theorem QA(k:Nat)(q:Nat×b6)(x:Str)(l:Int):Gives (run txt (k+2) "fills" [eN q,.str x,.int l] []) (.bl (Wy q.2 x l)):=by
 rw[Hv];exact gV (rS (anB (b2 (b2 rfl rfl rfl) rfl (eU _ _ _)) (anB (nG (b2 rfl rfl rfl)) (da (as:=[eN q,.str x,.int l]) (cA rfl (cA rfl (cA rfl rfl))) rfl rfl (HZ k q x l))))) rfl
structure Fe where
 n:Nat
 x:Str
 l:Int
def kE(f:Fe):List bh:=[.inl (f.n:Int),.inr f.x,.inl f.l]
def kH(f:Fe):PV:=.aq [.int (f.n:Int),.str f.x,.int f.l]
theorem Mu:∀l:List Fe,ai (l.map kH)=true
 | []=>rfl
 | f::l=>by simp[ai,noRef,kH,Mu l]
def fZ(a:b6)(x:Str)(l:Int):Bool:=(a.k==x) || Wy a x l
def stE(a:b6)(c:List Nat)(f:Fe):List Fe:=if fZ a f.x f.l=true then []else c.map λb=>⟨b,f.x,f.l⟩
theorem QB(k:Nat)(q:Nat×b6)(a:List Nat)(c:a.length<=1000)(f:Fe):Gives (run txt (k+3) "stays_empty" [eN q,nT a,kH f] []) (.lst ((stE q.2 a f).map kH)):=by
 rw[pZ];have t:Ek (dQ (toB (op2 j5 (op2 bQ (rd 0) (kI 6)) Qk)) (aW true) (gO (bnd (ao (rd 0) (ao Qk (ao (op2 bQ (rd 2) (kI 2)) (aW [])))) (bK 0 3 (run txt (k+2) "fills"))))) (S0 [some (eN q),some (nT a),some (kH f)]) (fZ q.2 f.x f.l) :=
  orX (bT (b2 (b2 rfl rfl rfl) (b2 rfl rfl rfl) (eU _ _ _))) (tB (da (as:=[eN q,.str f.x,.int f.l]) (cA rfl (cA (b2 rfl rfl rfl) (cA (b2 rfl rfl rfl) rfl))) rfl rfl (QA k q f.x f.l)))
 unfold stE;cases he:fZ q.2 f.x f.l with
 | true=>rw[he]at t;exact gV (sv (iT t (rS rfl))) rfl
 | false =>
  rw[he]at t;rw[if_neg dh,cJ];refine gV (sq (iF t rfl) (rS (cM (l:=a) (e:=iN) (G:=λb=>kH ⟨b,f.x,f.l⟩) (sV (p:=nT a) rfl rfl) (by lia) λb _=>e1 (C4:=[none,some (iN b),some (kH f)]) (h1:=[]) rfl (tU (ps:=[iN b,.str f.x,.int f.l]) (cA rfl (cA (b2 (x:=kH f) rfl rfl rfl) (cA (b2 (x:=kH f) rfl rfl rfl) rfl))) (by simp))))) ?_
  have:=Mu (a.map λb=>⟨b,f.x,f.l⟩)
  rw[cJ]at this;exact this
def QC(a:b6)(b:Nat):List Fe:=(Mt a).map λi=>⟨b,a.n,i⟩
def BE(a:b6)(b:List Nat):List Fe:=if(a.w==Str.ofString "empty")=true then b.flatMap (QC a)else []
theorem FL{a:b6}{X:List Str}(ok:uH X 3 a):(Mt a).length<=3:=by
 have b:=ok.f0;have c:=ok.m0;have d:=ok.few;rw[Mt,aj,ez]
 lia
theorem FN(k:Nat){q:Nat×b6}{X:List Str}(ok:uH X 3 q.2)(A:PV):∀(l:List Nat) (acc:List Fe) (a:Option PV),acc.length+3*l.length<=1000 ->
  ∃c,dm (aU 3) (AW (run txt (k+1))) (l.map iN) ⟨[some (eN q),some A,some (.ref 0),a],[⟨.lst,acc.map kH⟩]⟩=some (.ok .nx,⟨[some (eN q),some A,some (.ref 0),c],[⟨.lst,(acc++l.flatMap (QC q.2)).map kH⟩]⟩)
 | [],acc,a,_=>⟨a,by simp;rfl⟩
 | b::l,acc,a,d=>by
  rw[aN]at d;have g:=FL ok;have f:(QC q.2 b).length=(Mt q.2).length:=by unfold QC;rw[aj]
  obtain⟨c,e⟩:=FN k ok A l (acc++QC q.2 b) (some (iN b)) (by rw[aV];lia)
  refine⟨c,?_⟩;rw[fw,<-dG];refine fC rfl (dS (p:=.bB) (yZ (s2:=⟨[some (eN q),some A,some (.ref 0),some (iN b)],[⟨.lst,acc.map kH⟩]⟩) rfl rfl (cA (x:=.lst ((QC q.2 b).map kH)) ?_ rfl) ?_)) e
  ·rw[QC,cJ];refine cM (l:=Mt q.2) (e:=PV.int) (sV (p:=.lst ((Mt q.2).map .int)) (da (as:=[eN q]) (cA rfl rfl) rfl (by simp[ai,noRef,eN,jy]) (HY k (by decide) ok)) rfl) (by lia) λi _=>?_
   exact e1 (C4:=[none,some (.int i),some (eN q),some (iN b)]) (h1:=[⟨.lst,acc.map kH⟩]) rfl (tU (ps:=[iN b,.str q.2.n,.int i]) (cA rfl (cA (b2 (x:=eN q) rfl rfl rfl) (cA rfl rfl))) (by simp))
  ·rw[cw];exact xC (n:=0) rfl rfl (by rw[aj,aj];lia)
theorem H0(k:Nat){q:Nat×b6}{X:List Str}(ok:uH X 3 q.2)(a:List Nat)(b:a.length<=2):Gives (run txt (k+2) "emptied" [eN q,nT a] []) (.lst ((BE q.2 a).map kH)):=by
 rw[AX];have t:Ek (toB (op2 Ij (op2 bQ (rd 0) (kI 1)) (kS "empty"))) (S0 [some (eN q),some (nT a),none,none]) (!(q.2.w==Str.ofString "empty")):=bT (b2 (b2 rfl rfl rfl) rfl (L4 _ _ _));unfold BE;cases hw:q.2.w==Str.ofString "empty" with
 | false=>rw[hw]at t;exact gV (sv (iT t (rS rfl))) rfl
 | true =>
  rw[hw]at t;obtain⟨c,e⟩:=FN k ok (nT a) a [] none (by simp;lia)
  rw[gi]at e;exact⟨.ref 0,_,gz (sq (iF t rfl) (sq rfl (sq (fS (sV (p:=nT a) rfl rfl) e) (rS rfl)))),l8 (Mu _)⟩
end
section
variable {m:Md} {most:Nat}
def vZ(d:Kn):Nat:=if d9 d=true then 1 else(lv (bN d)).length
def Iy(q:Rk):List Fe:=(List.range (vZ q.2)).map fun(i:Nat)=>⟨0,q.1,(i:Int)⟩
theorem FO{ks:List Rk}(K:lx ks){q:Rk}(a:q∈ks):vZ q.2<=3:=by
 unfold vZ;split
 ·decide
 ·exact(K.good q a).2
theorem Wz(l:Nat):ni l=iN l:=by unfold ni iN;rw[lM]
theorem Bl(k:Nat)(hk:7<=k){ks:List Rk}(K:lx ks)(F:PV):∀(ps:List Rk) (acc:List Fe) (c f a:Option PV),(∀q∈ps,q∈ks)->acc.length+3*ps.length<=1000 ->
  ∃h o t,dm Qr (lY (run txt k)) (ps.map bu) ⟨[some F,some (.ref 0),c,f,a],[⟨.lst,acc.map kH⟩]⟩=some (.ok .nx,⟨[some F,some (.ref 0),h,o,t],[⟨.lst,(acc++ps.flatMap Iy).map kH⟩]⟩)
 | [],acc,c,f,a,_,_=>⟨c,f,a,by simp;rfl⟩
 | q::ps,acc,c,f,a,hp,w=>by
  rw[aN]at w;have v:=hp q aJ;have hc:=FO K v;obtain⟨j,rfl⟩:∃j,k=j+1:=⟨k-1,by lia⟩
  have y:(Iy q).length=vZ q.2:=by unfold Iy;rw[aj,ez]
  obtain⟨h,o,t,e⟩:=Bl (j+1) hk K F ps (acc++Iy q) (some (.str q.1)) (some (encK q.2)) (some (iN (vZ q.2))) (λr B=>hp r (aH _ B)) (by rw[aV];lia)
  refine⟨h,o,t,?_⟩;rw[fw,<-dG];refine fC (s1:=⟨[some F,some (.ref 0),some (.str q.1),some (encK q.2),a],[⟨.lst,acc.map kH⟩]⟩) rfl ?_ e;have g:Ek (gO (bnd Q6 (bK 0 1 (run txt (j+1) "is_holder")))) ⟨[some F,some (.ref 0),some (.str q.1),some (encK q.2),a],[⟨.lst,acc.map kH⟩]⟩ (d9 q.2):=tB (da (as:=[encK q.2]) (cA rfl rfl) rfl (by simp[ai,qt]) (fj j q.2))
  have C:Ek (dQ (gO (bnd Q6 (bK 0 1 (run txt (j+1) "is_holder")))) (kI 1) (gm gM (ao (bnd Q6 (bK 0 1 (run txt (j+1) "leaves"))) (aW [])))) ⟨[some F,some (.ref 0),some (.str q.1),some (encK q.2),a],[⟨.lst,acc.map kH⟩]⟩ (iN (vZ q.2)):=by
   unfold vZ;cases u:d9 q.2 with
   | true=>rw[u]at g;exact iT g rfl
   | false =>
    rw[u]at g;obtain⟨x,d⟩:=q;cases d with
    | ho b s=>cases u
    | ow s =>
     have hd:=(K.good _ v).1.1;have D:=dY.all LA s j (by have:=hd.2;simp only[bN]at this;lia) (by have:=vy s;have:=hd.1;simp only[bN]at this;lia)
     refine iF g (bV (cA (da (as:=[enc s]) (cA rfl rfl) rfl (by simp[ai,c8]) D) rfl) ?_)
     show some (PV.int ((bX (lv s)).length:Int))=_;rw[dX];rfl
  refine sq (aS C rfl) (dS (p:=.bB) (yZ (s2:=⟨[some F,some (.ref 0),some (.str q.1),some (encK q.2),some (iN (vZ q.2))],[⟨.lst,acc.map kH⟩]⟩) rfl rfl (cA (x:=.lst ((Iy q).map kH)) ?_ rfl) ?_))
  ·rw[Iy,cJ];refine cM (l:=List.range (vZ q.2)) (e:=ni) (lu (j:=vZ q.2) (cA rfl rfl) (by lia)) (by rw[ez];lia) λi _=>?_
   rw[Wz];exact e1 (C4:=[none,some (iN i),some (.str q.1)]) (h1:=[⟨.lst,acc.map kH⟩]) rfl (tU (ps:=[.int 0,.str q.1,iN i]) (cA rfl (cA rfl (cA rfl rfl))) (by simp))
  ·rw[cw];exact xC (n:=0) rfl rfl (by rw[aj,aj];lia)
theorem v3:∀q∈m.LT,q∈m.ks:=λq a=>de _ a
theorem D2:m.LT.length=8:=rfl
def M8(m:Md):List Fe:=m.LT.flatMap Iy
theorem uI(k:Nat)(hk:7<=k)(h:cD m most):run txt (k+1) "empty_at_first" [m.F1] []=some (.ok (.ref 0),[⟨.lst,(M8 m).map kH⟩]):=by
 obtain⟨a,b,c,e⟩:=Bl k hk h.ks m.F1 m.LT [] none none none v3 (by rw[D2];decide)
 rw[gi]at e;rw[lZ];exact gz (sq rfl (sq (fS (sV (p:=.aq (m.LT.map bu)) (b2 rfl rfl rfl) rfl) e) (rS rfl)))
end
section
variable {m:Md} {most:Nat} {cs:List Nat}
abbrev RW(m:Md):PV:=.lst (m.as.map eN)
abbrev AF(m:Md):PV:=.lst (m.vX.map nT)
noncomputable def deE:List bh->Option Fe
 | [.inl n,.inr x,.inl l]=>if 0<=n then some ⟨n.toNat,x,l⟩else none
 | _=>none
theorem Bm(f:Fe):deE (kE f)=some f:=by
 show(if 0<=(f.n:Int)then some (Fe.mk (f.n:Int).toNat f.x f.l)else none)=_
 rw[if_pos (by lia),gE]
theorem nA{k:List bh}{f:Fe}(h:deE k=some f):k=kE f:=by
 rcases k with _ | ⟨n | _,_ | ⟨_ | x,_ | ⟨l | _,_ | _⟩⟩⟩<;>first | (cases h;done) | skip
 obtain⟨a,h⟩:=bM h;cases h;unfold kE;rw[show((Int.toNat _:Nat):Int)=_ from lF a]
theorem D3{a b:Fe}(h:kE a=kE b):a=b:=by
 have:=cS deE h;rw[Bm,Bm]at this;exact bI this
def v9(m:Md)(f:Fe):Option (List Fe):=(m.as[f.n]?).bind λq=>(m.vX[f.n]?).map λa=>stE q.2 a f
def uJ(m:Md)(k:List bh):Option (List (List bh)):=(deE k).bind λf=>(v9 m f).map λfs=>fs.map kE
def nmX(m:Md):List Str:=""::BD m.ks
structure D4 (m:Md) (cs:List Nat) (f:Fe):Prop where
 n:f.n∈cs
 x:f.x∈nmX m
 l:0<=f.l/\f.l<3
def UE(m:Md)(cs:List Nat):List (List bh):=cs.flatMap λn=>(nmX m).flatMap λx=>(List.range 3).map fun(l:Nat)=>kE ⟨n,x,(l:Int)⟩
theorem tK{d e:Type}{c:Nat}{f:d->List e}:∀l:List d,(∀a∈l,(f a).length=c)->(l.flatMap f).length=l.length*c
 | [],_=>by simp
 | a::l,h=>by
  rw[fw,aV,h a aJ,tK l λb g=>h b (aH _ g),aN,Nat.add_mul]
  lia
theorem Mv:(UE m cs).length=cs.length*(11*3):=by
 refine tK _ λn _=>?_
 have h:((nmX m).flatMap λx=>(List.range 3).map fun(l:Nat)=>kE ⟨n,x,(l:Int)⟩).length=(nmX m).length*3:=tK _ λx _=>by simp
 rw[h];unfold nmX BD;rw[aN,aj,me]
theorem D5{f:Fe}(h:D4 m cs f):kE f∈UE m cs:=by
 obtain⟨a,b,c⟩:=h;refine c6.mpr ⟨f.n,a,c6.mpr ⟨f.x,b,au.mpr ⟨f.l.toNat,c7.mpr (by lia),?_⟩⟩⟩
 rw[lF c.1]
theorem Sk{k:List bh}(h:k∈UE m cs):∃f,k=kE f/\D4 m cs f:=by
 obtain⟨n,a,h⟩:=c6.mp h;obtain⟨x,b,h⟩:=c6.mp h;obtain⟨l,c,rfl⟩:=au.mp h;rw[c7]at c;exact⟨_,rfl,a,b,by show(0:Int)<=(l:Int);lia,by show(l:Int)<3;lia⟩
theorem yQ(a:jd m cs){n:Nat}(b:n∈cs):∃q,m.as[n]?=some q:=⟨_,bC (a.lt n b)⟩
theorem FP(h:cD m most)(a:most<=20)(b:jd m cs){n:Nat}(c:n∈cs):∃l,m.vX[n]?=some l:=⟨_,bC (by rw[yO h a];exact b.lt n c)⟩
theorem WA(h:cD m most)(i:most<=20)(e:jd m cs){f:Fe}(a:D4 m cs f):∃q l,m.as[f.n]?=some q/\m.vX[f.n]?=some l/\v9 m f=some (stE q.2 l f)/\(∀g∈stE q.2 l f,D4 m cs g)/\(stE q.2 l f).length<=2:=by
 obtain⟨q,j⟩:=yQ e a.n;obtain⟨l,c⟩:=FP h i e a.n;refine⟨q,l,j,c,by unfold v9;rw[j,c];rfl,λg d=>?_,?_⟩
 ·unfold stE at d;split at d
  ·cases d
  ·obtain⟨b,k,rfl⟩:=au.mp d;exact⟨e.nx f.n a.n l c b k,a.x,a.l⟩
 ·unfold stE;split
  ·simp
  ·rw[aj];exact(yP h i c).1
def Sl(m:Md)(n:Nat):List Fe:=match m.as[n]?,m.vX[n]? with | some q,some l=>BE q.2 l | _,_=>[]
def jN(m:Md)(cs:List Nat):List Fe:=cs.flatMap (Sl m)
def H9(m:Md)(cs:List Nat):List Fe:=M8 m++jN m cs
theorem aaG(h:cD m most)(c:jd m cs){n:Nat}(d:n∈cs){q:Nat×b6}{l:List Nat}(e:m.as[n]?=some q)(g:m.vX[n]?=some l){f:Fe}(a:f∈BE q.2 l):D4 m cs f:=by
 unfold BE at a;split at a
 ·obtain⟨b,j,a⟩:=c6.mp a;obtain⟨i,k,rfl⟩:=au.mp a;have ok:=Ms h (cH e);have:=(P9 ok.m0).mp k;have o:=ok.f0;have p:=ok.few;refine⟨c.nx n d l g b j,?_,by show(0:Int)<=i;lia,by show i<3;lia⟩
  rcases ok.nm with z | z
  ·exact aH _ z
  ·show q.2.n∈_;rw[z];exact aJ
 ·cases a
theorem Mw(h:cD m most)(a:most<=20){n:Nat}{q:Nat×b6}{l:List Nat}(c:m.as[n]?=some q)(d:m.vX[n]?=some l):(BE q.2 l).length<=6:=by
 unfold BE;split
 ·have e:=FL (Ms h (cH c));have f:=(yP h a d).1;have:(l.flatMap (QC q.2)).length=l.length*(Mt q.2).length:=tK _ λb _=>by unfold QC;rw[aj]
  rw[this];exact bP (Nat.mul_le_mul f e) (by decide)
 ·simp
theorem WB(h:cD m most)(j:most<=20)(c:jd m cs){f:Fe}(a:f∈H9 m cs):D4 m cs f:=by
 rcases bA.mp a with a | a
 ·obtain⟨q,b,a⟩:=c6.mp a;obtain⟨i,e,rfl⟩:=au.mp a;have e:=c7.mp e;have:=FO h.ks (v3 q b);exact⟨c.zero,aH _ (au.mpr ⟨q,v3 q b,rfl⟩),by show(0:Int)<=(i:Int);lia,by show(i:Int)<3;lia⟩
 ·obtain⟨n,d,a⟩:=c6.mp a;obtain⟨q,b⟩:=yQ c d;obtain⟨l,g⟩:=FP h j c d;unfold Sl at a;rw[b,g]at a;exact aaG h c d b g a
theorem Bn(k:Nat)(h:cD m most)(a:most<=20)(P:Option PV)(I:Option PV):∀(cs:List Nat) (acc:List Fe) (c:Option PV),(∀n∈cs,n<m.as.length)->acc.length+6*cs.length<=4000000 ->
  ∃g,dm (aU 3) (pe (run txt (k+2))) (cs.map iN) ⟨[P,I,some (.ref 0),c,some (AF m),some (RW m)],[⟨.lst,acc.map kH⟩]⟩=some (.ok .nx,⟨[P,I,some (.ref 0),g,some (AF m),some (RW m)],[⟨.lst,(acc++jN m cs).map kH⟩]⟩)
 | [],acc,c,_,_=>⟨c,by simp[jN];rfl⟩
 | n::cs,acc,c,hc,t=>by
  rw[aN]at t;have i:=hc n aJ;obtain⟨q,d⟩:∃q,m.as[n]?=some q:=⟨_,bC i⟩
  obtain⟨l,f⟩:∃l,m.vX[n]?=some l:=⟨_,bC (by rw[yO h a];exact i)⟩
  have y:=Mw h a d f;have u:Sl m n=BE q.2 l:=by unfold Sl;rw[d,f]
  obtain⟨g,e⟩:=Bn k h a P I cs (acc++BE q.2 l) (some (iN n)) (λb v=>hc b (aH _ v)) (by rw[aV];lia)
  refine⟨g,?_⟩;rw[show jN m (n::cs)=BE q.2 l++jN m cs by unfold jN;rw[fw,u],<-dG]
  have r:=H0 k (Ms h (cH d)) l (yP h a f).1;have j:∀H,bQ H (RW m) (iN n)=some (eN q):=Si d
  have o:∀H,bQ H (AF m) (iN n)=some (nT l):=Sj f
  have w:ai [eN q,nT l]=true:=by simp[ai,noRef,eN,jy,nT,kF]
  generalize RW m=R at e j ⊢
  generalize AF m=A at e o ⊢
  refine fC (s1:=⟨[P,I,some (.ref 0),some (iN n),some A,some R],[⟨.lst,acc.map kH⟩]⟩) rfl (dS (p:=.bB) (yZ (s2:=⟨[P,I,some (.ref 0),some (iN n),some A,some R],[⟨.lst,acc.map kH⟩]⟩) rfl rfl (cA (x:=.lst ((BE q.2 l).map kH)) (da (as:=[eN q,nT l]) (cA (b2 rfl rfl (j _)) (cA (b2 rfl rfl (o _)) rfl)) rfl (by rw[w];simp) r) rfl) ?_)) e
  rw[cw];exact xC (n:=0) rfl rfl (by rw[aj,aj];lia)
end
section
variable {m:Md} {most:Nat} {cs:List Nat}
structure Iz (m:Md) (cs:List Nat) (ah:dM):Prop where
 ok:∀t∈ah,∃f,t.1=kE f/\D4 m cs f
 nd:(ah.map (·.1)).Nodup
 done:Dx (uJ m) ah ah.length
 why:Pr (uJ m) ((H9 m cs).map kE) ah
 fst:∀f∈H9 m cs,kE f∈ah.map (·.1)
theorem Mx(h:cD m most)(c:most<=20)(a:jd m cs):cs.length<=126:=by
 have:=gD cs (List.range m.as.length) a.nd λn b=>c7.mpr (a.lt n b)
 rw[ez]at this;have:=yN h
 lia
theorem WC(h:cD m most):(M8 m).length<=24:=by
 have:∀l:List Rk,(∀q∈l,q∈m.ks)->(l.flatMap Iy).length<=3*l.length:=λl=>by
  induction l with
  | nil=>exact λ_=>by simp
  | cons q l ih =>
   intro a;rw[fw,aV,aN];have:=FO h.ks (a q aJ);have:=ih λr b=>a r (aH _ b)
   have:(Iy q).length=vZ q.2:=by unfold Iy;rw[aj,ez]
   lia
 have:=this m.LT v3;rw[D2]at this;exact this
theorem Bo(h:cD m most)(a:most<=20):∀cs:List Nat,(∀n∈cs,n<m.as.length)->(jN m cs).length<=6*cs.length
 | [],_=>by simp[jN]
 | n::cs,hc=>by
  have c:=hc n aJ;obtain⟨q,d⟩:∃q,m.as[n]?=some q:=⟨_,bC c⟩
  obtain⟨l,e⟩:∃l,m.vX[n]?=some l:=⟨_,bC (by rw[yO h a];exact c)⟩
  have g:=Mw h a d e;have ih:=Bo h a cs λb f=>hc b (aH _ f)
  unfold jN at ih ⊢;rw[fw,aV,aN,show Sl m n=BE q.2 l by unfold Sl;rw[d,e]]
  lia
theorem Ia(k:Nat)(hk:14<=k)(h:cD m most)(b:most<=20)(hc:Gives (run txt (k+3) "come_to" [m.prog,.int 1] []) (.lst (cs.map iN)))(o:jd m cs):∃j,Gives (run txt (k+4) "empties" [m.prog,.int 1] []) (.lst (j.map toldP))/\Iz m cs j:=by
 have T:=Mx h b o;have hU:(UE m cs).length<=5000:=by rw[Mv];lia
 have X:=WC h;have Y:=Bo h b cs o.lt;obtain⟨j,Z,t2,t3,t4,t5,t6⟩:=sH (uJ m) ((H9 m cs).map kE) (UE m cs) 2 (by show _<4000000;lia) (by show _<3000000;lia) (λg a=>by
  obtain⟨f,rfl,c⟩:=Sk a;obtain⟨q,l,h1,h2,h3,h4,h5⟩:=WA h b o c;refine⟨(stE q.2 l f).map kE,?_,λk' w=>?_,by rw[aj];exact h5⟩
  ·unfold uJ;rw[Bm,cW,h3];rfl
  ·obtain⟨x,d,rfl⟩:=au.mp w;exact D5 (h4 x d)) (λk' w=>by
  obtain⟨f,c,rfl⟩:=au.mp w;exact D5 (WB h b o c))
 refine⟨j,?_,⟨λt ht=>Sk (t3 t ht),t2,t5,t4,λf c=>t6 _ (au.mpr ⟨f,c,rfl⟩)⟩⟩
 rw[AV];have u:=yM h (by lia) (k+2) (by lia)
 have v:=(ku h b (k+1) (by lia)).1
 have D:=uI (k+2) (by lia) h
 obtain⟨E,e⟩:=Bn (k+1) h b (some m.prog) (some (.int 1)) cs (M8 m) none o.lt (by lia)
 have lm:∀g (fs:List (List bh)),uJ m g=some fs->∃(q:Nat) (l:(Nat×b6)×List Nat),(∀H,bQ H (dD g) (.int 0)=some (.int (q:Int)))/\m.as[q]?=some l.1/\m.vX[q]?=some l.2/\Gives (run txt (k+3) "stays_empty" [eN l.1,nT l.2,dD g] []) (.lst (fs.map dD)):=λg fs a=>by
  unfold uJ at a;obtain⟨f,I,y⟩:=aO a;obtain⟨QU,B,rfl⟩:=aZ y;cases nA I;unfold v9 at B;obtain⟨q,d5,d6⟩:=aO B;obtain⟨l,J,rfl⟩:=aZ d6;refine⟨f.n,(q,l),λ_=>rfl,d5,J,?_⟩
  have:=QB k q l (by have:=(yP h b J).1;lia) f
  rw[cJ];exact this
 have L:∀{n:Nat} {q:Nat×b6},m.as[n]?=some q->∀H,bQ H (RW m) (.int (n:Int))=some (eN q):=λe H=>Si e H
 have M:∀{n:Nat} {l:List Nat},m.vX[n]?=some l->∀H,bQ H (AF m) (.int (n:Int))=some (nT l):=λe H=>Sj e H
 have N:=FK h;have i:∀H,bQ H m.prog (.int 1)=some m.F1:=D1
 have nF:=FJ h;obtain⟨P,hP⟩:=nw m.prog;obtain⟨F,hF⟩:=nw m.F1;rw[<-hF]at D nF i;have u:Gives (run txt (k+3) "acts" [m.prog,.int 1] []) (RW m):=u;have v:Gives (run txt (k+3) "nexts" [m.prog,.int 1] []) (AF m):=v;rw[<-hP]at u v hc N i e ⊢
 generalize RW m=R at u e L
 generalize AF m=A at v e M
 have a5:Ev (dc (bnd Qb (bK 0 2 (run txt (k+3) "acts"))) (aU 5)) (S0 [some P,some (.int 1),none,none,none,none]) .nx (S0 [some P,some (.int 1),none,none,none,some R]):=aS (da (as:=[P,.int 1]) (cA rfl (cA rfl rfl)) rfl rfl u) rfl;have a4:Ev (dc (bnd Qb (bK 0 2 (run txt (k+3) "nexts"))) (aU 4)) (S0 [some P,some (.int 1),none,none,none,some R]) .nx (S0 [some P,some (.int 1),none,none,some A,some R]):=aS (da (as:=[P,.int 1]) (cA rfl (cA rfl rfl)) rfl rfl v) rfl;have a2:Ev (dc (bnd (ao Qi (aW [])) (bK 1 1 (run txt (k+3) "empty_at_first"))) (aU 2)) (S0 [some P,some (.int 1),none,none,some A,some R]) .nx ⟨[some P,some (.int 1),some (.ref 0),none,some A,some R],[⟨.lst,(M8 m).map kH⟩]⟩:=aS (MZ (as:=[F]) (cA (b2 rfl rfl (i _)) rfl) rfl rfl D) rfl;have cm:Ek (iY (bnd Qb (bK 0 2 (run txt (k+3) "come_to")))) ⟨[some P,some (.int 1),some (.ref 0),none,some A,some R],[⟨.lst,(M8 m).map kH⟩]⟩ (.sq (cs.map iN)):=sV (da (as:=[P,.int 1]) (cA rfl (cA rfl rfl)) rfl (by simp[ai,N,noRef]) hc) rfl
 have r:=LN (fe:=rd 2) (fb:=bnd Qf (bK 0 3 (run txt (k+3) "stays_empty"))) (link:=[some 4,some 5]) (s:=⟨[some P,some (.int 1),some (.ref 0),E,some A,some R],[⟨.lst,(M8 m++jN m cs).map kH⟩]⟩) (s1:=⟨[some P,some (.int 1),some (.ref 0),E,some A,some R],[⟨.lst,(M8 m++jN m cs).map kH⟩]⟩) (p:=.ref 0) (fk:=(H9 m cs).map kE) (res:=j) rfl (.inr ⟨0,rfl,by rw[cJ];rfl⟩) (Fp (k+2)) (LO (k+3)) (λf c=>by
  obtain⟨x,_,rfl⟩:=au.mp c;show 3<1000;decide) (by
  rw[aj];unfold H9;rw[aV]
  lia) Z (λg fs a=>by
  obtain⟨n,⟨q,l⟩,Q,g1,g2,g3⟩:=lm g fs a;refine⟨λx d=>?_,λC=>⟨some (dD g)::[some A,some R],?_⟩⟩
  ·unfold uJ at a;obtain⟨f,I,y⟩:=aO a;obtain⟨QU,B,rfl⟩:=aZ y;obtain⟨f'',_,rfl⟩:=au.mp d;show 3<1000;decide
  ·exact da (as:=[eN q,nT l,dD g]) (cA (b2 rfl (b2 rfl rfl (Q _)) (L g1 _)) (cA (b2 rfl (b2 rfl rfl (Q _)) (M g2 _)) (cA rfl rfl))) rfl (by simp[ai,noRef,eN,jy,nT,kF,Pt]) g3)
 refine⟨.ref 2,_,gz (sq a5 (sq a4 (sq a2 (sq (fS cm e) (rS r))))),?_⟩;exact DQ (n:=2) (VS (hd:=[⟨.lst,(M8 m++jN m cs).map kH⟩,mP])) (yz j)
end
theorem tM:∀(A B:List (List b6)) (i:Nat),dn i (A++B)=dn i A++dn (i+A.length) B
 | [],_,_=>rfl
 | a::A,B,i=>by rw[qP,dn,dn,tM A B (i+1),dG,aN,Nat.add_right_comm,nR]
theorem tN(as:List b6):∃a l,bU as=a::l:=by cases as with | nil=>exact⟨_,_,rfl⟩ | cons a l=>exact⟨_,_,rfl⟩
theorem oM:∀(as:List (Nat×b6)) (i:Nat) (kvs:List (bh×PV)) (k:bh) (p:PV),bG kvs k=some p->bG (gS as i kvs) k=some p
 | [],_,_,_,_,h=>h
 | (j,_)::as,i,kvs,k,p,h=>by
  rw[gS];split
  ·exact oM as _ _ _ _ h
  ·refine oM as _ _ _ _ ?_;unfold bG at h ⊢;rw[wB];cases z:kvs.find? λa=>decide (a.1=k)with
   | none=>rw[z]at h;cases h
   | some q=>rw[z]at h;exact h
theorem tO(j:Nat)(a:b6)(c:List (Nat×b6)):∀(b:List (Nat×b6)) (i:Nat) (kvs:List (bh×PV)),(∀q∈b,q.1≠j)->bG kvs (.inl (j:Int))=none->bG (gS (b++(j,a)::c) i kvs) (.inl (j:Int))=some (.int ((i+b.length:Nat):Int))
 | [],i,kvs,_,h=>by
  show bG (gS ((j,a)::c) i kvs) _=_;rw[gS,h];refine oM _ _ _ _ _ ?_;unfold bG at h ⊢;rw[wB,wu.mp h];simp
 | (n,x)::b,i,kvs,d,h=>by
  have g:n≠j:=d _ aJ;have e:i+((n,x)::b).length=i+1+b.length:=by rw[aN];lia
  rw[e,qP,gS];split
  ·exact tO j a c b (i+1) kvs (λq f=>d q (aH _ f)) h
  ·refine tO j a c b (i+1) _ (λq f=>d q (aH _ f)) ?_
   unfold bG at h ⊢;rw[wB,wu.mp h];simp
   lia
section
variable {m:Md} {most:Nat} {cs:List Nat} {ah:dM}
def nC(m:Md)(j:Nat):Nat:=ng (gS m.as 0 []) j
structure Sm (m:Md) (j:Nat) (r:Ro) (b:List (Nat×b6)) (c:List (Nat×b6)):Prop where
 eq:m.as=b++(bU (k8 r)).map (λa=>(j,a))++c
 c:∀q∈c,q.1≠j
 st:bG (gS m.as 0 []) (.inl (j:Int))=some (.int (b.length:Int))
theorem kJ{j:Nat}{r:Ro}(d:m.L[j]?=some r):∃c,Sm m j r (dn 0 (m.A.take j)) c/\nC m j=(dn 0 (m.A.take j)).length:=by
 obtain⟨p,t⟩:=bj.mp d;have e:m.A=m.A.take j++k8 r::m.A.drop (j+1):=by
  have h:m.A[j]?=some (k8 r):=by unfold Md.A;rw[bz,d];rfl
  obtain⟨u,i⟩:=bj.mp h;rw[<-i,<-lz,wx]
 have k:(m.A.take j).length=j:=by unfold Md.A;simp;lia
 have f:m.as=dn 0 (m.A.take j)++(bU (k8 r)).map (λa=>(j,a))++dn (j+1) (m.A.drop (j+1)):=by
  unfold Md.as;rw[cS (dn 0) e,tM,dn,k,iy,dG]
 have o:∀q∈dn 0 (m.A.take j),q.1≠j:=λq b=>by have:=(m9 _ _ q b).2;lia
 have g:bG (gS m.as 0 []) (.inl (j:Int))=some (.int ((dn 0 (m.A.take j)).length:Int)):=by
  obtain⟨a,l,ho⟩:=tN (k8 r);rw[f,ho,aM,dG,qP,tO j a _ _ 0 [] o rfl,iy]
 refine⟨_,⟨f,λq b=>by have:=(m9 _ _ q b).1;lia,g⟩,?_⟩
 unfold nC ng;rw[g];rfl
theorem QE{j:Nat}{r:Ro}(a:m.L[j]?=some r):∃b c,Sm m j r b c/\nC m j=b.length:=⟨_,kJ a⟩
theorem D6(as:List (Nat×b6))(kvs:List (bh×PV))(nx:Nat->List Nat):∀(bs:List (Nat×b6)) (i n:Nat),(Ir as kvs nx i bs)[n]?=(bs[n]?).map λq=>iG as kvs nx (i+n) q
 | [],_,_=>rfl
 | q::bs,i,0=>rfl
 | q::bs,i,n+1=>by
  rw[Ir,wm,wm,D6 as kvs nx bs (i+1) n,Nat.add_right_comm,nR]
theorem mf{n:Nat}{q:Nat×b6}(h:m.as[n]?=some q):m.vX[n]?=some (iG m.as (gS m.as 0 []) m.nx n q):=by
 have:=D6 m.as (gS m.as 0 []) m.nx m.as 0 n;rw[h,iy]at this;exact this
def QF(cs:List Nat)(ah:dM)(n:Nat)(x:Str)(l:Int):Prop:=n∈cs/\kE ⟨n,x,l⟩∈ah.map (·.1)
theorem WD(j:jd m cs)(T:Iz m cs ah){n:Nat}{q:Nat×b6}{x:Str}{l:Int}(c:m.as[n]?=some q)(hk:QF cs ah n x l)(he:fZ q.2 x l=false):∀b∈iG m.as (gS m.as 0 []) m.nx n q,QF cs ah b x l:=by
 intro b d;have f:=mf c;refine⟨j.nx n hk.1 _ f b d,?_⟩;obtain⟨t,ht,e⟩:=au.mp hk.2;obtain⟨i,g,a⟩:=qH ht;obtain⟨fs,h,k⟩:=T.done i t.1 t.2 g (by rw[bC g,a])
 have o:uJ m t.1=some ((stE q.2 (iG m.as (gS m.as 0 []) m.nx n q) ⟨n,x,l⟩).map kE):=by
  rw[e];unfold uJ v9;rw[Bm];simp only[cW,c,f,gh]
 rw[o]at h;cases h;refine k _ (au.mpr ⟨⟨b,x,l⟩,?_,rfl⟩);unfold stE;rw[if_neg (by rw[he];exact dh)]
 exact au.mpr ⟨b,d,rfl⟩
def My(a:b6)(x:Str)(l:Int):Prop:=a.w=Str.ofString "empty"/\a.n=x/\l∈Mt a
theorem WE(f:jd m cs)(T:Iz m cs ah){n:Nat}{q:Nat×b6}{x:Str}{l:Int}(a:m.as[n]?=some q)(c:n∈cs)(he:My q.2 x l):∀b∈iG m.as (gS m.as 0 []) m.nx n q,QF cs ah b x l:=by
 intro b d;have e:=mf a;refine⟨f.nx n c _ e b d,T.fst _ (de _ (c6.mpr ⟨n,c,?_⟩))⟩;unfold Sl;rw[a,e];show _∈BE q.2 _;unfold BE;obtain⟨g,rfl,h⟩:=he;rw[if_pos (by rw[g];exact fH _)]
 exact c6.mpr ⟨b,d,au.mpr ⟨l,h,rfl⟩⟩
structure jE (m:Md) (j n:Nat) (bs:List b6):Prop where
 here:∀i a,bs[i]?=some a->m.as[n+i]?=some (j,a)
 over:(m.as[n+bs.length]?).map (·.1)≠some j
theorem qA{j n:Nat}{a:b6}{bs:List b6}(R:jE m j n (a::bs)):m.as[n]?=some (j,a)/\(bs=[]->iG m.as (gS m.as 0 []) m.nx n (j,a)=(m.nx j).map (nC m))/\(bs≠[]->iG m.as (gS m.as 0 []) m.nx n (j,a)=[n+1]/\jE m j (n+1) bs):=by
 refine⟨R.here 0 a rfl,λe=>?_,λe=>⟨?_,λi b c=>?_,?_⟩⟩
 ·subst e;exact if_neg R.over
 ·cases bs with
  | nil=>exact absurd rfl e
  | cons b bs=>exact if_pos (by rw[R.here 1 b rfl];rfl)
 ·rw[nR,Nat.add_comm 1 i];exact R.here (i+1) b (by rw[wm];exact c)
 ·rw[nR,Nat.add_comm 1];exact R.over
theorem tP{j:Nat}{r:Ro}(f:m.L[j]?=some r):jE m j (nC m j) (bU (k8 r))/\bG (gS m.as 0 []) (.inl (j:Int))=some (.int (nC m j:Int)):=by
 obtain⟨b,c,h,e⟩:=QE f;refine⟨⟨λi a d=>?_,?_⟩,by rw[e];exact h.st⟩
 ·rw[e,h.eq,dG,je (nQ _ _),Nat.add_sub_cancel_left,c5 (by rw[aj];exact(bj.mp d).1),bz,d]
  rfl
 ·rw[e,h.eq,je (by simp)]
  intro z;obtain⟨q,g,z⟩:=f9.mp z;exact h.c q (cH g) z
theorem WG(d:jd m cs)(T:Iz m cs ah){j:Nat}{x:Str}{l:Int}:∀(bs:List b6) (n:Nat),bs≠[]->jE m j n bs->QF cs ah n x l->(∀a∈bs,fZ a x l=false)->∀b∈(m.nx j).map (nC m),QF cs ah b x l
 | [],_,h,_,_,_=>absurd rfl h
 | a::bs,n,_,R,hk,he=>by
  obtain⟨f,g,i⟩:=qA R;have c:=WD d T f hk (he a aJ);by_cases e:bs=[]
  ·rw[g e]at c;exact c
  ·obtain⟨k,o⟩:=i e;rw[k]at c;exact WG d T bs (n+1) e o (c _ aJ) λa p=>he a (aH _ p)
theorem Mz(d:jd m cs)(T:Iz m cs ah){j:Nat}{x:Str}{l:Int}:∀(bs:List b6) (n:Nat),jE m j n bs->n∈cs->(∃a∈bs,My a x l)->(∀a∈bs,fZ a x l=false)->∀b∈(m.nx j).map (nC m),QF cs ah b x l
 | [],_,_,_,⟨_,h,_⟩,_=>nomatch h
 | a::bs,n,R,p,⟨t,f,c⟩,he=>by
  obtain⟨q,u,r⟩:=qA R;rcases aK.mp f with rfl | f
  ·have g:=WE d T q p c;by_cases e:bs=[]
   ·rw[u e]at g;exact g
   ·obtain⟨i,k⟩:=r e;rw[i]at g;exact WG d T bs (n+1) e k (g _ aJ) λa o=>he a (aH _ o)
  ·have e:bs≠[]:=λz=>by subst z;cases f
   obtain⟨i,k⟩:=r e;exact Mz d T bs (n+1) k (d.nx n p _ (mf q) _ (by rw[i];exact aJ)) ⟨t,f,c⟩ λa o=>he a (aH _ o)
theorem MA(d:jd m cs){j:Nat}:∀(bs:List b6) (n:Nat),bs≠[]->jE m j n bs->n∈cs->∀b∈(m.nx j).map (nC m),b∈cs
 | [],_,h,_,_=>absurd rfl h
 | a::bs,n,_,R,f=>by
  obtain⟨g,i,k⟩:=qA R;have c:=d.nx n f _ (mf g);by_cases e:bs=[]
  ·rw[i e]at c;exact c
  ·obtain⟨l,o⟩:=k e;exact MA d bs (n+1) e o (c _ (by rw[l];exact aJ))
end
theorem WH(C:Int)(q i:Nat)(e:i<4):gU C q≠sI i:=by
 intro h;have c:(gU C q).cps.toList=(List.range (Iu C).length).map (M3 (Iu C) (LW C) q):=by simp[gU,DW,eP]
 rw[h,nj]at c;obtain⟨n,f⟩:∃n,yD C=n+1:=⟨yD C-1,by have:=tw C;lia⟩
 rw[f,List.range_succ_eq_map,aM]at c;have g:=cS (λl=>l.head?) c
 have j:∀a:Nat,a<97->some a=some (M3 (Iu C) (LW C) q 0)->False:=λa d z=>by
  have:=bI z;unfold M3 cp at this
  lia
 have b:∀a:Nat,a<97->(sI i).cps.toList.head?=some a->False:=λa d z=>j a d (z.symm.trans g)
 match i,e,b with
 | 0,_,b=>exact b 48 (by decide) (by kernel_rfl)
 | 1,_,b=>exact b 49 (by decide) (by kernel_rfl)
 | 2,_,b=>exact b 50 (by decide) (by kernel_rfl)
 | 3,_,b=>exact b 51 (by decide) (by kernel_rfl)
noncomputable def Bp(x:Str)(f:Int)(n:Int):List (Str×Int):=(List.range n.toNat).map λi=>(x,f+(i:Nat)*1)
def QG(s:Sp):List (Str×Int):=Bp s.x s.r.2.1 s.r.2.2.1
def MB(q:Rk):List (Str×Int):=match q.2 with
 | .ow s=>if Fj s=true then []else Bp q.1 0 (sz s)
 | .ho _ _=>[]
def IA:Ro->List (Str×Int)
 | .kr _ s=>QG s
 | .drop s=>QG s
 | .call _ _ a=>a.flatMap MB
 | _=>[]
def MC(s:Sp):List (Str×Int):=if d9 s.d=true\/mE s.a=false then []else QG s
def WI:Ro->List (Str×Int)
 | .put _ s _=>MC s
 | .set s _ _ _=>MC s
 | .qa t _=>MC t
 | .kr t _=>MC t
 | .k7 x _ _=>[(x,0)]
 | .call (some (x,.ow s)) _ _=>Bp x 0 (sz s)
 | .call (some (x,.ho _ _)) _ _=>[(x,0)]
 | _=>[]
section
variable {m:Md} {most:Nat} {x:Str} {l:Int}
def Gd(m:Md)(x:Str)(l:Int):Prop:=∃d,(x,d)∈m.ks/\(d9 d=true->l=0)
theorem yR{f n:Int}(d:0<=n):(x,l)∈Bp y f n↔y=x/\f<=l/\l<f+n:=by
 unfold Bp;simp only[au,c7,lK];constructor
 ·rintro⟨i,a,b,c⟩;exact⟨b,by lia,by lia⟩
 ·rintro⟨a,b,c⟩;exact⟨(l-f).toNat,by lia,a,by lia⟩
def tQ(a:b6):Prop:=(a.k=Str.ofString ""\/∃i,i<4/\a.k=sI i)/\a.w≠Str.ofString "fill"
theorem Sn(g:Gd m x l):∃i,x=gU m.C i:=by
 obtain⟨d,h,_⟩:=g;obtain⟨i,_,e⟩:=Sd h;exact⟨i,e⟩
theorem quiet{a:b6}(g:Gd m x l)(h:tQ a):fZ a x l=false:=by
 obtain⟨i,rfl⟩:=Sn g;obtain⟨b,c⟩:=h;unfold fZ Wy;rw[fu.mpr c,Bool.false_and,Bool.or_false,fu];rcases b with b | ⟨j,d,b⟩
 ·rw[b];exact λz=>absurd z.symm (fu.mp (DX m.C i))
 ·rw[b];exact λz=>WH m.C i j d z.symm
theorem aaH(a:PV):∀b∈Fi a,tQ b:=by
 unfold Fi;split
 ·intro b c;cases aD.mp c;exact⟨.inl rfl,by show Str.ofString "read"≠_;decide +kernel⟩
 ·intro b c;cases c
theorem QH(o:Op):∀b∈m4 o,tQ b:=by
 cases o with
 | n i=>intro b a;cases a
 | s s =>
  intro b a;rcases bA.mp a with a | a
  ·exact aaH _ b a
  ·cases aD.mp a;exact⟨.inl rfl,by show Str.ofString "read"≠_;decide +kernel⟩
theorem kK{s:Sp}(f:0<=s.r.2.2.1)(g:Gd m x l)(j:mE s.a=true)(h:fZ (k0 (Str.ofString "fill") s (Str.ofString "")) x l=true):(x,l)∈MC s:=by
 obtain⟨i,rfl⟩:=Sn g;unfold fZ Wy at h;rw[show((k0 (Str.ofString "fill") s (Str.ofString "")).k==gU m.C i)=false from by rw[fu];exact λz=>absurd z.symm (fu.mp (DX m.C i)),wO]at h
 have h:=(dR.mp h).2;obtain⟨b,c⟩:=dR.mp h;have b:(!d9 s.d)=true:=b;unfold tch at c;obtain⟨c,e⟩:=dR.mp c;obtain⟨e,o⟩:=dR.mp e;unfold MC;rw[if_neg (by rw[j];simp at b;simp[b])]
 exact(yR f).mpr ⟨aY c,dF e,dF o⟩
theorem ip{s:Sh}{r:Rw}(h:r∈tab s):0<=r.2.2.1:=by
 rw[sU s r h];exact B2 _
theorem FQ{s:Sp}{ks:List Rk}(c:cC ks s)(g:Gd m x l){a:b6}(b:a∈sY s)(h:fZ a x l=true):(x,l)∈MC s:=by
 unfold sY at b;split at b
 ·rename_i e;cases aD.mp b;exact kK (ip c.row) g (by rw[e];rfl) h
 ·exfalso
  have:tQ a:=by
   rcases bA.mp b with b | b
   ·exact aaH _ a b
   ·cases aD.mp b;exact⟨.inl rfl,by show Str.ofString "turn"≠_;decide +kernel⟩
  rw[quiet g this]at h;cases h
theorem WJ(a:Gd m x l):fZ vJ x l=false:=quiet a ⟨.inl rfl,by show Str.ofString "rest"≠_;decide +kernel⟩
theorem aev(q:Rk)(i:Nat)(a:i<4):tQ (V1 q.1 q.2 (sI i)):=by
 unfold V1;split
 ·refine⟨.inl rfl,?_⟩;show oW _≠_;unfold oW;split<;>decide +kernel
 ·refine⟨.inr ⟨i,a,rfl⟩,?_⟩;show(if _ then _ else _)≠_
  split<;>decide +kernel
theorem So:∀(b:List Rk) (i:Nat),i+b.length<=4->∀a∈jx i b,tQ a
 | [],_,_,_,h=>nomatch h
 | r::l,i,c,a,h=>by
  rw[aN]at c;rcases aK.mp h with rfl | h
  ·exact aev r i (by lia)
  ·exact So l (i+1) (by lia) a h
theorem QI{d e:Kn}(h1:(x,d)∈m.ks)(a:(x,e)∈m.ks):d=e:=by
 have b:=ja _ _ (@vW m) h1;have c:=ja _ _ (@vW m) a;exact bI (b.symm.trans c)
theorem Sq(g:Gd m x l){b:Bool}{s:Sh}(h:(x,Kn.ho b s)∈m.ks):l=0:=by
 obtain⟨d,a,c⟩:=g;cases QI a h;exact c rfl
theorem Sr{a:b6}(h:fZ a x l=true)(hw:a.w≠Str.ofString "fill"):a.k=x:=by
 unfold fZ Wy at h;rw[fu.mpr hw,Bool.false_and,Bool.or_false]at h;exact aY h
theorem QJ{r:Ro}{C:Cs}{M:Nat}(ok:oK C m.ks M r)(g:Gd m x l):∀a∈k8 r,fZ a x l=true->(x,l)∈WI r:=by
 intro a c h;have e:tQ a->(x,l)∈WI r:=λq=>by rw[quiet g q]at h;cases h
 cases r with
 | put k s o =>
  rcases bA.mp c with c | c
  ·exact e (QH o a c)
  ·exact FQ ok.1 g c h
 | set s w a1 p =>
  rcases bA.mp c with c | c
  ·rcases bA.mp c with c | c
   ·exact e (QH _ a c)
   ·exact e (QH _ a c)
  ·exact FQ ok.1 g c h
 | qa t s =>
  rcases aK.mp c with rfl | c
  ·exact e ⟨.inl rfl,by show Str.ofString "read"≠_;decide +kernel⟩
  ·cases aD.mp c;exact kK (ip ok.1.row) g (by rw[ok.2.2.1];rfl) h
 | kr t s =>
  rcases aK.mp c with rfl | c
  ·exact e ⟨.inl rfl,by show Str.ofString "empty"≠_;decide +kernel⟩
  ·cases aD.mp c;exact kK (ip ok.1.row) g (by rw[ok.2.2.1];rfl) h
 | drop s =>
  cases aD.mp c;exact e ⟨.inl rfl,by show Str.ofString "empty"≠_;decide +kernel⟩
 | k7 y b s =>
  cases aD.mp c;cases(Sr h (by show lw b≠_;cases b<;>decide +kernel):y=x)
  rw[Sq g ok.2.2.1];exact aD.mpr rfl
 | call f j i =>
  rcases bA.mp c with c | c
  ·exact e (So i 0 (by have:=ok.2.2.2.2.1;lia) a c)
  ·rcases aK.mp c with rfl | c
   ·exact e ⟨.inl rfl,by show Str.ofString "hand"≠_;decide +kernel⟩
   ·cases f with
    | none=>cases c
    | some q =>
     have hk:=ok.2.2.2.2.2 q rfl;obtain⟨y,d⟩:=q;cases d with
     | ow s =>
      cases aD.mp c;have:=kK (s:=⟨y,.ow s,yy s,.bB⟩) (B2 _) g rfl h;exact this
     | ho b s =>
      cases aD.mp c;cases(Sr h (by show Str.ofString "take"≠_;decide +kernel):y=x)
      rw[Sq g hk];exact aD.mpr rfl
 | M6 o=>exact e (QH _ _ c)
 | iJ z =>
  cases z with
  | none=>cases c
  | some q =>
   cases aD.mp c;refine e ?_;unfold gvA;split
   ·refine⟨.inl rfl,?_⟩;show oW _≠_;unfold oW;split<;>decide +kernel
   ·exact⟨.inl rfl,by show Str.ofString "give"≠_;decide +kernel⟩
theorem FT{q:Rk}:∀(a:List Rk) (i:Nat),q∈a->∃j,V1 q.1 q.2 (sI j)∈jx i a
 | [],_,h=>nomatch h
 | r::l,i,h=>by
  rcases aK.mp h with rfl | h
  ·exact⟨i,aJ⟩
  ·obtain⟨j,b⟩:=FT l (i+1) h;exact⟨j,aH _ b⟩
theorem wa{y:Str}{f n:Int}(h:(x,l)∈Bp y f n):y=x/\l∈(List.range n.toNat).map λi=>f+(i:Nat)*1:=by
 obtain⟨i,a,e⟩:=au.mp h;cases e;exact⟨rfl,au.mpr ⟨i,a,rfl⟩⟩
theorem aaI{q:Rk}(h:(x,l)∈MB q):∃s,q.2=.ow s/\Fj s=false/\(x,l)∈Bp q.1 0 (sz s):=by
 unfold MB at h;split at h
 ·rename_i s e;split at h
  ·cases h
  ·rename_i hc;exact⟨s,e,by simpa using hc,h⟩
 ·cases h
theorem WK{r:Ro}{C:Cs}{M:Nat}(ok:oK C m.ks M r)(h:(x,l)∈IA r):∃a∈k8 r,My a x l:=by
 cases r with
 | kr t s =>
  obtain⟨b,c⟩:=wa h;exact⟨_,aJ,rfl,b,c⟩
 | drop s =>
  obtain⟨b,c⟩:=wa h;exact⟨_,aJ,rfl,b,c⟩
 | call k j d =>
  obtain⟨q,f,h⟩:=c6.mp h;obtain⟨s,e,hc,h⟩:=aaI h;obtain⟨b,c⟩:=wa h;obtain⟨i,g⟩:=FT d 0 f;refine⟨_,gf _ g,?_⟩;rw[e];exact⟨show oW s=_ by unfold oW;rw[hc];rfl,b,c⟩
 | _=>cases h
theorem aaJ{r:Ro}{C:Cs}{M:Nat}(ok:oK C m.ks M r)(h:(x,l)∈IA r):Gd m x l:=by
 cases r with
 | kr t s =>
  obtain⟨rfl,_⟩:=wa h;exact⟨_,ok.2.1.mem,λz=>by rw[ok.2.2.2.2.2.2]at z;cases z⟩
 | drop s =>
  obtain⟨rfl,_⟩:=wa h;exact⟨_,ok.1.mem,λz=>by rw[ok.2.2]at z;cases z⟩
 | call b j c =>
  obtain⟨q,a,h⟩:=c6.mp h;obtain⟨s,e,hc,h⟩:=aaI h;obtain⟨rfl,_⟩:=wa h;exact⟨q.2,ok.2.2.2.1 q a,λz=>by rw[e]at z;cases z⟩
 | _=>cases h
theorem MD{cs:List Nat}{i:dM}(h:cD m most)(o:jd m cs)(T:Iz m cs i){j:Nat}{r:Ro}(q:m.L[j]?=some r)(t:nC m j∈cs){k:Nat}(hk:k∈m.nx j):nC m k∈cs/\∀x l,Gd m x l->(QF cs i (nC m j) x l\/(x,l)∈IA r)->(x,l)∉WI r->QF cs i (nC m k) x l:=by
 obtain⟨R,_⟩:=tP q;have ok:=h.ok r (cH q);have p:nC m k∈(m.nx j).map (nC m):=au.mpr ⟨k,hk,rfl⟩;obtain⟨v,w,ne⟩:=tN (k8 r);have ne:bU (k8 r)≠[]:=by rw[ne];exact List.cons_ne_nil _ _
 refine⟨MA o _ _ ne R t _ p,λx l g f u=>?_⟩
 have he:∀a∈bU (k8 r),fZ a x l=false:=λa d=>by
  have:a=vJ\/a∈k8 r:=by
   revert d
   unfold bU;cases k8 r with
   | nil=>exact λd=>.inl (aD.mp d)
   | cons b c=>exact .inr
  rcases this with rfl | d
  ·exact WJ g
  ·cases z:fZ a x l with
   | false=>rfl
   | true=>exact absurd (QJ ok g a d z) u
 rcases f with f | f
 ·exact WG o T _ _ ne R f he _ p
 ·obtain⟨a,d,e⟩:=WK ok f;have d:a∈bU (k8 r):=by
   revert d
   unfold bU;cases k8 r with
   | nil=>exact λd=>nomatch d
   | cons b c=>exact id
  exact Mz o T _ _ R t ⟨a,d,e⟩ he _ p
end
theorem Ss{c:CT}(A P K:Option PV):∀(ps:List Sh) (a:Int) (b:Option PV),(∀s∈ps,Gives (c "_law_leaves" [enc s] []) (.lst (bX (lv s))))->∃d,dm (aU 4) (DG c) (ps.map enc) (S0 [A,P,some (.int a),K,b])=some (.ok .nx,S0 [A,P,some (.int (a+((fW ps).length:Int))),K,d])
 | [],a,b,_=>⟨b,by simp[fW];rfl⟩
 | s::ps,a,b,h=>by
  obtain⟨d,e⟩:=Ss A P K ps (a+((lv s).length:Int)) (some (enc s)) λt ht=>h t (aH _ ht)
  refine⟨d,?_⟩;rw[show a+((fW (s::ps)).length:Int)=a+((lv s).length:Int)+((fW ps).length:Int) by simp only[fW,aV];lia]
  refine fC rfl (aS (b2 rfl (bV (cA (da (cA rfl rfl) rfl rfl (h s aJ)) rfl) (z:=.int ((lv s).length:Int)) ?_) rfl) rfl) e;show some (PV.int ((bX (lv s)).length:Int))=_;rw[dX]
theorem FU(k:Nat)(P:Option PV):∀(p:List Int) (s:Sh) (a:Int) (g f:Option PV) (d:Sh) (e:Int),(tab s).length<=500->dp s<=k->walk s a p=some (d,e)->∃t j,dm (aU 3) (DH (run txt (k+1))) (p.map .int) (S0 [some (enc s),P,some (.int a),g,f])=some (.ok .nx,S0 [some (enc d),P,some (.int e),t,j])
 | [],s,a,g,f,d,e,_,_,h=>by
  simp[walk]at h;obtain⟨rfl,rfl⟩:=h;exact⟨g,f,rfl⟩
 | i::p,s,a,g,f,d,e,ht,hd,h=>by
  obtain⟨x,u,hw⟩:=lB.mp (show(Iq s i).bind (λx=>walk x.1 (a+x.2) p)=some (d,e)from h)
  obtain⟨b,rfl,l,m,v⟩:=km u;have o:x.1∈b:=cH m;have M:=vz o;have w:(tab (.bt b)).length=g8 b+1:=by simp only[tab,aN,fX]
  have y:=yd b;have B:=sy b;have C:=LD o;have D:oY b+1<=k:=by simpa only[dp]using hd
  obtain⟨j,q⟩:=Ss (c:=run txt (k+1)) (some (enc (.bt b))) P (some (.int i)) (b.take i.toNat) a f λs E=>gT b k (by lia) (by lia) s (List.mem_of_mem_take E)
  obtain⟨H,I,r⟩:=FU k P p x.1 (a+x.2) (some (.int i)) j d e (by lia) (by lia) hw
  rw[<-v]at q;have J:=qu l m;have L:Il [] none (some i) (.aq (bX b))=some (.aq ((b.take i.toNat).map enc)):=by
   show some (PV.aq (j6 (bX b) none (some i)))=_;rw[<-lF l,LF,i9,List.map_take,gE]
  exact⟨H,I,fC rfl (sq (fS (sV (cE (b2 rfl rfl rfl) rfl rfl L) rfl) q) (aS (b2 (b2 rfl rfl rfl) rfl J) rfl)) r⟩
theorem ME(k:Nat)(s:Sh)(p:List Int)(x:Sh×Int)(ht:(tab s).length<=500)(hd:dp s<=k)(h:walk s 0 p=some x):Gives (run txt (k+2) "_law_first" [enc s,.aq (p.map .int)] []) (.int x.2):=by
 rw[DI];obtain⟨a,b,q⟩:=FU k (some (.aq (p.map .int))) p s 0 none none x.1 x.2 ht hd h;exact gV (sq (aS rfl rfl) (sq (fS rfl q) (rS rfl))) rfl
theorem Bq:∀(kvs acc:List (bh×PV)),((acc++kvs).map (·.1)).Nodup->vi kvs ⟨.eR false (acc.map λq=>[q.1]),acc.map (·.2)⟩=⟨.eR false ((acc++kvs).map λq=>[q.1]),(acc++kvs).map (·.2)⟩
 | [],acc,_=>by rw[dU];rfl
 | (k,p)::kvs,acc,h=>by
  have a:iz [k] (acc.map λq=>[q.1])=false:=by
   unfold iz;rw[List.any_eq_false];intro x b;obtain⟨q,c,rfl⟩:=au.mp b;rw[cw,qK]at h;simp only[gG];intro e;injection e with e _
   exact h.2.2 q.1 (au.mpr ⟨q,c,rfl⟩) k (by simp) e
  have ih:=Bq kvs (acc++[(k,p)]) (by grind)
  show vi kvs (mK false [k] p (acc.map λq=>[q.1]) (acc.map (·.2)))=_
  unfold mK;rw[a,if_neg dh];rw[dG,cw,cw]at ih;exact ih
def QK{ks:List Rk}(b:(ks.map (·.1)).Nodup)(a:ks.length<=1000):Ha (ks.map bu)=some ⟨.eR false (ks.map λq=>[.inr q.1]),ks.map λq=>encK q.2⟩:=by
 have e:∀ks:List Rk,cb EW (ks.map bu)=some (ks.map λq=>((.inr q.1:bh),encK q.2)):=λks=>by
  induction ks with
  | nil=>rfl
  | cons q ks ih=>rw[aM,cb,ih];rfl
 unfold Ha;rw[aj,if_pos a,e,gh];have:=Bq (ks.map λq=>((.inr q.1:bh),encK q.2)) [] (by
  grind)
 rw[gi,cJ,cJ]at this;exact cS some this
theorem Br(x:Str):∀ks:List Rk,eY [.inr x] (ks.map λq=>[.inr q.1]) (ks.map λq=>encK q.2)=(mZ ks x).map encK
 | []=>rfl
 | q::ks=>by
  rw[aM,aM,eY,mZ];by_cases e:q.1=x
  ·grind
  ·rw[if_neg (by grind),if_neg e]
   exact Br x ks
abbrev pL(q:Str×Int):PV:=.aq [.str q.1,.int q.2]
def D7(m:Md):ak:=⟨.eR false (m.ks.map λq=>[.inr q.1]),m.ks.map λq=>encK q.2⟩
section
variable {m:Md} {most:Nat} {H:List ak}
theorem MF(b:H[0]?=some (D7 m)){x:Str}{d:Kn}(c:(x,d)∈m.ks):bQ H (.ref 0) (.str x)=some (encK d):=by
 have e:cz H (.ref 0)=some (.eR false (m.ks.map λq=>[.inr q.1]),m.ks.map λq=>encK q.2):=by
  show(H[0]?).bind _=_;rw[b];rfl
 show(match cz H (.ref 0)with
  | some (.aq,a)=>(mH (.str x)).bind (L2.lb a)
  | some (.lst,a)=>(mH (.str x)).bind (L2.lb a)
  | some (.eR t ks,a)=>(ie t (.str x)).bind λk=>eY k ks a
  | _=>none)=_
 rw[e];show eY [.inr x] _ _=_;rw[Br,ja m.ks (x,d) vW c];rfl
theorem aaK:∀l:List Int,ai (l.map PV.int)=true
 | []=>rfl
 | _::l=>aaK l
theorem FV(c:CT)(A P L:Option PV):∀(p:List Int) (s:Sh) (a:Int) (e:Option PV) (b:Sh) (d:Int),walk s a p=some (b,d)->∃f,dm (aU 4) (yq c) (p.map .int) ⟨[A,P,some (enc s),L,e],H⟩=some (.ok .nx,⟨[A,P,some (enc b),L,f],H⟩)
 | [],s,a,e,b,d,h=>by
  simp[walk]at h;obtain⟨rfl,rfl⟩:=h;exact⟨e,rfl⟩
 | i::p,s,a,e,b,d,h=>by
  obtain⟨x,g,hw⟩:=lB.mp (show(Iq s i).bind (λx=>walk x.1 (a+x.2) p)=some (b,d)from h)
  obtain⟨l,rfl,j,k,_⟩:=km g;obtain⟨f,q⟩:=FV c A P L p x.1 (a+x.2) (some (.int i)) b d hw;exact⟨f,fC rfl (aS (b2 (b2 rfl rfl rfl) rfl (qu j k)) rfl) q⟩
theorem mh(k:Nat)(hk:4<=k)(f:H[0]?=some (D7 m)){s:Sp}(c:cC m.ks s)(v:noRef s.a=true):run txt (k+3) "_law_touched" [.ref 0,bF s] H=some (.ok (.lst ((QG s).map pL)),H):=by
 obtain⟨x,d,r,a⟩:=s;have hw:=sE (bN d) r c.row 0;have g:=sU (bN d) r c.row;have hd:=oH (bN d) r c.row;have h1:(tab (bN d)).length<=100:=c.ok.1;have w:dp (bN d)<=3:=c.ok.2;have y:=vy (bN d);rw[lM]at hw;have h:=ME k (bN d) r.1 _ (by lia) (by lia) hw
 have o:=jc r.2.2.2 (k+1) (by lia) (by lia)
 obtain⟨p,q⟩:=FV (run txt (k+2)) (some (.ref 0)) (some (LI x (d9 d) r.1 a)) (some (.int r.2.1)) r.1 (bN d) 0 none _ _ hw (H:=H);rw[yr];have t:Ek (op2 bQ (rd 0) Qw) ⟨[some (.ref 0),some (LI x (d9 d) r.1 a),none,none,none],H⟩ (encK d):=b2 rfl (b2 rfl rfl rfl) (MF f c.mem);have u:Ev (dQ (gO Q2) (dc Qk (aU 2)) (aW .nx)) ⟨[some (.ref 0),some (LI x (d9 d) r.1 a),some (encK d),none,none],H⟩ .nx ⟨[some (.ref 0),some (LI x (d9 d) r.1 a),some (enc (bN d)),none,none],H⟩:=by
  cases d with
  | ow s=>exact iF (tB (b:=false) (b2 rfl rfl rfl)) rfl
  | ho b s=>exact iT (tB (b:=true) (b2 rfl rfl rfl)) (aS (b2 rfl rfl rfl) rfl)
 refine gz (yb:=[some (.ref 0),some (LI x (d9 d) r.1 a),some (enc r.2.2.2),some (.int r.2.1),p]) ?_;refine sq (aS t rfl) (sq u (sq (aS (da (as:=[enc (bN d),.aq (r.1.map .int)]) (cA rfl (cA (b2 rfl rfl rfl) rfl)) rfl (by simp[ai,noRef,c8,aaK]) h) rfl) (sq (fS (sV (b2 rfl rfl rfl) rfl) q) (rS ?_))))
 show Ev _ _ (PV.lst ((Bp x r.2.1 r.2.2.1).map pL)) _;unfold Bp;rw[cJ,g,show(sz r.2.2.2).toNat=(lv r.2.2.2).length from rfl]
 refine cM (l:=List.range (lv r.2.2.2).length) (e:=ni) (lu (j:=(lv r.2.2.2).length) (cA (bV (cA (da (as:=[enc r.2.2.2]) (cA rfl rfl) rfl (by simp[ai,c8]) o) rfl) ?_) rfl) (by lia)) (by rw[ez];lia) λi _=>?_
 ·show some (PV.int ((bX (lv r.2.2.2)).length:Int))=_;rw[dX];rfl
 ·rw[Wz];show _=some (some (pL (x,r.2.1+(i:Int)*1)),H);rw[Int.mul_one];exact e1 (C4:=[none,some (iN i),some (.int r.2.1),some (LI x (d9 d) r.1 a)]) (h1:=H) rfl (tU (ps:=[.str x,.int (r.2.1+(i:Int))]) (cA (b2 rfl rfl rfl) (cA (b2 rfl rfl rfl) rfl)) (by simp))
end
theorem MH(h:List ak)(s:Sh):jK false h oP (.lst (bX (lv s)))=some (.bl ((lv s).any jM)):=by
 have hd:=m7 (qo s);have e:=toT_encs h (lv s) eH (by rw[hd];decide)
 have a:Ik h oP (bX (lv s))=some ((lv s).any jM):=by
  unfold Ik;rw[e,show toT h eH oP=some (.aq [.str "own"])from rfl,<-yx]
  rfl
 show(Ik h oP (bX (lv s))).map _=_;rw[a];rfl
section
variable {m:Md} {most:Nat} {H:List ak}
theorem Bs(h:List ak)(d:Kn):jK true h (.str (kw d)) (.aq [.str "lent",.str "sole"])=some (.bl (!d9 d)):=by
 cases d with
 | ow s=>cases s<;>kernel_rfl
 | ho b s=>cases b<;>kernel_rfl
theorem yS(c:H[0]?=some C)(p:PV):(((0:Nat)==0)&&(H.isEmpty || ai [.ref 0,p]))=false:=by
 cases H with
 | nil=>cases c
 | cons a b=>rfl
theorem Bt(k:Nat)(hk:4<=k)(h:cD m most)(b:H[0]?=some (D7 m)){x:Str}{s:Sh}(a:(x,Kn.ow s)∈m.ks):run txt (k+3) "_law_touched" [.ref 0,.aq [.str x,.bl false,.aq [],.bB]] H=some (.ok (.lst ((Bp x 0 (sz s)).map pL)),H) :=
 mh k hk b (s:=⟨x,.ow s,yy s,.bB⟩) ⟨a,(h.ks.good _ a).1.1,fY s,.bB⟩ rfl
theorem Bu(k:Nat)(hk:5<=k)(h:cD m most)(o:H[0]?=some (D7 m))(R:Option PV):∀(a:List Rk) (acc:List (Str×Int)) (g c:Option PV),(∀q∈a,q∈m.ks)->acc.length+3*a.length<=1000 ->
  ∃i j,dm (aU 3) (jv (run txt (k+3))) (a.map gW) ⟨[some (.ref 0),R,some (.lst (acc.map pL)),g,c],H⟩=some (.ok .nx,⟨[some (.ref 0),R,some (.lst ((acc++a.flatMap MB).map pL)),i,j],H⟩)
 | [],acc,g,c,_,_=>⟨g,c,by simp;rfl⟩
 | q::a,acc,g,c,v,B=>by
  rw[aN]at B;have t:=v q aJ;have w:=h.ks.good q t;obtain⟨x,d⟩:=q;have u:∀l:List (Str×Int),MB (x,d)=l->l.length<=3->Ev (jv (run txt (k+3))) ⟨[some (.ref 0),R,some (.lst (acc.map pL)),some (.str x),c],H⟩ .nx ⟨[some (.ref 0),R,some (.lst ((acc++l).map pL)),some (.str x),some (encK d)],H⟩->∃i j,dm (aU 3) (jv (run txt (k+3))) (((x,d)::a).map gW) ⟨[some (.ref 0),R,some (.lst (acc.map pL)),g,c],H⟩=some (.ok .nx,⟨[some (.ref 0),R,some (.lst ((acc++((x,d)::a).flatMap MB).map pL)),i,j],H⟩):=λl e C D=>by
   obtain⟨i,j,z⟩:=Bu k hk h o R a (acc++l) (some (.str x)) (some (encK d)) (λr E=>v r (aH _ E)) (by rw[aV];lia)
   refine⟨i,j,?_⟩;rw[fw,e,<-dG];exact fC rfl D z
  have f:Ek (op2 bQ (rd 0) (rd 3)) ⟨[some (.ref 0),R,some (.lst (acc.map pL)),some (.str x),c],H⟩ (encK d):=b2 rfl rfl (MF o t);have y:=λs:cy=>λe:Ev (rd 4) s (encK d) s=>(bT (b2 (b2 e rfl (jz _ d)) rfl (Bs _ d)):Ev Qp s (!d9 d) s)
  cases d with
  | ho b s =>
   refine u [] rfl (by simp) ?_
   rw[dU];exact sq (aS f rfl) (iF (iF (y _ rfl) rfl) rfl)
  | ow s =>
   have I:=w.1.1;have J:(lv s).length<=3:=w.2;have L:=jc s (k+2) (by have:=I.2;simp only[bN]at this;lia) (by lia)
   have p:Ek (dQ Qp (toB (op2 (jK false) (kO .aq (ao (kS "own") (aW []))) (bnd Qu (bK 0 1 (run txt (k+3) "_law_leaves"))))) (aW false)) ⟨[some (.ref 0),R,some (.lst (acc.map pL)),some (.str x),some (enc s)],H⟩ ((lv s).any jM) :=
    iT (y _ rfl) (bT (b2 rfl (da (as:=[enc s]) (cA rfl rfl) rfl (by simp[ai,c8]) L) (MH _ s)))
   cases ho:(lv s).any jM with
   | false =>
    rw[ho]at p;refine u [] (by show(if Fj s=true then _ else _)=_;unfold Fj;rw[ho];rfl) (by simp) ?_
    rw[dU];exact sq (aS f rfl) (iF p rfl)
   | true =>
    rw[ho]at p;have hw:=Bt k (by lia) h o t
    have C:(Bp x 0 (sz s)).length=(lv s).length:=by unfold Bp;rw[aj,ez];rfl
    refine u (Bp x 0 (sz s)) (by show(if Fj s=true then _ else _)=_;unfold Fj;rw[ho];rfl) (by lia) ?_
    refine sq (aS f rfl) (iT p (aS (b2 rfl (MZ (as:=[.ref 0,.aq [.str x,.bl false,.aq [],.bB]]) (cA rfl (cA rfl rfl)) rfl (yS o _) hw) ?_) rfl));rw[cw];exact aL (by rw[aj,aj];lia)
end
section
variable {m:Md} {most:Nat} {H:List ak}
theorem Su{ks:List Rk}{a:PV}(h:uG ks a):noRef a=true:=by
 cases h<;>rfl
theorem D8(k:Nat)(hk:5<=k)(h:cD m most)(d:H[0]?=some (D7 m)){r:Ro}{C:Cs}{M:Nat}(ok:oK C m.ks M r):run txt (k+4) "_law_emptied" [.ref 0,bW m.fn r] H=some (.ok (.lst ((IA r).map pL)),H):=by
 have f:∀(R:PV) (w:Str),(∀h,bQ h R (.int 0)=some (.str w))->jK false H (.str w) (.aq [.str "move",.str "drop"])=some (.bl false)->Ij H (.str w) (.str "call")=some (.bl true)->run txt (k+4) "_law_emptied" [.ref 0,R] H=some (.ok (.lst []),H):=λR w c g i=>by
  rw[jw];exact gz (yb:=[some (.ref 0),some R,none,none,none]) (sq (iF (bT (b2 (b2 rfl rfl (c _)) rfl g)) rfl) (sv (iT (bT (b2 (b2 rfl rfl (c _)) rfl i)) (rS (p:=.lst []) rfl))))
 have a:∀(R:PV) (w:Str) (s:Sp),cC m.ks s->(∀h,bQ h R (.int 0)=some (.str w))->(∀h,bQ h R (.int (-1))=some (bF s))->jK false H (.str w) (.aq [.str "move",.str "drop"])=some (.bl true)->run txt (k+4) "_law_emptied" [.ref 0,R] H=some (.ok (.lst ((QG s).map pL)),H):=λR w s l c g i=>by
  rw[jw];exact gz (yb:=[some (.ref 0),some R,none,none,none]) (sv (iT (bT (b2 (b2 rfl rfl (c _)) rfl i)) (rS (MZ (s1:=⟨[some (.ref 0),some R,none,none,none],H⟩) (as:=[.ref 0,bF s]) (cA rfl (cA (b2 rfl rfl (g _)) rfl)) rfl (yS d _) (mh (k) (by lia) d l (Su l.at_))))))
 cases r with
 | kr t s=>exact a _ _ s ok.2.1 (λ_=>rfl) (λ_=>rfl) (by kernel_rfl)
 | drop s=>exact a _ _ s ok.1 (λ_=>rfl) (λ_=>rfl) (by kernel_rfl)
 | call u j q =>
  rw[jw];obtain⟨y,B,e⟩:=Bu k hk h d (some (bW m.fn (.call u j q))) q [] none none ok.2.2.2.1 (by have:=ok.2.2.2.2.1;simp;lia)
  rw[gi]at e;exact gz (sq (iF (bT (b2 (b2 rfl rfl rfl) rfl (by kernel_rfl))) rfl) (sq (iF (bT (b2 (b2 rfl rfl rfl) rfl (by kernel_rfl))) rfl) (sq (aS (p:=.lst []) rfl rfl) (sq (fS (sV (b2 rfl rfl rfl) rfl) e) (rS rfl)))))
 | put v s o=>cases v<;>exact f _ _ (λ_=>rfl) (by kernel_rfl) (by kernel_rfl)
 | k7 x b s=>cases b<;>exact f _ _ (λ_=>rfl) (by kernel_rfl) (by kernel_rfl)
 | _=>exact f _ _ (λ_=>rfl) (by kernel_rfl) (by kernel_rfl)
theorem Ib(k:Nat)(hk:5<=k)(h:cD m most)(y:H[0]?=some (D7 m)){r:Ro}{C:Cs}{M:Nat}(ok:oK C m.ks M r):run txt (k+4) "_law_filled" [.ref 0,bW m.fn r] H=some (.ok (.lst ((WI r).map pL)),H):=by
 have J:∀(R:PV) (w x:Str),(∀h,bQ h R (.int 0)=some (.str w))->(∀h,bQ h R (.int 1)=some (.str x))->jK false H (.str w) (.aq [.str "lend",.str "sole"])=some (.bl true)->run txt (k+4) "_law_filled" [.ref 0,R] H=some (.ok (.lst [pL (x,0)]),H):=λR w x c f i=>by
  rw[kj];exact gz (yb:=[some (.ref 0),some R]) (sv (iT (bT (b2 (b2 rfl rfl (c _)) rfl i)) (rS (lS (cA (tU (ps:=[.str x,.int 0]) (cA (b2 rfl rfl (f _)) (cA rfl rfl)) (by simp)) rfl) (by simp)))))
 have rest:∀(R:PV) (w:Str) (l:List (Str×Int)),(∀h,bQ h R (.int 0)=some (.str w))->jK false H (.str w) (.aq [.str "lend",.str "sole"])=some (.bl false)->Ek Q4 ⟨[some (.ref 0),some R],H⟩ false->∀b:Bool,Ek (dQ (toB (op2 (jK true) Qw (kO .aq (ao (kS "put") (ao (kS "set") (ao (kS "fill") (ao (kS "copy") (ao (kS "move") (aW []))))))))) (aW true) (dQ (gO (op2 bQ Q2 (kI 1))) (aW true) (toB (op2 JY (op2 bQ Q2 (kI 3)) (aW (.bB)))))) ⟨[some (.ref 0),some R],H⟩ b->(if b=true then l=[]else ∃s,cC m.ks s/\(∀h,bQ h R (.int 1)=some (bF s))/\l=QG s)->run txt (k+4) "_law_filled" [.ref 0,R] H=some (.ok (.lst (l.map pL)),H):=λR w l c f i b v B=>by
  rw[kj];refine gz (yb:=[some (.ref 0),some R]) (sq (iF (s1:=⟨[some (.ref 0),some R],H⟩) (bT (b2 (b2 rfl rfl (c _)) rfl f)) rfl) (sq (iF i rfl) ?_));cases b with
  | true=>cases(B:l=[]);exact sv (iT v (rS (p:=.lst []) rfl))
  | false =>
   obtain⟨s,D,e,rfl⟩:=B;exact sq (iF v rfl) (rS (MZ (s1:=⟨[some (.ref 0),some R],H⟩) (as:=[.ref 0,bF s]) (cA rfl (cA (b2 rfl rfl (e _)) rfl)) rfl (yS y _) (mh k (by lia) y D (Su D.at_))))
 have N:∀(R:PV) (w:Str),(∀h,bQ h R (.int 0)=some (.str w))->j5 H (.str w) (.str "call")=some (.bl false)->Ek Q4 ⟨[some (.ref 0),some R],H⟩ false:=λR w c f=>iF (bT (b2 (b2 rfl rfl (c _)) rfl f)) rfl
 /- a row with a target -/
 have E:∀(R:PV) (w:Str) (s:Sp),cC m.ks s->(∀h,bQ h R (.int 0)=some (.str w))->(∀h,bQ h R (.int 1)=some (bF s))->jK false H (.str w) (.aq [.str "lend",.str "sole"])=some (.bl false)->j5 H (.str w) (.str "call")=some (.bl false)->jK true H (.str w) (.aq [.str "put",.str "set",.str "fill",.str "copy",.str "move"])=some (.bl false)->run txt (k+4) "_law_filled" [.ref 0,R] H=some (.ok (.lst ((MC s).map pL)),H):=λR w s D c f i v B=>by
  refine rest R w _ c i (N R w c v) (d9 s.d || !mE s.a) (iF (bT (b2 (b2 rfl rfl (c _)) rfl B)) (orX (tB (b2 (b2 rfl rfl (f _)) rfl rfl)) (bT (b2 (b2 (b2 rfl rfl (f _)) rfl rfl) rfl rfl)))) ?_;unfold MC;cases Z:d9 s.d<;>cases hn:mE s.a<;>first | rfl | exact⟨s,D,f,rfl⟩
 have Q:∀(R:PV) (w:Str),(∀h,bQ h R (.int 0)=some (.str w))->jK false H (.str w) (.aq [.str "lend",.str "sole"])=some (.bl false)->Ek Q4 ⟨[some (.ref 0),some R],H⟩ false->jK true H (.str w) (.aq [.str "put",.str "set",.str "fill",.str "copy",.str "move"])=some (.bl true)->run txt (k+4) "_law_filled" [.ref 0,R] H=some (.ok (.lst []),H):=λR w c f i v =>
  rest R w [] c f i true (iT (bT (b2 (b2 rfl rfl (c _)) rfl v)) rfl) rfl
 cases r with
 | put X s o=>cases X<;>exact E _ _ s ok.1 (λ_=>rfl) (λ_=>rfl) (by kernel_rfl) (by kernel_rfl) (by kernel_rfl)
 | set s g a b=>exact E _ _ s ok.1 (λ_=>rfl) (λ_=>rfl) (by kernel_rfl) (by kernel_rfl) (by kernel_rfl)
 | qa t s=>exact E _ _ t ok.1 (λ_=>rfl) (λ_=>rfl) (by kernel_rfl) (by kernel_rfl) (by kernel_rfl)
 | kr t s=>exact E _ _ t ok.1 (λ_=>rfl) (λ_=>rfl) (by kernel_rfl) (by kernel_rfl) (by kernel_rfl)
 | k7 x b s=>cases b<;>exact J _ _ x (λ_=>rfl) (λ_=>rfl) (by kernel_rfl)
 | call Y j I =>
  cases Y with
  | none=>exact Q _ _ (λ_=>rfl) (by kernel_rfl) (iT (bT (b2 (b2 rfl rfl rfl) rfl (by kernel_rfl))) (bT (b2 (b2 rfl rfl rfl) rfl (by kernel_rfl)))) (by kernel_rfl)
  | some q =>
   have L:=ok.2.2.2.2.2 q rfl;have u:=h.ks.ne q L;obtain⟨x,d⟩:=q;have u:Ij H (.str x) (.str "")=some (.bl true):=by
    show some (PV.bl (!(x==Str.ofString "")))=_;rw[u];rfl
   have T:=MF y L;rw[kj];refine gz (yb:=[some (.ref 0),some (bW m.fn (.call (some (x,d)) j I))]) (sq (iF (s1:=⟨[some (.ref 0),some (bW m.fn (.call (some (x,d)) j I))],H⟩) (bT (b2 (b2 rfl rfl rfl) rfl (by kernel_rfl))) rfl) (sv (iT (s1:=⟨[some (.ref 0),some (bW m.fn (.call (some (x,d)) j I))],H⟩) (iT (bT (b2 (b2 rfl rfl rfl) rfl (by kernel_rfl))) (bT (b2 (b2 rfl rfl rfl) rfl u))) ?_)))
   cases d with
   | ho b s=>exact sv (iT (bT (b2 (b2 (b2 rfl (b2 rfl rfl rfl) T) rfl (jz _ _)) rfl (nk _ _))) (rS (lS (ps:=[pL (x,0)]) (cA (tU (ps:=[.str x,.int 0]) (cA (b2 rfl rfl rfl) (cA rfl rfl)) (by simp)) rfl) (by simp))))
   | ow s=>exact sq (iF (bT (b2 (b2 (b2 rfl (b2 rfl rfl rfl) T) rfl (jz _ _)) rfl (nk _ _))) rfl) (rS (MZ (s1:=⟨[some (.ref 0),some (bW m.fn (.call (some (x,.ow s)) j I))],H⟩) (as:=[.ref 0,.aq [.str x,.bl false,.aq [],.bB]]) (cA rfl (cA (tU (ps:=[.str x,.bl false,.aq [],.bB]) (cA (b2 rfl rfl rfl) (cA rfl (cA rfl (cA rfl rfl)))) (by simp)) rfl)) rfl (yS y _) (Bt k (by lia) h y L)))
 | _=>exact Q _ _ (λ_=>rfl) (by kernel_rfl) (N _ _ (λ_=>rfl) (by kernel_rfl)) (by kernel_rfl)
end
theorem yT(c:CT)(A:PV):∀(as:List (Nat×b6)) (i:Nat) (kvs:List (bh×PV)) (f g:Option PV),kvs.length<=i->i+as.length<=90000 ->
  ∃b d,dm Qr (pj c) (eJ i (as.map eN)) ⟨[some A,some (.ref 0),f,g],[dC kvs]⟩=some (.ok .nx,⟨[some A,some (.ref 0),b,d],[dC (gS as i kvs)]⟩)
 | [],i,kvs,f,g,_,_=>⟨f,g,rfl⟩
 | (j,a)::as,i,kvs,f,g,l,k=>by
  rw[aN]at k;obtain⟨p,hp⟩:=LR (kvs:=kvs) (by lia)
  have h:Ev (pj c) ⟨[some A,some (.ref 0),some (.int (i:Int)),some (jy j a)],[dC kvs]⟩ .nx ⟨[some A,some (.ref 0),some (.int (i:Int)),some (jy j a)],[match bG kvs (.inl (j:Int))with | some _=>dC kvs | none=>dC (kvs++[(.inl (j:Int),.int (i:Int))])]⟩:=dS (Xh rfl rfl (cA (b2 rfl rfl rfl) (cA rfl rfl)) hp)
  cases e:bG kvs (.inl (j:Int))with
  | some v =>
   rw[e]at h;obtain⟨b,d,z⟩:=yT c A as (i+1) kvs (some (.int (i:Int))) (some (jy j a)) (by lia) (by lia)
   rw[gS,e];exact⟨b,d,fC rfl h z⟩
  | none =>
   rw[e]at h;obtain⟨b,d,z⟩:=yT c A as (i+1) (kvs++[(.inl (j:Int),.int (i:Int))]) (some (.int (i:Int))) (some (jy j a)) (by rw[aV];simp;lia) (by lia)
   rw[gS,e];exact⟨b,d,fC rfl h z⟩
section
variable {m:Md} {most:Nat} {H:List ak}
def SV(m:Md):PV:=.nd (dC (gS m.as 0 [])).k (dC (gS m.as 0 [])).ps
theorem MI{N:Nat}:∀kvs:List (bh×PV),V6 N kvs->ai (kvs.map (·.2))=true
 | [],_=>rfl
 | q::l,h=>by
  obtain⟨n,e,_⟩:=h q aJ;rw[aM,ai,e,MI l λr a=>h r (aH _ a)]
  rfl
theorem aaL(h:cD m most)(a:most<=20):ai (dC (gS m.as 0 [])).ps=true:=by
 have:=yN h;exact MI _ (iq (run txt 0) .bB .bB .bB m.as 0 [] none none (λ_ z=>nomatch z) (by simp) (by lia)).2.1
theorem Ic(k:Nat)(h:cD m most)(a:most<=20):Gives (run txt (k+1) "_law_starts" [.lst (m.as.map eN)] []) (SV m):=by
 have b:=yN h;obtain⟨c,d,z⟩:=yT (run txt k) (.lst (m.as.map eN)) m.as 0 [] none none (by simp) (by lia)
 rw[AY];refine⟨.ref 0,_,gz (sq rfl (sq (fS (sG (eV rfl rfl)) z) (rS rfl))),?_⟩;have nr:=aaL h a;unfold mO;rw[show([dC (gS m.as 0 [])]:List ak).isEmpty=false from rfl,if_neg dh]
 unfold vf;rw[if_neg (by simp[noRef])]
 show(if live (dC (gS m.as 0 []))=true then(cb (vf [dC (gS m.as 0 [])] 3) (dC (gS m.as 0 [])).ps).map (PV.nd _)else none)=_
 rw[if_pos (show live (dC (gS m.as 0 []))=true from rfl),Fl _ nr]
 rfl
theorem aaM{j:Nat}{r:Ro}(a:m.L[j]?=some r)(H:List ak):bQ H (SV m) (iN j)=some (iN (nC m j)):=by
 obtain⟨_,e⟩:=tP a;show eY [.inl (j:Int)] ((gS m.as 0 []).map λq=>[q.1]) ((gS m.as 0 []).map (·.2))=_
 rw[jb,e];rfl
end
section
variable {m:Md} {most:Nat} {x:Str} {l:Int} {cs:List Nat} {ah:dM}
def MJ(m:Md):Nat->Str->Int->Prop
 | 0,x,l=>(⟨0,x,l⟩:Fe)∈M8 m
 | j+1,x,l=>∃r,m.L[j]?=some r/\(MJ m j x l\/(x,l)∈IA r)/\(x,l)∉WI r
theorem QL{j:Nat}{r c:Ro}(a:m.L[j]?=some r)(d:m.L[j+1]?=some c):nC m (j+1)=nC m j+(bU (k8 r)).length:=by
 obtain⟨_,_,e1⟩:=kJ a;obtain⟨_,_,e⟩:=kJ d;have b:m.A[j]?=some (k8 r):=by unfold Md.A;rw[bz,a];rfl
 have f:(m.A.take j).length=j:=by
  have:=(bj.mp b).1;rw[jV]
  lia
 rw[e1,e,List.take_succ,b,tM,aV];show _+(dn _ [k8 r]).length=_;rw[dn,dn,dU,aj]
theorem Ie{j n:Nat}{b bs:List b6}(R:jE m j n (b++bs)):jE m j (n+b.length) bs :=
 ⟨λi a c=>by rw[nR];exact R.here (b.length+i) a (by rw[je (nQ _ _),Nat.add_sub_cancel_left];exact c),by have:=R.over;rw[aV]at this;rw[nR];exact this⟩
structure Pos (m:Md) (n j:Nat) (r:Ro) (pre:List b6) (a:b6) (bs:List b6):Prop where
 row:m.L[j]?=some r
 eq:bU (k8 r)=pre++a::bs
 n:n=nC m j+pre.length
theorem Pos.rest{n j:Nat}{r:Ro}{b bs:List b6}{a:b6}(h:Pos m n j r b a bs):jE m j n (a::bs):=by
 have:=(tP h.row).1;rw[h.eq]at this;rw[h.n];exact Ie this
theorem Pos.at_{n j:Nat}{r:Ro}{b bs:List b6}{a:b6}(h:Pos m n j r b a bs):m.as[n]?=some (j,a):=h.rest.here 0 a rfl
theorem FW:∀(L:List (List b6)) (i n:Nat) (q:Nat×b6),(dn i L)[n]?=some q->∃j as a bs,L[j]?=some as/\bU as=a++q.2::bs/\n=(dn i (L.take j)).length+a.length
 | [],_,_,_,h=>by cases h
 | as::L,i,n,q,h=>by
  rw[dn]at h;by_cases b:n<(bU as).length
  ·rw[c5 (by rw[aj];exact b),bz,bC b]at h
   cases h;refine⟨0,as,(bU as).take n,(bU as).drop (n+1),rfl,?_,?_⟩
   ·show _=_++(bU as)[n]::_;rw[<-lz b,wx]
   ·show n=0+_;rw[jV]
    lia
  ·rw[je (by rw[aj];lia),aj]at h
   obtain⟨j,c,a,bs,d,e,f⟩:=FW L (i+1) _ q h;refine⟨j+1,c,a,bs,d,e,?_⟩;rw[List.take_succ_cons,dn,aV,aj]
   lia
theorem FY{n:Nat}{q:Nat×b6}(h:m.as[n]?=some q):∃j r a bs,Pos m n j r a q.2 bs:=by
 obtain⟨j,as,a,bs,b,d,f⟩:=FW m.A 0 n q h;unfold Md.A at b;rw[bz]at b;obtain⟨r,c,rfl⟩:=aZ b;obtain⟨_,_,e⟩:=kJ c;exact⟨j,r,a,bs,c,d,by rw[e];exact f⟩
theorem MK(h:cD m most){n j b:Nat}{r:Ro}{g bs:List b6}{a:b6}(p:Pos m n j r g a bs)(i:b∈iG m.as (gS m.as 0 []) m.nx n (j,a)):b=n+1/\((∃c d,bs=c::d/\Pos m b j r (g++[a]) c d)\/(bs=[]/\∃f c d,Pos m b (j+1) f [] c d)):=by
 obtain⟨_,t,u⟩:=qA p.rest;cases bs with
 | cons c d =>
  rw[(u (List.cons_ne_nil _ _)).1]at i;have e:=aD.mp i;exact⟨e,.inl ⟨c,d,rfl,p.row,by rw[p.eq];simp,by rw[e,p.n,aV];rfl⟩⟩
 | nil =>
  rw[t rfl]at i;obtain⟨v,k,o⟩:=au.mp i;have w:m.nx j=D0 j r:=by unfold Md.nx;rw[p.row]
  rw[w]at k;have y:v=j+1:=by
   cases r with
   | iJ z=>cases k
   | _=>exact aD.mp k
  subst y;have B:=(Mr h p.row).2 _ k;obtain⟨f,q⟩:∃f,m.L[j+1]?=some f:=⟨_,bC B⟩
  obtain⟨c,d,ho⟩:=tN (k8 f);refine⟨?_,.inr ⟨rfl,f,c,d,q,ho,o.symm⟩⟩;rw[<-o,QL p.row q,p.eq,p.n,aV];rfl
theorem QM{r:Ro}{C:Cs}{M:Nat}(ok:oK C m.ks M r)(h:(x,l)∈WI r):∃b a,k8 r=b++[a]/\fZ a x l=true/\a.w≠Str.ofString "empty":=by
 have fs:∀{s:Sp},cC m.ks s->(x,l)∈MC s->mE s.a=true/\fZ (k0 "fill" s "") x l=true:=λ{s} I c=>by
  unfold MC at c;split at c
  ·cases c
  ·rename_i z;rw[not_or]at z;obtain⟨f,J⟩:=z;have f:d9 s.d=false:=by simpa using f
   obtain⟨e1,g,i⟩:=(yR (ip I.row)).mp c;refine⟨by simpa using J,?_⟩
   unfold fZ Wy tch;show((Str.ofString ""==x) || ((Str.ofString "fill"==Str.ofString "fill")&&((!d9 s.d)&&((s.x==x)&&(decide (s.r.2.1<=l)&&decide (l<s.r.2.1+s.r.2.2.1))))))=true;rw[f,e1,dW g,dW i,fH,fH];simp
 have nw:Str.ofString "fill"≠Str.ofString "empty":=by decide +kernel
 have B:∀{s:Sp},mE s.a=true->sY s=[k0 "fill" s ""]:=λ{s} D=>by
  unfold sY;cases e:s.a with
  | bB=>rfl
  | _=>rw[e]at D;cases D
 cases r with
 | put Q s o =>
  obtain⟨p,u⟩:=fs ok.1 h;exact⟨m4 o,_,by show m4 o++sY s=_;rw[B p],u,nw⟩
 | set s w a1 E =>
  obtain⟨p,u⟩:=fs ok.1 h;exact⟨m4 a1++m4 E,_,by show m4 a1++m4 E++sY s=_;rw[B p],u,nw⟩
 | qa t s=>exact⟨[k0 "read" s ""],_,rfl,(fs ok.1 h).2,nw⟩
 | kr t s=>exact⟨[k0 "empty" s ""],_,rfl,(fs ok.1 h).2,nw⟩
 | k7 y b s =>
  have e:=aD.mp h;cases e;exact⟨[],_,rfl,by unfold fZ;rw[show((k0 (lw b) s x).k==x)=true from fH x];rfl,by show lw b≠_;cases b<;>decide +kernel⟩
 | call L j v =>
  cases L with
  | none=>cases h
  | some q =>
   obtain⟨y,d⟩:=q;have H:∀a:b6,p0 (some (y,d))=[a]->k8 (.call (some (y,d)) j v)=(jx 0 v++[px])++[a]:=λa N=>by show jx 0 v++px::p0 (some (y,d))=_;rw[N];simp
   cases d with
   | ow s =>
    have c:(x,l)∈Bp y 0 (sz s):=h;have:=((yR (B2 _)).mp c);obtain⟨e1,g,i⟩:=this;refine⟨_,_,H _ rfl,?_,nw⟩;subst e1;unfold fZ Wy tch;show((Str.ofString ""==y) || ((Str.ofString "fill"==Str.ofString "fill")&&((!false)&&((y==y)&&(decide ((0:Int)<=l)&&decide (l<0+sz s))))))=true;rw[dW g,show decide (l<0+sz s)=true from dW i,fH,fH]
    simp
   | ho b s =>
    have e:=aD.mp h;cases e;exact⟨_,_,H _ rfl,by unfold fZ;rw[show((⟨"take","",false,0,0,x⟩:b6).k==x)=true from fH x];rfl,by show Str.ofString "take"≠_;decide +kernel⟩
 | _=>cases h
theorem WL{r:Ro}{C:Cs}{M:Nat}(ok:oK C m.ks M r)(L:Xj r=false){a:b6}(c:a∈k8 r)(he:My a x l):(x,l)∈IA r:=by
 obtain⟨g,E,H⟩:=he;have f:∀w:Str,a.w=w->w≠Str.ofString "empty"->(x,l)∈IA r:=λw e hw=>absurd (e.symm.trans g) hw
 have rd:Str.ofString "read"≠Str.ofString "empty":=by decide +kernel
 have u:Str.ofString "fill"≠Str.ofString "empty":=by decide +kernel
 have at_:∀p,a∈Fi p->(x,l)∈IA r:=λp h=>by
  unfold Fi at h;split at h
  ·cases aD.mp h;exact f _ rfl rd
  ·cases h
 have v:∀o,a∈m4 o->(x,l)∈IA r:=λo h=>by
  cases o with
  | n i=>cases h
  | s s =>
   rcases bA.mp h with h | h
   ·exact at_ _ h
   ·cases aD.mp h;exact f _ rfl rd
 have I:∀s,a∈sY s->(x,l)∈IA r:=λs h=>by
  unfold sY at h;split at h
  ·cases aD.mp h;exact f _ rfl u
  ·rcases bA.mp h with h | h
   ·exact at_ _ h
   ·cases aD.mp h;exact f "turn" rfl (by decide +kernel)
 have J:∀s:Sp,a=k0 "empty" s ""->(x,l)∈QG s:=λs e=>by
  subst e;obtain⟨i,B,rfl⟩:=au.mp H;exact au.mpr ⟨i,B,by rw[<-E];rfl⟩
 cases r with
 | put Q s o=>exact(bA.mp c).elim (v o) (I s)
 | set s w a1 R=>exact(bA.mp c).elim (λh=>(bA.mp h).elim (v _) (v _)) (I s)
 | qa t s =>
  rcases aK.mp c with rfl | c
  ·exact f _ rfl rd
  ·cases aD.mp c;exact f _ rfl u
 | kr t s =>
  rcases aK.mp c with rfl | c
  ·exact J s rfl
  ·cases aD.mp c;exact f _ rfl u
 | drop s=>exact J s (aD.mp c)
 | k7 y b s=>cases aD.mp c;exact f (lw b) rfl (by cases b<;>decide +kernel)
 | call N j k =>
  rcases bA.mp c with c | c
  ·have D:∀(k:List Rk) (i:Nat),a∈jx i k->(x,l)∈k.flatMap MB:=λk=>by
    induction k with
    | nil=>intro i h;cases h
    | cons q k ih =>
     intro i h;rw[fw];rcases aK.mp h with rfl | h
     ·refine gf _ ?_;obtain⟨y,d⟩:=q;cases d with
      | ho b s=>exact absurd g (by show(if b=true then Str.ofString "sole" else Str.ofString "lend")≠_;cases b<;>decide +kernel)
      | ow s =>
       have g:oW s=Str.ofString "empty":=g;have hc:Fj s=false:=by
        unfold oW at g;cases z:Fj s with
        | false=>rfl
        | true=>rw[z]at g;exact absurd g rd
       show(x,l)∈(if Fj s=true then []else Bp y 0 (sz s))
       rw[hc,if_neg dh];obtain⟨i,B,rfl⟩:=au.mp H;exact au.mpr ⟨i,B,by rw[<-E];rfl⟩
     ·exact de _ (ih (i+1) h)
   exact D k 0 c
  ·rcases aK.mp c with rfl | c
   ·exact f _ rfl (by decide +kernel)
   ·cases N with
    | none=>cases c
    | some q =>
     obtain⟨y,d⟩:=q;cases d with
     | ow s=>cases aD.mp c;exact f _ rfl u
     | ho b s=>cases aD.mp c;exact f "take" rfl (by decide +kernel)
 | M6 o=>exact v o c
 | iJ z=>cases L
end
section
variable {m:Md} {most:Nat} {x:Str} {l:Int} {cs:List Nat} {ah:dM}
def Se(m:Md)(j:Nat)(b:List b6)(x:Str)(l:Int):Prop:=(MJ m j x l/\∀c∈b,fZ c x l=false)\/∃e a d,b=e++a::d/\My a x l/\∀c∈d,fZ c x l=false
theorem WM{a:b6}{l:List b6}(h:a∈bU l):a=vJ\/a∈l:=by
 cases l with
 | nil=>exact .inl (aD.mp h)
 | cons=>exact .inr h
theorem WN(h:cD m most){j:Nat}{r:Ro}(g:m.L[j]?=some r)(p:Xj r=false)(d:Se m j (bU (k8 r)) x l):MJ m (j+1) x l:=by
 have ok:=h.ok r (cH g);refine⟨r,g,?_,λq=>?_⟩
 ·rcases d with⟨z,_⟩ | ⟨i,a,k,e,he,_⟩
  ·exact .inl z
  ·have f:a∈bU (k8 r):=by rw[e];exact de _ aJ
   rcases WM f with rfl | f
   ·exact absurd he.1 (by show Str.ofString "rest"≠_;decide +kernel)
   ·exact .inr (WL ok p f he)
 ·obtain⟨b,c,e1,o,t⟩:=QM ok q;have u:bU (k8 r)=b++[c]:=by rw[e1];cases b<;>rfl
  rw[u]at d;rcases d with⟨_,z⟩ | ⟨i,a,k,e,he,z⟩
  ·exact absurd (z c (de _ (aD.mpr rfl))) (by rw[o];exact λy=>nomatch y)
  ·rcases List.eq_nil_or_concat k with rfl | ⟨v,w,rfl⟩
   ·cases(List.append_inj' e rfl).2;exact t he.1
   ·have e:b++[c]=(i++a::v)++[w]:=by rw[e];simp
    cases(List.append_inj' e rfl).2;exact absurd (z c (by simp)) (by rw[o];exact λy=>nomatch y)
theorem wb(h:cD m most){j:Nat}{r c:Ro}(a:m.L[j]?=some r)(d:m.L[j+1]?=some c):Xj r=false:=by
 obtain⟨L,e,_,f⟩:=h.rows;have b:=(bj.mp d).1;have g:j<L.length:=by rw[e,aV]at b;simp at b;lia
 rw[e,c5 g]at a;exact f _ (cH a)
theorem Sv(h:cD m most){n j b:Nat}{r:Ro}{c bs:List b6}{a:b6}(p:Pos m n j r c a bs)(o:b∈iG m.as (gS m.as 0 []) m.nx n (j,a))(g:Se m j (c++[a]) x l):∃i k d e f,Pos m b i k d e f/\Se m i d x l:=by
 obtain⟨_,⟨e,f,rfl,q⟩ | ⟨rfl,k,e,f,q⟩⟩:=MK h p o
 ·exact⟨_,_,_,_,_,q,g⟩
 ·refine⟨_,_,_,_,_,q,.inl ⟨WN h p.row (wb h p.row q.row) ?_,λ_ z=>nomatch z⟩⟩
  rw[p.eq];exact g
theorem told_se(h:cD m most)(C:jd m cs)(T:Iz m cs ah):∀(N i:Nat) (f:Fe) (c:Int),i<N->ah[i]?=some (kE f,c)->∃j r o a bs,Pos m f.n j r o a bs/\Se m j o f.x f.l
 | 0,_,_,_,v,_=>absurd v (Cf _)
 | N+1,i,f,c,v,ht=>by
  rcases T.why i (kE f) c ht with⟨_,k⟩ | ⟨I,g,d,fs,eS,_,J,ho,k⟩
  ·obtain⟨u,k,e⟩:=au.mp k;cases D3 e;rcases bA.mp k with k | k
   ·obtain⟨q,t,w⟩:=c6.mp k;obtain⟨i,v,rfl⟩:=au.mp w;obtain⟨r,D⟩:∃r,m.L[0]?=some r:=⟨_,bC (vY h).2⟩
    obtain⟨a,bs,e⟩:=tN (k8 r);exact⟨0,r,[],a,bs,⟨D,e,(by obtain⟨_,_,e⟩:=kJ D;rw[e];rfl)⟩,.inl ⟨k,λ_ z=>nomatch z⟩⟩
   ·obtain⟨n0,M,k⟩:=c6.mp k;obtain⟨q,t⟩:=yQ C M;obtain⟨j,r,o,bs,p⟩:=FY t;unfold Sl at k;rw[t,mf t]at k;have k:f∈BE q.2 _:=k;unfold BE at k;split at k
    ·rename_i hw;obtain⟨b,B,k⟩:=c6.mp k;obtain⟨y,Q,rfl⟩:=au.mp k;exact Sv h p (by rw[show((j,q.2):Nat×b6)=q from(bI (t.symm.trans p.at_)).symm];exact B) (.inr ⟨o,q.2,[],rfl,⟨aY hw,rfl,Q⟩,λ_ z=>nomatch z⟩)
    ·cases k
  ·unfold uJ at ho;obtain⟨u,R,X⟩:=aO ho;obtain⟨QU,E,rfl⟩:=aZ X;cases nA R;obtain⟨f2,k,e⟩:=au.mp k;cases D3 e;unfold v9 at E;obtain⟨q,d5,Y⟩:=aO E;obtain⟨ls,H,rfl⟩:=aZ Y;rw[mf d5]at H;cases H;unfold stE at k;split at k
   ·cases k
   ·rename_i he;obtain⟨b,B,rfl⟩:=au.mp k;obtain⟨j,r,o,a,bs,p,s⟩:=told_se h C T N I u d (by lia) J
    cases bI (d5.symm.trans p.at_);have he:fZ a u.x u.l=false:=by simpa using he
    refine Sv h p B ?_;rcases s with⟨s1,s2⟩ | ⟨Z,a',p2,rfl,s2,s3⟩
    ·refine .inl ⟨s1,λc hc=>?_⟩
     rcases bA.mp hc with hc | hc
     ·exact s2 c hc
     ·rw[aD.mp hc];exact he
    ·refine .inr ⟨Z,a',p2++[a],by simp,s2,λc hc=>?_⟩
     rcases bA.mp hc with hc | hc
     ·exact s3 c hc
     ·rw[aD.mp hc];exact he
theorem aaO(h:cD m most)(d:jd m cs)(T:Iz m cs ah){j:Nat}{r:Ro}(f:m.L[j]?=some r)(hk:kE ⟨nC m j,x,l⟩∈ah.map (·.1)):MJ m j x l:=by
 obtain⟨t,ht,e⟩:=au.mp hk;obtain⟨i,k,o⟩:=qH ht;obtain⟨g,c⟩:=t;have e:g=_:=e;subst e;obtain⟨u,E,b,a,bs,p,s⟩:=told_se h d T _ i ⟨nC m j,x,l⟩ c (qO i) (by rw[bC k,o])
 obtain⟨v,w,ho⟩:=tN (k8 r);have q:Pos m (nC m j) j r [] v w:=⟨f,ho,rfl⟩;have y:=bI (p.at_.symm.trans q.at_);have B:u=j:=(Prod.mk.inj y).1;subst B;have C:=p.n;have:b=[]:=List.length_eq_zero_iff.mp (by simp only at C;lia)
 subst this;rcases s with s | ⟨H,I,J,D,_⟩
 ·exact s.1
 ·exact absurd D.symm (by simp)
theorem FZ(h:cD m most):nC m 0=0:=by
 obtain⟨r,a⟩:∃r,m.L[0]?=some r:=⟨_,bC (vY h).2⟩
 obtain⟨_,_,e⟩:=kJ a;rw[e];rfl
theorem ML(h:cD m most)(b:jd m cs)(T:Iz m cs ah):∀(j:Nat),j<m.L.length->nC m j∈cs/\∀x l,MJ m j x l->Gd m x l/\QF cs ah (nC m j) x l
 | 0,_=>by
  refine⟨by rw[FZ h];exact b.zero,λx l c=>?_⟩
  obtain⟨q,o,p⟩:=c6.mp (show(⟨0,x,l⟩:Fe)∈m.LT.flatMap Iy from c)
  obtain⟨i,d,e⟩:=au.mp p;have d:=c7.mp d;cases e;refine⟨⟨q.2,v3 q o,λz=>?_⟩,?_⟩
  ·unfold vZ at d;rw[if_pos z]at d
   lia
  ·rw[FZ h];exact⟨b.zero,T.fst _ (gf _ c)⟩
 | j+1,t=>by
  obtain⟨r,a⟩:∃r,m.L[j]?=some r:=⟨_,bC (by lia)⟩
  have u:=bC t;obtain⟨v,f⟩:=ML h b T j (by lia)
  have w:=wb h a u;have hk:j+1∈m.nx j:=by
   unfold Md.nx;rw[a];cases r with
   | iJ z=>cases w
   | _=>exact aD.mpr rfl
  obtain⟨y,B⟩:=MD h b T a v hk;refine⟨y,λx l c=>?_⟩
  obtain⟨E,C,k,D⟩:=c;cases bI (a.symm.trans C);have g:Gd m x l:=k.elim (λz=>(f x l z).1) (aaJ (h.ok r (cH a)))
  exact⟨g,B x l g (k.imp (λz=>(f x l z).2) id) D⟩
theorem WO(h:cD m most){n b:Nat}{d:List Nat}(a:m.vX[n]?=some d)(f:b∈d):b=n+1:=by
 cases c:m.as[n]? with
 | none =>
  have:=D6 m.as (gS m.as 0 []) m.nx m.as 0 n;rw[c]at this;have a:_=_:=a.symm.trans this;cases a
 | some q =>
  rw[mf c]at a;cases a;obtain⟨j,r,g,bs,p⟩:=FY c;have e:=bI (c.symm.trans p.at_);rw[e]at f;exact(MK h p f).1
theorem QN{f:List (List Nat)}{ah:dM}{a:List Nat}(h1:∀n l b,f[n]?=some l->b∈l->b=n+1)(p:ah.map (·.1)=a.map kN)(q:a.Nodup)(w:Pr (A8 f) [kN 0] ah):∀i,i<a.length->a[i]?=some i:=by
 intro i;induction i using Nat.strongRecOn with
 | _ i ih =>
  intro J;have ht:i<ah.length:=by
   have:=cS List.length p;rw[aj,aj]at this
   lia
  have at_:∀(k:Nat) (g:List bh) (d:Int),ah[k]?=some (g,d)->∃n,a[k]?=some n/\g=kN n:=λk g d e=>by
   have r:(ah.map (·.1))[k]?=(a.map kN)[k]?:=by rw[p]
   rw[bz,bz,e]at r;obtain⟨n,e1,h⟩:=f9.mp r.symm;exact⟨n,e1,h.symm⟩
  obtain⟨⟨g,d⟩,u⟩:∃t,ah[i]?=some t:=⟨_,bC ht⟩
  obtain⟨n,e1,rfl⟩:=at_ i g d u;rw[e1];rcases w i _ d u with⟨_,z⟩ | ⟨k,y,B,fs,C,_,D,ho,hf⟩
  ·have j:n=0:=yA (aD.mp z);subst j;by_cases E:i=0
   ·rw[E]
   ·have o:=ih 0 (by lia) (by lia)
    have:=(wC (by lia) q).mp (o.trans e1.symm)
    lia
  ·obtain⟨H,c,rfl⟩:=at_ k y B D;rw[ih k C (by lia)]at c
   cases c;have ho:(if(0:Int)<=(k:Int)then(f[(k:Int).toNat]?).map λl=>l.map kN else none)=some fs:=ho
   rw[if_pos (by lia),gE]at ho
   obtain⟨l,I,rfl⟩:=f9.mp ho;obtain⟨H,v,h⟩:=au.mp hf;rw[yA h]at v;have j:=h1 k l n I v;subst j;by_cases hk:k+1=i
   ·rw[hk]
   ·have o:=ih (k+1) (by lia) (by lia)
    have:=(wC (by lia) q).mp (o.trans e1.symm)
    lia
theorem WQ(h:cD m most)(w:most<=20):∃cs,(∀k,12<=k->Gives (run txt (k+3) "come_to" [m.prog,.int 1] []) (.lst (cs.map iN)))/\jd m cs:=by
 have N:=(ku h w 12 (az _)).2;obtain⟨ah,a,H,o,v,y,I,J,B⟩:=DR N;have C:=QN (λn l b p L=>WO h p L) o v I
 have p:a.length<128:=by
  have:=gD a (List.range m.as.length) v λn g=>c7.mpr (y n g)
  rw[ez]at this;have:=N.few
  lia
 have Z:ah.length=a.length:=by
  have:=cS List.length o
  rwa [aj,aj]at this
 refine⟨a,?_,⟨v,y,B,λn g l p q M=>?_⟩⟩
 ·intro k hk;have g:=(ku h w k hk).1;rw[AO];have hc:Ek (dB false [none,none] (iY (bnd (ao (bnd Qb (bK 0 2 (run txt (k+2) "nexts"))) (aW [])) (bK 0 1 (run txt (k+2) "arrivals")))) (kR (aU 1) Qw)) (S0 [some m.prog,some (.int 1)]) (.lst (a.map iN)):=by
   have e:a.map iN=ah.map λt=>((t.1.map oy).getD 0 .bB):=by
    have:=cS (List.map λks:List bh=>(ks.map oy).getD 0 .bB) o
    rw[cJ,cJ]at this;exact this.symm
   rw[e];refine cM (sV (da (cA (da (cA rfl (cA rfl rfl)) rfl rfl g) rfl) rfl rfl (H k)) rfl) (by lia) λt ht=>?_
   have:t.1∈a.map kN:=by rw[<-o];exact au.mpr ⟨t,ht,rfl⟩
   obtain⟨n,_,u⟩:=au.mp this;obtain⟨f,c⟩:=t;subst u;exact e1 rfl (b2 rfl rfl rfl)
  refine gV (yb:=[some m.prog,some (.int 1)]) (h':=[]) (rS (eB hc ?_)) (by simp[noRef,kF])
  have Q:pV (a.map iN)=some (a.map iN):=by
   cases a with
   | nil=>cases B
   | cons n d =>
    have g:mJ ((n::d).map iN)=some ((n::d).map λn:Nat=>(n:Int)):=by
     have:=oI ((n::d).map λn:Nat=>(n:Int))
     rwa [cJ]at this
    show(match cb yX ((n::d).map iN)with
     | some ks=>if(ks.Nodup/\((n::d).map iN).length<64)then some (pU ((n::d).map iN))else none
     | none=>(mJ ((n::d).map iN)).bind λR=>if(R.Pairwise (· < ·)/\((n::d).map iN).length<128)then some ((n::d).map iN)else none)=_
    rw[show cb yX ((n::d).map iN)=none from rfl,g]
    refine if_pos ⟨?_,by rw[aj];exact p⟩
    rw[B4,we];intro i j r D T;have e1:=C i r;have u:=C j D;rw[bC r]at e1;rw[bC D]at u;rw[bI e1,bI u]
    lia
  show(((some (a.map iN)).bind pV).map PV.lst).map _=_;rw[cW,Q];rfl
 ·have:kN n∈ah.map (·.1):=by rw[o];exact au.mpr ⟨n,g,rfl⟩
  obtain⟨t,ht,e⟩:=au.mp this;obtain⟨i,r⟩:=List.getElem?_of_mem ht;obtain⟨f,c⟩:=t;subst e;obtain⟨fs,E,X⟩:=J i _ c (bj.mp r).1 r;rw[Fo p]at E;cases E;have:=X (kN q) (au.mpr ⟨q,M,rfl⟩);rw[o]at this;obtain⟨q',Y,e⟩:=au.mp this;rw[<-yA e];exact Y
end
def R7(n:Nat)(t:List bh×Int):Option (Str×Int):=(deE t.1).bind λf=>if f.n=n then some (f.x,f.l)else none
def t9(a:dM)(n:Nat):List (Str×Int):=a.filterMap (R7 n)
theorem Sw(n:Nat)(f:Fe)(c:Int):R7 n (kE f,c)=if f.n=n then some (f.x,f.l)else none:=by
 unfold R7;rw[Bm];rfl
theorem MM(a:dM)(f:Fe)(c:Int)(n:Nat):t9 (a++[(kE f,c)]) n=t9 a n++if f.n=n then [(f.x,f.l)]else []:=by
 unfold t9;rw[List.filterMap_append,nL,Sw];by_cases e:f.n=n
 ·rw[if_pos e,if_pos e];rfl
 ·rw[if_neg e,if_neg e];rfl
theorem F6{a:dM}{n:Nat}{x:Str}{l:Int}:(x,l)∈t9 a n↔kE ⟨n,x,l⟩∈a.map (·.1):=by
 unfold t9;rw[nM,au];constructor
 ·rintro⟨t,ht,e⟩
  obtain⟨f,b,d⟩:=aO e;obtain⟨rfl,h⟩:=bM d;cases h;exact⟨t,ht,nA b⟩
 ·rintro⟨t,ht,e⟩
  refine⟨t,ht,?_⟩;obtain⟨g,c⟩:=t;have e:g=_:=e;subst e;rw[Sw,if_pos rfl]
theorem D9{n:Nat}:∀a:dM,(a.map (·.1)).Nodup->(t9 a n).Nodup
 | [],_=>jX
 | t::a,h=>by
  rw[aM,gg]at h;have ih:=D9 (n:=n) a h.2;show((t::a).filterMap (R7 n)).Nodup;rw[nL];cases e:R7 n t with
  | none=>exact ih
  | some q =>
   refine gg.mpr ⟨λb=>h.1 ?_,ih⟩
   obtain⟨x,l⟩:=q;have:=F6.mp (show(x,l)∈t9 a n from b)
   obtain⟨f,c,d⟩:=aO e;obtain⟨rfl,g⟩:=bM d;cases g;rw[nA c];exact this
structure Sx (C0:ak) (ts:dM) (h:List ak) (kvs:List (bh×PV)):Prop where
 z:h[0]?=some C0
 d:h[1]?=some (dC kvs)
 len:kvs.length<=ts.length
 no:∀n:Nat,bG kvs (.inl (n:Int))=none->t9 ts n=[]
 at_:∀(n:Nat) (p:PV),bG kvs (.inl (n:Int))=some p->∃i,p=.ref i/\2<=i/\h[i]?=some ⟨.lst,(t9 ts n).map pL⟩
 inj:∀(n n' i:Nat),bG kvs (.inl (n:Int))=some (.ref i)->bG kvs (.inl (n':Int))=some (.ref i)->n=n'
theorem aaP{ρ:List (Option PV)}{H:List ak}{n:Nat}{kvs:List (bh×PV)}{j:Int}{y:PV}(hc:H[n]?=some (dC kvs))(a:kvs.length<4000000):iB zX (.ref n) [.int j,y] ⟨ρ,H⟩=some (.ok ((bG kvs (.inl j)).getD y),⟨ρ,H.set n (match bG kvs (.inl j)with | some _=>dC kvs | none=>dC (kvs++[(.inl j,y)]))⟩):=by
 have c:iA H (.ref n)=some (n,dC kvs):=by
  show(H[n]?).bind _=_;rw[hc];rfl
 show(iA H (.ref n)).bind _=_;rw[c,cW];show Option.map _ (if(kvs.map λq=>[q.1]).length<fL then(if iz [.inl j] (kvs.map λq=>[q.1])=true then(eY [.inl j] (kvs.map λq=>[q.1]) (kvs.map (·.2))).map λp=>(dC kvs,p)else some (⟨.eR false ((kvs.map λq=>[q.1])++[[.inl j]]),kvs.map (·.2)++[y]⟩,y))else none)=_
 rw[if_pos (show(kvs.map λq=>[q.1]).length<fL by rw[aj];exact a),qw,jb]
 cases bG kvs (.inl j)with
 | some v=>rfl
 | none=>simp[dC]
theorem oN(kvs:List (bh×PV))(k k':bh)(p:PV)(h:bG kvs k=none):bG (kvs++[(k,p)]) k'=if k=k' then some p else bG kvs k':=by
 unfold bG at h ⊢;rw[wB];by_cases e:k=k'
 ·subst e;rw[if_pos rfl,wu.mp h];simp
 ·rw[if_neg e];simp[e]
abbrev MN:Gx dE:=fV (xE "list" (iB (gY xA)) (xE "dict" (iB zX) (rd 5) (ao (rd 6) (ao (ug (aW [])) (aW [])))) (ao (kO .aq (ao (rd 7) (ao (rd 8) (aW [])))) (aW [])))
theorem Ea{D:ak}{a:dM}{h:List ak}{kvs:List (bh×PV)}(E H J L M:Option PV)(N:List (Option PV))(f:Fe)(c:Int)(I:Sx D a h kvs)(hl:a.length<3000000)(Q:Option PV) :
  ∃h' Z,Sx D (a++[(kE f,c)]) h' Z/\Ev MN ⟨E::H::J::L::M::some (.ref 1)::some (iN f.n)::some (.str f.x)::some (.int f.l)::Q::N,h⟩ .nx ⟨E::H::J::L::M::some (.ref 1)::some (iN f.n)::some (.str f.x)::some (.int f.l)::Q::N,h'⟩:=by
 have R:2<=h.length:=(bj.mp I.d).1;have hk:=I.len;have atl:(t9 a f.n).length<=a.length:=List.length_filterMap_le ..;have d1:(h++[(⟨.lst,[]⟩:ak)])[1]?=some (dC kvs):=by rw[c5 R];exact I.d
 have u:=λρ=>aaP (ρ:=ρ) (j:=(f.n:Int)) (y:=.ref h.length) d1 (by lia)
 have T:∀n,t9 (a++[(kE f,c)]) n=t9 a n++if f.n=n then [(f.x,f.l)]else []:=MM a f c
 have v:∀n,f.n≠n->t9 (a++[(kE f,c)]) n=t9 a n:=λn k=>by rw[T,if_neg k,dU]
 have X:t9 (a++[(kE f,c)]) f.n=t9 a f.n++[(f.x,f.l)]:=by rw[T,if_pos rfl]
 have tl:(a++[(kE f,c)]).length=a.length+1:=by simp
 have kn:∀n:Nat,n≠f.n->(Sum.inl (f.n:Int):bh)≠.inl (n:Int):=λn k z=>k (by injection z with z;lia)
 cases e:bG kvs (.inl (f.n:Int))with
 | some p =>
  obtain⟨i,rfl,h2,Y⟩:=I.at_ f.n p e;have hi:=(bj.mp Y).1;rw[e]at u;have g:((h++[(⟨.lst,[]⟩:ak)]).set 1 (dC kvs))[i]?=some ⟨.lst,(t9 a f.n).map pL⟩:=by
   rw[dy (by lia),c5 hi];exact Y
  refine⟨((h++[(⟨.lst,[]⟩:ak)]).set 1 (dC kvs)).set i ⟨.lst,(t9 a f.n).map pL++[pL (f.x,f.l)]⟩,kvs,⟨?_,?_,by lia,λn k=>?_,λn p hp=>?_,I.inj⟩,?_⟩
  ·rw[dy (by lia),dy (by lia),c5 (by lia)];exact I.z
  ·rw[dy (by lia),jf (by simp;lia)]
  ·rw[v n λz=>by rw[z,k]at e;cases e]
   exact I.no n k
  ·obtain⟨m,rfl,w,q⟩:=I.at_ n p hp;refine⟨m,rfl,w,?_⟩;by_cases b:n=f.n
   ·subst b;rw[e]at hp;cases hp;rw[jf (by simp;lia),X,cw]
    rfl
   ·have B:i≠m:=λz=>b (I.inj _ _ m hp (z▸e))
    rw[dy B,dy (by lia),c5 (bj.mp q).1,v n λz=>b z.symm]
    exact q
  ·exact dS (p:=.bB) (yZ (Xh rfl I.d (cA rfl (cA (x:=.ref h.length) rfl rfl)) (u _)) g (cA (tU (ps:=[.str f.x,.int f.l]) (cA rfl (cA rfl rfl)) (by simp)) rfl) (aC g (by rw[aj];lia)))
 | none =>
  rw[e]at u;have e0:=I.no f.n e;have g:((h++[(⟨.lst,[]⟩:ak)]).set 1 (dC (kvs++[(.inl (f.n:Int),.ref h.length)])))[h.length]?=some ⟨.lst,[]⟩:=by
   rw[dy (by lia),je (az _),Nat.sub_self];rfl
  have o:∀(n i:Nat),bG kvs (.inl (n:Int))=some (.ref i)->i<h.length:=λn i hp=>by
   obtain⟨m,ei,_,q⟩:=I.at_ n _ hp;cases ei;exact(bj.mp q).1
  refine⟨((h++[(⟨.lst,[]⟩:ak)]).set 1 (dC (kvs++[(.inl (f.n:Int),.ref h.length)]))).set h.length ⟨.lst,[]++[pL (f.x,f.l)]⟩,kvs++[(.inl (f.n:Int),.ref h.length)],⟨?_,?_,by rw[aV,tl];simp;lia,λn k=>?_,λn p hp=>?_,λn C i hp r=>?_⟩,?_⟩
  ·rw[dy (by lia),dy (by lia),c5 (by lia)];exact I.z
  ·rw[dy (by lia),jf (by simp;lia)]
  ·rw[oN _ _ _ _ e]at k;split at k
   ·cases k
   ·rename_i b;rw[v n λz=>b (by rw[z])]
    exact I.no n k
  ·rw[oN _ _ _ _ e]at hp;split at hp
   ·rename_i b;cases hp;have b:f.n=n:=by injection b with z;lia
    subst b;refine⟨_,rfl,R,?_⟩;rw[jf (by simp),X,e0]
    rfl
   ·rename_i b;obtain⟨m,rfl,w,q⟩:=I.at_ n p hp;have:=o n m hp;refine⟨m,rfl,w,?_⟩;rw[dy (by lia),dy (by lia),c5 this,v n λz=>b (by rw[z])]
    exact q
  ·rw[oN _ _ _ _ e]at hp r;split at hp
   ·rename_i b;have b:f.n=n:=by injection b with z;lia
    cases hp;split at r
    ·rename_i t;have t:f.n=C:=by injection t with z;lia
     lia
    ·have:=o C _ r;lia
   ·split at r
    ·cases r;have:=o n _ hp;lia
    ·exact I.inj n C i hp r
  ·exact dS (p:=.bB) (yZ (Xh rfl I.d (cA rfl (cA (x:=.ref h.length) rfl rfl)) (u _)) g (cA (tU (ps:=[.str f.x,.int f.l]) (cA rfl (cA rfl rfl)) (by simp)) rfl) (aC g (by simp)))
theorem tV{E:ak}(d i j k m:Option PV)(o:List (Option PV)):∀(a b:dM) (h:List ak) (kvs:List (bh×PV)) (p q r v:Option PV),Sx E b h kvs->(∀t∈a,∃f,t.1=kE f)->b.length+a.length<3000000 ->
  ∃h' w y B C D,Sx E (b++a) h' w/\dm (iR 4 (dk (aU 6) (dk (aU 7) (dk (aU 8) (dk (aU 9) oi))))) MN (a.map toldP) ⟨d::i::j::k::m::some (.ref 1)::p::q::r::v::o,h⟩=some (.ok .nx,⟨d::i::j::k::m::some (.ref 1)::y::B::C::D::o,h'⟩)
 | [],b,h,kvs,p,q,r,v,I,_,_=>⟨h,kvs,p,q,r,v,by rw[dU];exact I,rfl⟩
 | t::a,b,h,kvs,p,q,r,v,I,hf,J=>by
  rw[aN]at J;obtain⟨f,e⟩:=hf t aJ;obtain⟨g,c⟩:=t;have e:g=_:=e;subst e;obtain⟨L,M,N,e1⟩:=Ea d i j k m o f c I (by lia) (some (.int c))
  obtain⟨h',w,y,B,C,D,H,Q⟩:=tV d i j k m o a (b++[(kE f,c)]) L M _ _ _ _ N (λu R=>hf u (aH _ R)) (by rw[aV];simp;lia)
  exact⟨h',w,y,B,C,D,by rw[dG]at H;exact H,fC (s1:=⟨d::i::j::k::m::some (.ref 1)::some (iN f.n)::some (.str f.x)::some (.int f.l)::some (.int c)::o,h⟩) rfl e1 Q⟩
theorem aaQ{f:ak}{a:dM}{h r:List ak}{kvs:List (bh×PV)}(I:Sx f a h kvs)(n:Nat):∃p,Kq (h++r) (.ref 1) [iN n,.lst []]=some p/\uo (h++r) p=some ((t9 a n).map pL):=by
 have g:2<=h.length:=(bj.mp I.d).1;have c:iA (h++r) (.ref 1)=some (1,dC kvs):=by
  show((h++r)[1]?).bind _=_;rw[c5 g,I.d];rfl
 have e:Kq (h++r) (.ref 1) [iN n,.lst []]=if iz [.inl (n:Int)] (kvs.map λq=>[q.1])=true then eY [.inl (n:Int)] (kvs.map λq=>[q.1]) (kvs.map (·.2))else some (.lst []):=by
  unfold Kq;rw[c];rfl
 rw[e,qw,jb];cases z:bG kvs (.inl (n:Int))with
 | none=>exact⟨.lst [],rfl,by rw[I.no n z];rfl⟩
 | some p =>
  obtain⟨i,rfl,_,b⟩:=I.at_ n p z;refine⟨.ref i,rfl,?_⟩;have j:cz (h++r) (.ref i)=some (.lst,(t9 a n).map pL):=by
   show((h++r)[i]?).bind _=_;rw[c5 (bj.mp b).1,b];rfl
  unfold uo rM;rw[j]
def kP(q:Str×Int):List bh:=[.inr q.1,.inl q.2]
def hZ(L:List (Str×Int))(ps:List PV):ak:=⟨.eR true (L.map kP),ps⟩
theorem MP{p q:Str×Int}(h:kP p=kP q):p=q:=by
 obtain⟨x,l⟩:=p;obtain⟨y,k⟩:=q;injection h with b a
 injection a with a _
 injection b with b
 injection a with a
 exact Prod.ext b a
theorem tW{q:Str×Int}{L:List (Str×Int)}:kP q∈L.map kP↔q∈L:=by
 rw[au];exact⟨λ⟨p,hp,e⟩=>MP e▸hp,λh=>⟨q,h,rfl⟩⟩
theorem QO(L:List (Str×Int)):jL (L.map kP)=L.map pL:=by
 unfold jL;rw[cJ];rfl
theorem qB{k:List bh}{ks:List (List bh)}:iz k ks=true↔k∈ks:=by
 unfold iz;rw[List.any_eq_true];constructor
 ·rintro⟨j,a,b⟩;rw[<-dF b];exact a
 ·exact λh=>⟨k,h,dW rfl⟩
theorem Bv(k:List bh)(q:PV):∀(ks:List (List bh)) (ps:List PV),(ui k q ks ps).length=ps.length
 | [],ps=>by rw[rV]
 | _::_,[]=>rfl
 | _::ks,_::ps=>cS (· + 1) (Bv k q ks ps)
section
variable {hd:List ak} {c c':ak} {L:List (Str×Int)} {ps:List PV} {q:Str×Int}
theorem qC:(hd++[c])[hd.length]?=some c:=by simp
theorem tY(a:live c=true):iA (hd++[c]) (.ref hd.length)=some (hd.length,c):=by
 show((hd++[c])[hd.length]?).bind _=_;rw[qC,cW,if_pos a]
theorem Bw:(hd++[c]).set hd.length c'=hd++[c']:=by simp
theorem MQ(h1:L.length=ps.length)(f:L.Nodup)(i:L.length<4000000):∃d g,d.length=g.length/\d.Nodup/\(∀y,y∈d↔y∈L\/y=q)/\d.length<=L.length+1/\∀ρ hd,Aj (.ref hd.length) (pL q) (.bl true) ⟨ρ,hd++[hZ L ps]⟩=some ⟨ρ,hd++[hZ d g]⟩:=by
 have e:∀ρ hd,Aj (.ref hd.length) (pL q) (.bl true) ⟨ρ,hd++[hZ L ps]⟩=some ⟨ρ,hd++[mK true (kP q) (.bl true) (L.map kP) ps]⟩:=λρ hd=>by
  show(iA (hd++[hZ L ps]) (.ref hd.length)).bind _=_;rw[tY rfl,cW];show(if(L.map kP).length<fL then some (cy.mk ρ ((hd++[hZ L ps]).set hd.length (mK true (kP q) (.bl true) (L.map kP) ps)))else none)=_
  rw[if_pos (show(L.map kP).length<fL by rw[aj];exact i),Bw]
 by_cases z:q∈L
 ·refine⟨L,ui (kP q) (.bl true) (L.map kP) ps,by rw[Bv];exact h1,f,λy=>⟨.inl,λh=>h.elim id λe=>e▸z⟩,Nat.le_succ _,λρ hd=>?_⟩
  rw[e];unfold mK;rw[if_pos (qB.mpr (tW.mpr z))];rfl
 ·refine⟨L++[q],ps++[.bl true],by simp[h1],qK.mpr ⟨f,by simp,λa j b k=>?_⟩,λy=>by simp,by simp,λρ hd=>?_⟩
  ·rw[aD.mp k];rintro rfl;exact z j
  ·rw[e];unfold mK;rw[if_neg λh=>z (tW.mp (qB.mp h))]
   unfold hZ;rw[cw];rfl
theorem WR(h1:L.length=ps.length)(f:L.Nodup)(l:q∈L):∃d g p,d.length=g.length/\d.Nodup/\(∀y,y∈d↔y∈L/\y≠q)/\d.length<=L.length/\∀ρ hd,iB G4 (.ref hd.length) [pL q] ⟨ρ,hd++[hZ L ps]⟩=some (.ok p,⟨ρ,hd++[hZ d g]⟩):=by
 obtain⟨j,k⟩:∃j,(L.map kP).findIdx? (λy=>decide (y=kP q))=some j:=by
  cases e:(L.map kP).findIdx? (λy=>decide (y=kP q))with
  | some j=>exact⟨j,rfl⟩
  | none=>exact absurd (List.findIdx?_eq_none_iff.mp e _ (tW.mpr l)) (by simp)
 obtain⟨m,b,_⟩:=BF.mp k;have b:=dF b;rw[aj]at m;rw[List.getElem_map]at b;have b:=MP b;obtain⟨p,hp⟩:∃p,ps[j]?=some p:=⟨_,bC (by lia)⟩
 refine⟨L.eraseIdx j,ps.eraseIdx j,p,by rw[List.length_eraseIdx,List.length_eraseIdx,h1],f.sublist (List.eraseIdx_sublist ..),λy=>⟨λh=>⟨List.mem_of_mem_eraseIdx h,λe=>?_⟩,λh=>?_⟩,List.length_eraseIdx_le ..,λρ hd=>?_⟩
 ·obtain⟨a,u,ne,o⟩:=ID.mp h;exact ne ((qQ f).mp ((o.trans e).trans b.symm))
 ·obtain⟨i,t,e⟩:=qH h.1;refine ID.mpr ⟨i,t,λz=>?_,e⟩
  subst z;exact h.2 (e.symm.trans b)
 ·show(iA (hd++[hZ L ps]) (.ref hd.length)).bind _=_;rw[tY rfl,cW];show((((L.map kP).findIdx? λy=>decide (y=kP q)).bind λj=>(ps[j]?).map λp=>((⟨.eR true ((L.map kP).eraseIdx j),ps.eraseIdx j⟩:ak),p)).map λr=>(Rs.ok r.2,cy.mk ρ ((hd++[hZ L ps]).set hd.length r.1)))=_
  rw[k,cW,hp];show some (Rs.ok p,cy.mk ρ ((hd++[hZ L ps]).set hd.length _))=_;rw[Bw];unfold hZ;rw[gC]
end
theorem aaR:∀l:List (Str×Int),cb yX (l.map pL)=some l
 | []=>rfl
 | q::l=>by
  rw[aM,cb,aaR l];rfl
theorem Sy{l:List (Str×Int)}(h1:l.Nodup)(a:l.length<64):pV (l.map pL)=some (pU (l.map pL)):=by
 unfold pV;rw[aaR];exact if_pos ⟨h1,by rw[aj];exact a⟩
theorem MR:∀ps:List PV,(∀p∈ps,∃q,p=pL q)->∃l:List (Str×Int),ps=l.map pL
 | [],_=>⟨[],rfl⟩
 | p::ps,h=>by
  obtain⟨q,rfl⟩:=h p aJ;obtain⟨l,rfl⟩:=MR ps λr a=>h r (aH _ a)
  exact⟨q::l,rfl⟩
theorem toT_L(H:List ak):∀l:List (Str×Int),∃a,cb (toT H 999) (l.map pL)=some a
 | []=>⟨[],rfl⟩
 | q::l=>by
  obtain⟨a,e⟩:=toT_L H l;refine⟨.aq [.str q.1,.int q.2]::a,?_⟩;rw[aM,cb,e];rfl
theorem WS(H:List ak){l k:List (Str×Int)}(hp:l.Perm k):Ij H (.lst (pU (l.map pL))) (.lst (pU (k.map pL)))=some (.bl false):=by
 rw[Hf (hp.map pL) λp hp=>by
  obtain⟨q,_,rfl⟩:=au.mp hp;exact⟨q,rfl⟩]
 obtain⟨a,e⟩:=MR (pU (k.map pL)) λp hp=>by
  obtain⟨q,_,e⟩:=au.mp ((BW (k.map pL) BA).mem_iff.mp hp);exact⟨q,e.symm⟩
 rw[e];obtain⟨b,c⟩:=toT_L H a;have t:toT H eH (.lst (a.map pL))=some (.lst b):=by
  show(cb (toT H 999) (a.map pL)).bind _=_;rw[c];rfl
 show((toT H eH (.lst (a.map pL))).bind λx=>(toT H eH (.lst (a.map pL))).map λy=>eqT x y).map _=_
 rw[t];show some (PV.bl (!eqT (.lst b) (.lst b)))=_;rw[iV];rfl
section
variable {m:Md} {most:Nat} {hd:List ak} {ρ:Option PV->List (Option PV)}
structure Ln (ρ:Option PV->List (Option PV)) (i p w:Nat):Prop where
 WT:∀x q h,aU i q ⟨ρ x,h⟩=some ⟨ρ (some q),h⟩
 one:∀q h,rd i ⟨ρ (some q),h⟩=some (.ok q,⟨ρ (some q),h⟩)
 eR:∀x h,rd p ⟨ρ x,h⟩=some (.ok (.ref w),⟨ρ x,h⟩)
theorem Bx(N:Ln ρ i p hd.length):∀(b L:List (Str×Int)) (ps:List PV) (y:Option PV),L.length=ps.length->L.Nodup->L.length+b.length<4000000 ->
  ∃a c d,a.length=c.length/\a.Nodup/\a.length<=L.length+b.length/\(∀q,q∈a↔q∈L\/q∈b)/\dm (aU i) (Kr (aW (.bl true)) (rd p) (rd i)) (b.map pL) ⟨ρ y,hd++[hZ L ps]⟩=some (.ok .nx,⟨ρ d,hd++[hZ a c]⟩)
 | [],L,ps,y,e,f,_=>⟨L,ps,y,e,f,az _,λq=>by simp,rfl⟩
 | q::b,L,ps,y,e,f,g=>by
  rw[aN]at g ⊢;obtain⟨h,j,k,l,o,x,r⟩:=MQ (q:=q) e f (by lia)
  obtain⟨a,c,d,t,u,B,v,w⟩:=Bx N b h j (some (pL q)) k l (by lia)
  refine⟨a,c,d,t,u,by lia,λp=>by rw[v,o,aK,or_assoc],fC (N.WT _ _ _) ?_ w⟩
  refine eB rfl (eB (N.eR _ _) (eB (N.one _ _) ?_));show(Aj (.ref hd.length) (pL q) (.bl true) _).map _=_;rw[r];rfl
theorem tZ(N:Ln ρ i p hd.length):∀(d L:List (Str×Int)) (ps:List PV) (y:Option PV),L.length=ps.length->L.Nodup ->
  ∃b c f,b.length=c.length/\b.Nodup/\(∀q,q∈b↔q∈L/\q∉d)/\dm (aU i) (dQ (toB (op2 (jK false) (rd i) (rd p))) (fV (xE "dict" (iB G4) (rd p) (ao (rd i) (aW [])))) (aW .nx)) (d.map pL) ⟨ρ y,hd++[hZ L ps]⟩=some (.ok .nx,⟨ρ f,hd++[hZ b c]⟩)
 | [],L,ps,y,g,j=>⟨L,ps,y,g,j,λq=>by simp,rfl⟩
 | q::d,L,ps,y,g,j=>by
  have x:cz (hd++[hZ L ps]) (.ref hd.length)=some (.eR true (L.map kP),ps):=by
   show((hd++[hZ L ps])[hd.length]?).bind _=_;rw[qC];rfl
  have B:jK false (hd++[hZ L ps]) (pL q) (.ref hd.length)=some (.bl (iz (kP q) (L.map kP))):=by
   unfold jK;rw[x];rfl
  have t:Ek (toB (op2 (jK false) (rd i) (rd p))) ⟨ρ (some (pL q)),hd++[hZ L ps]⟩ (iz (kP q) (L.map kP)):=bT (b2 (N.one _ _) (N.eR _ _) B);cases z:iz (kP q) (L.map kP)with
  | false =>
   rw[z]at t;have C:q∉L:=λh=>by rw[qB.mpr (tW.mpr h)]at z;cases z
   obtain⟨b,c,f,k,l,o,u⟩:=tZ N d L ps (some (pL q)) g j;refine⟨b,c,f,k,l,λr=>(o r).trans ⟨λh=>⟨h.1,λa=>?_⟩,λh=>⟨h.1,λa=>h.2 (aH _ a)⟩⟩,fC (N.WT _ _ _) (iF t rfl) u⟩
   rcases aK.mp a with rfl | a
   ·exact C h.1
   ·exact h.2 a
  | true =>
   rw[z]at t;obtain⟨D,E,v,H,I,w,M,J⟩:=WR g j (tW.mp (qB.mp z));obtain⟨b,c,f,k,l,o,u⟩:=tZ N d D E (some (pL q)) H I;refine⟨b,c,f,k,l,λr=>(o r).trans ⟨λh=>⟨((w r).mp h.1).1,λa=>?_⟩,λh=>⟨(w r).mpr ⟨h.1,λe=>h.2 (by rw[e];exact aJ)⟩,λa=>h.2 (aH _ a)⟩⟩,fC (N.WT _ _ _) (iT t (dS (Xh (n:=hd.length) (t:=true) (ks:=L.map kP) (ps:=ps) (N.eR _ _) qC (cA (N.one _ _) rfl) (J _ hd)))) u⟩
   rcases aK.mp a with rfl | a
   ·exact((w r).mp h.1).2 rfl
   ·exact h.2 a
def fsQ(q:Rk):List (Str×Int):=(List.range (vZ q.2)).map fun(i:Nat)=>(q.1,(i:Int))
theorem WV{x:Str}{l:Int}:(x,l)∈m.LT.flatMap fsQ↔MJ m 0 x l:=by
 show _↔(⟨0,x,l⟩:Fe)∈m.LT.flatMap Iy;rw[c6,c6];constructor
 ·rintro⟨q,a,h⟩
  obtain⟨i,b,e⟩:=au.mp h;cases e;exact⟨q,a,au.mpr ⟨i,b,rfl⟩⟩
 ·rintro⟨q,a,h⟩
  obtain⟨i,b,e⟩:=au.mp h;cases e;exact⟨q,a,au.mpr ⟨i,b,rfl⟩⟩
theorem Sz(f:CT)(A K M:Option PV)(x:Str):∀(c:List Nat) (L:List (Str×Int)) (ps:List PV) (d:Option PV),L.length=ps.length->L.Nodup->L.length+c.length<4000000 ->
  ∃b e g,b.length=e.length/\b.Nodup/\b.length<=L.length+c.length/\(∀q,q∈b↔q∈L\/q∈c.map fun(i:Nat)=>(x,(i:Int)))/\dm (aU 5) (lq f) (c.map ni) ⟨[A,some (.ref hd.length),some (.str x),K,M,d],hd++[hZ L ps]⟩=some (.ok .nx,⟨[A,some (.ref hd.length),some (.str x),K,M,g],hd++[hZ b e]⟩)
 | [],L,ps,d,h,j,_=>⟨L,ps,d,h,j,az _,λq=>by simp,rfl⟩
 | i::c,L,ps,d,h,j,k=>by
  rw[aN]at k ⊢;obtain⟨l,o,r,t,u,D,v⟩:=MQ (q:=(x,(i:Int))) h j (by lia)
  obtain⟨b,e,g,w,y,E,B,C⟩:=Sz f A K M x c l o (some (iN i)) r t (by lia)
  refine⟨b,e,g,w,y,by lia,λp=>by rw[B,u,aM,aK,or_assoc],?_⟩
  rw[aM,Wz];refine fC (s1:=⟨[A,some (.ref hd.length),some (.str x),K,M,some (iN i)],hd++[hZ L ps]⟩) rfl ?_ C;unfold lq;refine eB rfl (eB rfl (eB (a:=pL (x,(i:Int))) rfl ?_));show(Aj (.ref hd.length) (pL (x,(i:Int))) (.bl true) _).map _=_;rw[v];rfl
theorem F7(k:Nat)(hk:7<=k){ks:List Rk}(K:lx ks)(A:Option PV):∀(c:List Rk) (L:List (Str×Int)) (ps:List PV) (h i f a:Option PV),L.length=ps.length->L.Nodup->L.length+3*c.length<4000000->(∀q∈c,q∈ks) ->
  ∃e l o u v w,e.length=l.length/\e.Nodup/\(∀q,q∈e↔q∈L\/q∈c.flatMap fsQ)/\dm Qr (uE (run txt k)) (c.map bu) ⟨[A,some (.ref hd.length),h,i,f,a],hd++[hZ L ps]⟩=some (.ok .nx,⟨[A,some (.ref hd.length),o,u,v,w],hd++[hZ e l]⟩)
 | [],L,ps,h,i,f,a,y,B,_,_=>⟨L,ps,h,i,f,a,y,B,λq=>by simp,rfl⟩
 | q::c,L,ps,h,i,f,a,y,B,C,D=>by
  rw[aN]at C;have E:=D q aJ;have hc:=FO K E;obtain⟨j,rfl⟩:∃j,k=j+1:=⟨k-1,by lia⟩
  obtain⟨I,J,M,N,Q,R,T,X⟩:=Sz (hd:=hd) (run txt (j+1)) A (some (encK q.2)) (some (iN (vZ q.2))) q.1 (List.range (vZ q.2)) L ps a y B (by rw[ez];lia)
  rw[ez]at R;obtain⟨e,l,o,u,v,w,Y,Z,a3,a4⟩:=F7 (j+1) hk K A c I J (some (.str q.1)) (some (encK q.2)) (some (iN (vZ q.2))) M N Q (by lia) λr hr=>D r (aH _ hr)
  refine⟨e,l,o,u,v,w,Y,Z,λp=>by rw[a3,T,fw,bA,or_assoc];rfl,?_⟩
  refine fC (s1:=⟨[A,some (.ref hd.length),some (.str q.1),some (encK q.2),f,a],hd++[hZ L ps]⟩) rfl ?_ a4;have t:Ek Qq ⟨[A,some (.ref hd.length),some (.str q.1),some (encK q.2),some (.int 1),a],hd++[hZ L ps]⟩ (!d9 q.2):=bT (b2 (b2 rfl rfl (jz _ _)) rfl (Bs _ _));have ti:Ev (dQ Qq (dc (gm gM (ao (bnd Q6 (bK 0 1 (run txt (j+1) "_law_leaves"))) (aW []))) (aU 4)) (aW .nx)) ⟨[A,some (.ref hd.length),some (.str q.1),some (encK q.2),some (.int 1),a],hd++[hZ L ps]⟩ .nx ⟨[A,some (.ref hd.length),some (.str q.1),some (encK q.2),some (iN (vZ q.2)),a],hd++[hZ L ps]⟩:=by
   cases g:d9 q.2 with
   | true=>rw[g]at t;unfold vZ;rw[g];exact iF t rfl
   | false =>
    rw[g]at t;unfold vZ;rw[g];obtain⟨x,d⟩:=q;cases d with
    | ho b s=>cases g
    | ow s =>
     have H:=K.good _ E;have q8:=H.1.1.2;have C:(lv s).length<=3:=H.2;have hv:=jc s j (by simp only[bN]at q8;lia) (by lia)
     refine iT t (aS (bV (cA (da (as:=[enc s]) (cA rfl rfl) rfl (by simp[ai,c8]) hv) rfl) ?_) rfl)
     show some (PV.int ((bX (lv s)).length:Int))=_;rw[dX];rfl
  exact sq (aS rfl rfl) (sq ti (fS (lu (j:=vZ q.2) (cA rfl rfl) (by lia)) X))
theorem By(k:Nat)(hk:7<=k)(h:cD m most)(hd:List ak):∃L ps,L.length=ps.length/\L.Nodup/\(∀q:Str×Int,q∈L↔MJ m 0 q.1 q.2)/\run txt (k+1) "_law_at_first" [.aq (m.LT.map bu)] hd=some (.ok (.ref hd.length),hd++[hZ L ps]):=by
 obtain⟨L,ps,e,f,g,i,a,b,c,d⟩:=F7 (hd:=hd) k hk h.ks (some (.aq (m.LT.map bu))) m.LT [] [] none none none none rfl jX (by rw[D2];simp) v3
 refine⟨L,ps,a,b,λq=>by rw[c];simp only[fx,false_or];exact WV,?_⟩
 rw[uF];exact gz (sq rfl (sq (fS (sV rfl rfl) d) (rS rfl)))
end
section
variable {m:Md} {most:Nat} {ah:dM} {cs:List Nat} {hd:List ak} {kvs:List (bh×PV)}
theorem QP(h:cD m most){j:Nat}{r:Ro}(a:m.L[j]?=some r):(IA r).length<=12:=by
 have ok:=h.ok r (cH a);have len:∀(x:Str) (f n:Int),(Bp x f n).length=n.toNat:=λx f n=>by unfold Bp;rw[aj,ez]
 have one:∀s:Sp,cC m.ks s->(QG s).length<=3:=λs b=>by
  unfold QG;rw[len,sU _ _ b.row];have k:=(oH _ _ b.row).2;have c:(lv (bN s.d)).length<=3:=(h.ks.good _ b.mem).2;show((lv s.r.2.2.2).length:Int).toNat<=3
  lia
 cases r with
 | kr t s=>have:=one s ok.2.1;exact bP this (by decide)
 | drop s=>have:=one s ok.1;exact bP this (by decide)
 | call o j g =>
  have p:=ok.2.2.2.2.1;have hk:=ok.2.2.2.1;have:∀l:List Rk,(∀q∈l,q∈m.ks)->(l.flatMap MB).length<=3*l.length:=λl=>by
   induction l with
   | nil=>simp
   | cons q l ih =>
    intro i;have u:=ih λr a=>i r (aH _ a)
    have v:(MB q).length<=3:=by
     have c:=(h.ks.good _ (i q aJ)).2;unfold MB;split
     ·rename_i s e;rw[e]at c;split
      ·simp
      ·rw[len];exact c
     ·simp
    rw[fw,aV,aN]
    lia
  have:=this g hk;show(g.flatMap MB).length<=12
  lia
 | _=>exact fJ _
theorem WX(h:cD m most)(a:jd m cs)(T:Iz m cs ah){j:Nat}(b:j<m.L.length){L:List (Str×Int)}(k:L.Nodup)(r:∀q∈L,MJ m j q.1 q.2):L.length<=30:=by
 have e:(m.ks.flatMap λp=>(List.range 3).map fun(i:Nat)=>(p.1,(i:Int))).length=30:=by
  rw[tK (c:=3) _ λ_ _=>by simp,me]
 rw[<-e];refine gD L _ k λq u=>?_
 obtain⟨⟨d,g,_⟩,hk⟩:=(ML h a T j b).2 _ _ (r q u);obtain⟨t,ht,v⟩:=au.mp hk.2;obtain⟨f,w,o⟩:=T.ok t ht;cases D3 (w.symm.trans v);have o:=o.l;obtain⟨x,l⟩:=q;refine c6.mpr ⟨_,g,au.mpr ⟨l.toNat,c7.mpr (by simp only at o;lia),?_⟩⟩
 rw[lF o.1]
noncomputable abbrev Xp(S W P F V:PV)(w:Nat)(a b c d e f g:Option PV)(h:List ak):cy:=⟨[some S,some W,some P,some F,some (.ref 0),some (.ref 1),a,b,c,d,some V,some (.ref w),e,f,g],h⟩
theorem WY(k:Nat)(hk:5<=k)(h:cD m most)(C:jd m cs)(T:Iz m cs ah)(I:Sx (D7 m) ah hd kvs)(S W P F:PV)(f g i o v:Option PV){j:Nat}{r:Ro}(b:m.L[j]?=some r){L:List (Str×Int)}{ps:List PV}(h1:L.length=ps.length)(w:L.Nodup)(D:∀q,q∈L↔MJ m j q.1 q.2) :
  ∃y Q E,y.length=Q.length/\y.Nodup/\(∀q,q∈y↔MJ m (j+1) q.1 q.2)/\Ev (Fd (run txt (k+4))) (Xp S W P F (SV m) hd.length f g i o (some (iN j)) (some (bW m.fn r)) v (hd++[hZ L ps])) .nx (Xp S W P F (SV m) hd.length f g i o (some (iN j)) (some (bW m.fn r)) E (hd++[hZ y Q])):=by
 have ok:=h.ok r (cH b);have R:=(bj.mp b).1;have Z:2<=hd.length:=(bj.mp I.d).1;have l1:=WX h C T R w λq hq=>(D q).mp hq
 have l2:=QP h b;have X:∀c:ak,(hd++[c])[0]?=some (D7 m):=λc=>by rw[c5 (by lia)];exact I.z
 have N:Ln (λx=>[some S,some W,some P,some F,some (.ref 0),some (.ref 1),f,g,i,o,some (SV m),some (.ref hd.length),some (iN j),some (bW m.fn r),x]) 14 11 hd.length:=⟨λ_ _ _=>rfl,λ_ _=>rfl,λ_ _=>rfl⟩
 obtain⟨J,M,Y,a1,a2,a3,a4,a5⟩:=Bx N (IA r) L ps v h1 w (by lia)
 obtain⟨L2,p2,y2,b1,WU,b3,b4⟩:=tZ N (WI r) J M Y a1 a2;have hp:(t9 ah (nC m j)).Perm L:=(List.perm_ext_iff_of_nodup (D9 ah T.nd) w).mpr λq=>by
  obtain⟨x,l⟩:=q;rw[F6,D];exact⟨aaO h C T b,λz=>((ML h C T j R).2 x l z).2.2⟩
 have l4:=hp.length_eq;refine⟨L2,p2,y2,b1,WU,λq=>?_,?_⟩
 ·rw[b3,a4,D];exact⟨λz=>⟨r,b,z.1,z.2⟩,λ⟨r',e,z1,z2⟩=>by cases bI (b.symm.trans e);exact⟨z1,z2⟩⟩
 have e1:=D8 (H:=hd++[hZ L ps]) k hk h (X _) ok;have e2:=Ib (H:=hd++[hZ J M]) k hk h (X _) ok;obtain⟨s,u⟩:∃s:cy,s=Xp S W P F (SV m) hd.length f g i o (some (iN j)) (some (bW m.fn r)) v (hd++[hZ L ps]):=⟨_,rfl⟩
 have B:s.h=hd++[hZ L ps]:=by rw[u]
 obtain⟨p,g1,g2⟩:=aaQ (r:=[hZ L ps]) I (nC m j);have s1:Ev (KQ (xE "dict" OU (rd 5) (ao (op2 bQ (rd 10) (rd 12)) (ao (kO .lst (aW [])) (aW []))))) s (.lst (pU ((t9 ah (nC m j)).map pL))) s:=by
  refine eB (a:=p) (s1:=s) (Xh (n:=1) (t:=false) (s1:=s) (s2:=s) (as:=[iN (nC m j),.lst []]) (by rw[u];rfl) (by rw[B,c5 Z];exact I.d) (by rw[u];exact cA (b2 rfl rfl (aaM b _)) (cA rfl rfl)) ?_) ?_
  ·show(Kq s.h (.ref 1) _).map _=_;rw[B,g1];rfl
  ·show(((uo s.h p).bind pV).map PV.lst).map _=_;rw[B,g2,cW,Sy (D9 ah T.nd) (by lia)]
   rfl
 have s2:Ev (KQ (rd 11)) s (.lst (pU (L.map pL))) s:=by
  refine eB (a:=.ref hd.length) (s1:=s) (by rw[u];rfl) ?_
  have e:uo (hd++[hZ L ps]) (.ref hd.length)=some (L.map pL):=by
   have dr:rM (hd++[hZ L ps]) (.ref hd.length)=none:=by
    have:cz (hd++[hZ L ps]) (.ref hd.length)=some (.eR true (L.map kP),ps):=by
     show((hd++[hZ L ps])[hd.length]?).bind _=_;rw[qC];rfl
    unfold rM;rw[this]
   unfold uo;rw[dr];show(iA (hd++[hZ L ps]) (.ref hd.length)).bind _=_;rw[tY rfl,<-QO];rfl
  show(((uo s.h (.ref hd.length)).bind pV).map PV.lst).map _=_;rw[B,e,cW,Sy w (by lia)]
  rfl
 rw[<-u];refine sq (iF (bT (b2 s1 s2 (WS _ hp))) rfl) ?_;rw[u];refine sq (fS (sV (MZ (s1:=Xp S W P F (SV m) hd.length f g i o (some (iN j)) (some (bW m.fn r)) v (hd++[hZ L ps])) (as:=[.ref 0,bW m.fn r]) (cA rfl (cA rfl rfl)) rfl (by simp[ai,noRef]) e1) rfl) a5) ?_
 exact fS (sV (MZ (s1:=Xp S W P F (SV m) hd.length f g i o (some (iN j)) (some (bW m.fn r)) Y (hd++[hZ J M])) (as:=[.ref 0,bW m.fn r]) (cA rfl (cA rfl rfl)) rfl (by simp[ai,noRef]) e2) rfl) b4
theorem MS(k:Nat)(hk:5<=k)(h:cD m most)(l:jd m cs)(T:Iz m cs ah)(I:Sx (D7 m) ah hd kvs)(S W P F:PV)(c d f g:Option PV):∀(a:List Ro) (n:Nat) (o p i:Option PV) (L:List (Str×Int)) (ps:List PV),m.L.drop n=a->L.length=ps.length->L.Nodup->(∀q,q∈L↔MJ m n q.1 q.2) ->
  ∃s,dm (iR 2 (dk (aU 12) (dk (aU 13) oi))) (Fd (run txt (k+4))) (eJ n (a.map (bW m.fn))) (Xp S W P F (SV m) hd.length c d f g o p i (hd++[hZ L ps]))=some (.ok .nx,s)
 | [],_,_,_,_,_,_,_,_,_,_=>⟨_,rfl⟩
 | r::a,n,o,p,i,L,ps,b,u,v,w=>by
  have t:n<m.L.length:=by
   apply Classical.byContradiction;intro z;rw[List.drop_eq_nil_of_le (by lia)]at b
   cases b
  rw[lz t]at b;injection b with e1 x
  have y:m.L[n]?=some r:=by rw[bC t,e1]
  obtain⟨B,C,j,D,E,H,e⟩:=WY k hk h l T I S W P F c d f g i y u v w;obtain⟨s,z⟩:=MS k hk h l T I S W P F c d f g a (n+1) (some (iN n)) (some (bW m.fn r)) j B C x D E H;exact⟨s,fC rfl e z⟩
theorem WZ{a fb:Gx PV}{s:cy}(b:Ev a s (.aq (m.P.map bu)) s)(d:Ev fb s (.aq (m.LT.map bu)) s):Ev (EY a fb) s (.ref s.h.length) ⟨s.ρ,s.h++[D7 m]⟩:=by
 have e1:Ha (m.P.map bu++m.LT.map bu)=some (D7 m):=by
  rw[<-cw];exact QK vW (by have:=@me m;unfold Md.ks at this;lia)
 have hp:(m.P.map bu).isEmpty=false:=by
  have:=@me m;unfold Md.P;split<;>rfl
 refine eB b (eB d ?_);show(if((m.P.map bu).isEmpty || (m.LT.map bu).isEmpty)=true then none else(Ha (m.P.map bu++m.LT.map bu)).bind λc=>lU c s)=_
 rw[hp,if_neg (by show ¬((false || false)=true);decide),e1]
 rfl
theorem SA:∀l:List (Nat×b6),ai (l.map eN)=true
 | []=>rfl
 | q::l=>by rw[aM,ai,SA l];rfl
end
noncomputable def Xq:List Str:=["put","set","fill","copy","move","move","drop","drop","lend","lend","call"]
noncomputable def aaS:List Str:=["call","say","put"]
theorem MT(a:List Int)(_:a.length<=63):Yes (run txt 21 "law" [ya a] []):=by
 obtain⟨m,hp,ok⟩:=HX 16 (by decide) a 20 (by decide) (W:=Xq++aaS) (by decide) (by decide +kernel)
 obtain⟨cs,hc,c⟩:=WQ ok (by decide)
 obtain⟨g,v,T⟩:=Ia 16 (by decide) ok (by decide) (hc 16 (by decide)) c
 have w:=yM ok (by decide) 19 (by decide)
 have Q:=Ic 19 ok (by decide)
 have zU:g.length<=5000:=by
  have R:=Mx ok (by decide) c
  have:=gD (g.map (·.1)) (UE m cs) T.nd λx X=>by
   obtain⟨t,ht,rfl⟩:=au.mp X;obtain⟨f,e,o⟩:=T.ok t ht;rw[e];exact D5 o
  rw[aj,Mv]at this
  lia
 have i:=FK ok;have Y:Sx (D7 m) [] [D7 m,dC []] []:=⟨rfl,rfl,az _,λ_ _=>rfl,λ_ _ z=>(nomatch z),λ_ _ _ z=>nomatch z⟩
 obtain⟨hd,Z,y,B,C,D,I,j⟩:=tV (some (ya a)) (some (.lst (Xq.map .str))) (some m.prog) (some m.F1) (some (.ref 0)) [none,none,none,none,none] g [] [D7 m,dC []] [] none none none none Y (λt ht=>by obtain⟨f,e,_⟩:=T.ok t ht;exact⟨f,e⟩) (by simp;lia)
 rw[gi]at I;obtain⟨L,ps,k,l,p,af⟩:=By 19 (by decide) ok hd
 obtain⟨E,q⟩:=MS 16 (by decide) ok c T I (ya a) (.lst (Xq.map .str)) m.prog m.F1 y B C D m.L 0 none none none L ps rfl k l p
 have b:∀H,bQ H m.prog (.int 1)=some m.F1:=D1
 have J:∀H,bQ H m.F1 (.int 1)=some (.aq (m.P.map bu)):=λ_=>rfl
 have r:∀H,bQ H m.F1 (.int 3)=some (.aq (m.LT.map bu)):=λ_=>rfl
 have M:∀H,bQ H m.F1 (.int 4)=some (.aq m.rows):=λ_=>rfl
 have hp:Gives (run txt 20 "_law_program" [ya a,.int 20,.lst ((Xq++aaS).map .str)] []) m.prog:=hp;have fR:uk (.aq m.rows)=some (m.L.map (bW m.fn)):=rfl;have hne:hd.isEmpty=false:=by
  have:=(bj.mp I.d).1;cases hd with
  | nil=>simp at this
  | cons=>rfl
 obtain⟨F1,u⟩:=nw m.F1;obtain⟨P,hP⟩:=nw m.prog;rw[<-u]at b J r M j q;rw[<-hP]at hp w v i j q b;have e:∃N,run txt 21 "law" [ya a] []=some (.ok (.bl true),N):=by
  rw[Pw];refine⟨_,gz (yb:=E.ρ) (h':=E.h) ?_⟩;refine sq rfl ?_;refine sq (aS (da (cA rfl (cA rfl (cA (b2 rfl rfl (by rw[cw];exact aL (by simp))) rfl))) rfl rfl hp) rfl) ?_
  refine sq (aS (b2 rfl rfl (b _)) rfl) ?_;refine sq (aS (WZ (m:=m) (b2 rfl rfl (J _)) (b2 rfl rfl (r _))) rfl) ?_;refine sq (s1:=⟨[some (ya a),some (.lst (Xq.map .str)),some P,some F1,some (.ref 0),some (.ref 1),none,none,none,none,none,none,none,none,none],[D7 m,dC []]⟩) rfl ?_;refine sq (fS (sV (da (cA rfl (cA rfl rfl)) rfl (by simp[ai,i,noRef]) v) rfl) j) ?_
  refine sq (aS (da (as:=[.lst (m.as.map eN)]) (cA (da (cA rfl (cA rfl rfl)) rfl (by simp[ai,i,noRef]) w) rfl) rfl (by simp[ai,noRef,SA]) Q) rfl) ?_
  refine sq (aS (MZ (s1:=⟨[some (ya a),some (.lst (Xq.map .str)),some P,some F1,some (.ref 0),some (.ref 1),y,B,C,D,some (SV m),none,none,none,none],hd⟩) (as:=[.aq (m.LT.map bu)]) (cA (b2 rfl rfl (r _)) rfl) rfl rfl af) rfl) ?_;exact sq (fS (sG (eV (b2 rfl rfl (M _)) fR)) q) (rS rfl)
 obtain⟨N,e⟩:=e;exact⟨_,e⟩
end cq
open PySem PySem.W PyProof.Rows PySem.Calls
theorem PySem.Challenge.cw_lendrule_k24_empty_in_a_straight_functio_holds : PySem.Challenge.rw_lendrule_k24_empty_in_a_straight_functio.Holds := by
 exact cq.la λd a b=>L2.U.Lq (P:=cq.txt) (N:=21) (st:=cq.aaa) (x:="_law_script") (l:=PySem.Challenge.rw_lendrule_k24_empty_in_a_straight_functio) (by kernel_rfl) (by kernel_rfl) rfl a b ⟨rfl,by decide,by decide⟩ (by kernel_rfl) (λw h Y=>Y) cq.MT
end
